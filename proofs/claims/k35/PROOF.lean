import PyProof.Rows.All
import Wide.All
import OpenK.AllK
import Wide.FinOn
import HandS.ForMost
import HandS.ForExc
import HandS.IsInst
import HandS.Property
import HandS.OwnEq
import HandS.Wide
import HandS.TupAny
import HandS.Deep
import HandS.Zip
import HandS.Walk
import KE.KeyNested
import KE.KDictKeyed
import HandS.Conv
import KE.KExcSuper
import HandS.ExcInit
import HandS.ExcField
import HandS.ExcIs
import HandS.Lambda
import HandS.FStr
import HandS.ExcOwn
import PyProof.InstNe
import KE.KExcIs
import HandS.TupMul
import HandS.EndTab
import PyProof.StrBlock2
import HandS.NoneIn
import HandS.SortKw
import HandS.WideBits
import HandS.Style
import KE.DataMinMax
import HandS.Strs
import PyProof.EnumMake
import PyProof.Draws
import HandS.Set
import HandS.RaiseMore
import KE.SortData
import HandS.Text
import HandS.Replace
import HandS.DictComp
import HandS.Dict
import KE.GoesRaise
import KE.SortKeyHeap
import HandS.Flow
import HandS.Rev
import HandS.SetFor
import KE.DataFind
import KE.KDictWalk
import KE.KDictCopyH
import KE.KDictList
import KE.KDictSum
import KE.KDictPairs
import PyProof.P3In
import KE.DataMinKey
import HandS.SetBool
import HandS.CallLocal
import PySem.Challenge.RW_coldcrates_k35_speaking_rejected
import HandS.EndOwn
import KE.KNestM
set_option Elab.async false
set_option linter.all false
set_option maxRecDepth 100000
set_option maxHeartbeats 8000000
namespace Cc
open PySem L2

inductive D where
  | non
  | bl (b : Bool)
  | int (i : Int)
  | str (x : Str)
  | lst (ds : List D)
  | tup (ds : List D)
  /-- a tuple that is known to have no dict of its own -/
  | ptup (ds : List D)
  | ob (C : Addr) (ns : List Str) (ds : List D)
  /-- a reference, nothing is said of what stands there -/
  | adr (a : Addr)
  /-- a dict whose keys are tuples -/
  | dct (w : World) (ks : List NestedKey) (ds : List D)
  /-- a dict whose keys are ints and texts -/
  | dks (ks : List Key) (ds : List D)
abbrev Fg := PySem.W.Frag
def PlO (o : Obj) : Prop := o.cls = .type "tuple" ∧ o.dict = none
def PlT (H : Hp) (p : Addr) (xs : List V) : Prop := ∃ o, PlO o ∧ H p = some (.frz o (.tup xs))
theorem PlT.sq {K : Fg} {H : Hp} {p : Addr} {xs : List V} (h : PlT H p xs) : SqT K H p xs := by
  obtain ⟨o, _, e⟩ := h
  exact .inl (.inr ⟨o, e⟩)
mutual
/-- the value is the key -/
inductive NkV (H : Hp) : NestedKey → V → Prop
  | none : NkV H .none .non
  | int (i : Int) : NkV H (.num i) (.int i)
  | text (x : Str) : NkV H (.text x) (.str x)
  | tup {b : Addr} {ks : List NestedKey} {vs : List V} : PlT H b vs → NkVs H ks vs → NkV H (.tup ks) (.ref b)
inductive NkVs (H : Hp) : List NestedKey → List V → Prop
  | nil : NkVs H [] []
  | cons {k : NestedKey} {v : V} {ks : List NestedKey} {vs : List V} : NkV H k v → NkVs H ks vs → NkVs H (k :: ks) (v :: vs)
end
mutual
theorem NkV.ext {H H' : Hp} (e : ∀ b ys, PlT H b ys → PlT H' b ys) : ∀ (k : NestedKey) (v : V), NkV H k v → NkV H' k v
  | .none, _, h => by cases h; exact .none
  | .num i, _, h => by cases h; exact .int i
  | .text x, _, h => by cases h; exact .text x
  | .tup ks, _, h => by
    cases h with
    | tup hb hk => exact .tup (e _ _ hb) (NkVs.ext e ks _ hk)
theorem NkVs.ext {H H' : Hp} (e : ∀ b ys, PlT H b ys → PlT H' b ys) : ∀ (ks : List NestedKey) (vs : List V), NkVs H ks vs → NkVs H' ks vs
  | [], _, h => by cases h; exact .nil
  | k :: ks, _, h => by
    cases h with
    | cons h1 h2 => exact .cons (NkV.ext e k _ h1) (NkVs.ext e ks _ h2)
end
abbrev Ent := NestedKey × Addr × Value
def ent (w : World) (x : Ent) : DictEntry := ⟨x.1.hash w, .ref x.2.1, x.2.2⟩
def DnO (a : Addr) (es : Array DictEntry) (ep : Nat) : HO := .ext fun h => (∃ o, h.get? a = some o ∧ o.ExactDict ∧ o.data = .dict es ep) ∧ es.size ≤ sizeLine ∧ (a == sysModules) = false
structure DnE (H : Hp) (w : World) (es : Array DictEntry) (xs : List Ent) (vs : List V) : Prop where
  es : es.toList = xs.map (ent w)
  nd : (xs.map (·.1)).Nodup
  key : ∀ x ∈ xs, NkV H x.1 (.ref x.2.1) ∧ x.1.depth ≤ 8
  val : Vals vs (xs.map (·.2.2))
theorem DnE.ext {H H' : Hp} {w : World} {es : Array DictEntry} {xs : List Ent} {vs : List V} (h : DnE H w es xs vs) (e : ∀ b ys, PlT H b ys → PlT H' b ys) : DnE H' w es xs vs := ⟨h.es, h.nd, fun x hx => ⟨NkV.ext e _ _ (h.key x hx).1, (h.key x hx).2⟩, h.val⟩
mutual
/-- the value v denotes the data d at the heap H -/
inductive Dn (K : Fg) (H : Hp) : V → D → Prop
  | non : Dn K H .non .non
  | bl (b : Bool) : Dn K H (.bl b) (.bl b)
  | int (i : Int) : Dn K H (.int i) (.int i)
  | str (x : Str) : Dn K H (.str x) (.str x)
  | lst {a : Addr} {xs : List V} {ds : List D} : H a = some (.lst xs) → Dns K H xs ds → Dn K H (.ref a) (.lst ds)
  | tup {a : Addr} {xs : List V} {ds : List D} : SqT K H a xs → Dns K H xs ds → Dn K H (.ref a) (.tup ds)
  | ptup {a : Addr} {xs : List V} {ds : List D} : PlT H a xs → Dns K H xs ds → Dn K H (.ref a) (.ptup ds)
  | ob {a C dx : Addr} {fs : List (Str × V)} {ns : List Str} {ds : List D} : H a = some (.ins C dx fs) → fs.map (·.1) = ns → Dns K H (fs.map (·.2)) ds → Dn K H (.ref a) (.ob C ns ds)
  | adr (a : Addr) : Dn K H (.ref a) (.adr a)
  | dct {a : Addr} {es : Array DictEntry} {ep : Nat} {w : World} {xs : List Ent} {ks : List NestedKey} {vs : List V} {ds : List D} : H a = some (DnO a es ep) → DnE H w es xs vs → ks = xs.map (·.1) → Dns K H vs ds → Dn K H (.ref a) (.dct w ks ds)
  | dks {a : Addr} {ks : List Key} {vs : List V} {ds : List D} : H a = some (.dK (ks.zip vs)) → ks.length = vs.length → Dns K H vs ds → Dn K H (.ref a) (.dks ks ds)
inductive Dns (K : Fg) (H : Hp) : List V → List D → Prop
  | nil : Dns K H [] []
  | cons {v : V} {vs : List V} {d : D} {ds : List D} : Dn K H v d → Dns K H vs ds → Dns K H (v :: vs) (d :: ds)
end
def immO : HO → Bool
  | .tup _ => true
  | .frz _ _ => true
  | .ins _ _ _ => true
  | _ => false
def Kp (H H' : Hp) : Prop := ∀ b o, H b = some o → immO o = true → H' b = some o
theorem Kp.refl (H : Hp) : Kp H H := fun _ _ h _ => h
theorem Kp.trans {H H1 H2 : Hp} (a : Kp H H1) (b : Kp H1 H2) : Kp H H2 := fun c o h i => b c o (a c o h i) i
theorem Kp.of {H H' : Hp} (e : Same H H') : Kp H H' := fun b o h _ => e b o h
theorem Kp.upd {H : Hp} {l : Addr} {u o : HO} (h : H l = some u) (hi : immO u = false) : Kp H (upd H l o) := fun b q e i => by
  rw [upd_ne]
  · exact e
  · rintro rfl
    rw [h] at e
    cases e
    rw [hi] at i
    cases i
def But (M : List Addr) (H H' : Hp) : Prop := ∀ b o, H b = some o → b ∉ M → H' b = some o
theorem But.refl (M : List Addr) (H : Hp) : But M H H := fun _ _ h _ => h
theorem But.trans {M : List Addr} {H H1 H2 : Hp} (a : But M H H1) (b : But M H1 H2) : But M H H2 := fun c o h i => b c o (a c o h i) i
theorem But.of {M : List Addr} {H H' : Hp} (e : Same H H') : But M H H' := fun b o h _ => e b o h
theorem But.same {H H' : Hp} (e : But [] H H') : Same H H' := fun b o h => e b o h (by simp)
theorem But.upd {M : List Addr} {H : Hp} {l : Addr} {o : HO} (h : l ∈ M) : But M H (upd H l o) := fun b u e n => by
  have hb : b ≠ l := by
    rintro rfl
    exact n h
  rw [upd_ne hb]
  exact e
theorem But.mono {M M' : List Addr} {H H' : Hp} (e : But M H H') (h : ∀ m ∈ M, m ∈ M') : But M' H H' := fun b o q n => e b o q fun z => n (h b z)
theorem But.kp {M : List Addr} {H H' : Hp} (e : But M H H') (hm : ∀ m ∈ M, ∀ o, H m = some o → immO o = false) : Kp H H' := fun b o h i => e b o h fun z => by
  rw [hm b z o h] at i
  cases i
theorem But.fresh {M : List Addr} {H H1 H2 : Hp} (e : Same H H1) (b : But M H1 H2) (hm : ∀ m ∈ M, H m = none) : Same H H2 := fun c o h => b c o (e c o h) fun z => by
  rw [hm c z] at h
  cases h
theorem Same.new {H : Hp} {p : Addr} {o : HO} (h : H p = none) : Same H (upd H p o) := fun a u e => by
  rw [upd_ne (ne_of_none e h)]
  exact e
theorem Same.mut {H H' : Hp} {p : Addr} {o : HO} (e : Same H H') (h : H p = none) : Same H (upd H' p o) := fun a u ha => by
  rw [upd_ne (ne_of_none ha h)]
  exact e a u ha
mutual
/-- no lists in it -/
def D.fix : D → Bool
  | .lst _ => false
  | .tup ds => D.fixs ds
  | .ptup ds => D.fixs ds
  | .ob _ _ ds => D.fixs ds
  | .dct _ _ _ => false
  | .dks _ _ => false
  | _ => true
def D.fixs : List D → Bool
  | [] => true
  | d :: ds => d.fix && D.fixs ds
end
theorem D.fixs_iff {ds : List D} : D.fixs ds = true ↔ ∀ d ∈ ds, d.fix = true := by
  induction ds with
  | nil => simp [D.fixs]
  | cons d ds ih => simp [D.fixs, ih]
section
variable {K : Fg} {H H' : Hp}
theorem kp_t (e : Kp H H') {a : Addr} {xs : List V} (h : SqT K H a xs) : SqT K H' a xs := by
  rcases h with (h | ⟨o, h⟩) | h
  · exact .inl (.inl (e _ _ h rfl))
  · exact .inl (.inr ⟨o, e _ _ h rfl⟩)
  · exact .inr h
theorem same_t (e : Same H H') {a : Addr} {xs : List V} (h : SqT K H a xs) : SqT K H' a xs := kp_t (.of e) h
theorem same_l (e : Same H H') {a : Addr} {xs : List V} (h : SqL K H a xs) : SqL K H' a xs := e.seq h
mutual
theorem Dn.kp (e : Kp H H') : ∀ (d : D) (v : V), d.fix = true → Dn K H v d → Dn K H' v d
  | .non, _, _, h => by cases h; exact .non
  | .bl b, _, _, h => by cases h; exact .bl b
  | .int i, _, _, h => by cases h; exact .int i
  | .str x, _, _, h => by cases h; exact .str x
  | .lst _, _, f, _ => by cases f
  | .tup ds, _, f, h => by
    cases h with
    | tup hs ha => exact .tup (kp_t e hs) (Dns.kp e ds _ f ha)
  | .ptup ds, _, f, h => by
    cases h with
    | ptup hs ha =>
      obtain ⟨o, po, h⟩ := hs
      exact .ptup ⟨o, po, e _ _ h rfl⟩ (Dns.kp e ds _ f ha)
  | .ob C ns ds, _, f, h => by
    cases h with
    | ob ho hn ha => exact .ob (e _ _ ho rfl) hn (Dns.kp e ds _ f ha)
  | .adr a, _, _, h => by cases h; exact .adr a
  | .dct _ _ _, _, f, _ => by cases f
  | .dks _ _, _, f, _ => by cases f
theorem Dns.kp (e : Kp H H') : ∀ (ds : List D) (vs : List V), D.fixs ds = true → Dns K H vs ds → Dns K H' vs ds
  | [], _, _, h => by cases h; exact .nil
  | d :: ds, _, f, h => by
    cases h with
    | cons h1 h2 =>
      have f' : d.fix = true ∧ D.fixs ds = true := by simpa [D.fixs] using f
      exact .cons (Dn.kp e d _ f'.1 h1) (Dns.kp e ds _ f'.2 h2)
end
mutual
theorem Dn.same (e : Same H H') : ∀ (d : D) (v : V), Dn K H v d → Dn K H' v d
  | .non, _, h => by cases h; exact .non
  | .bl b, _, h => by cases h; exact .bl b
  | .int i, _, h => by cases h; exact .int i
  | .str x, _, h => by cases h; exact .str x
  | .lst ds, _, h => by
    cases h with
    | lst hs ha => exact .lst (e _ _ hs) (Dns.same e ds _ ha)
  | .tup ds, _, h => by
    cases h with
    | tup hs ha => exact .tup (same_t e hs) (Dns.same e ds _ ha)
  | .ptup ds, _, h => by
    cases h with
    | ptup hs ha =>
      obtain ⟨o, po, h⟩ := hs
      exact .ptup ⟨o, po, e _ _ h⟩ (Dns.same e ds _ ha)
  | .ob C ns ds, _, h => by
    cases h with
    | ob ho hn ha => exact .ob (e _ _ ho) hn (Dns.same e ds _ ha)
  | .adr a, _, h => by cases h; exact .adr a
  | .dct w ks ds, _, h => by
    cases h with
    | dct h1 h2 h3 h4 => exact .dct (e _ _ h1) (h2.ext fun b ys ⟨o, po, q⟩ => ⟨o, po, e _ _ q⟩) h3 (Dns.same e ds _ h4)
  | .dks ks ds, _, h => by
    cases h with
    | dks h1 h2 h4 => exact .dks (e _ _ h1) h2 (Dns.same e ds _ h4)
theorem Dns.same (e : Same H H') : ∀ (ds : List D) (vs : List V), Dns K H vs ds → Dns K H' vs ds
  | [], _, h => by cases h; exact .nil
  | d :: ds, _, h => by
    cases h with
    | cons h1 h2 => exact .cons (Dn.same e d _ h1) (Dns.same e ds _ h2)
end
theorem Dn.up {v : V} {d : D} (h : Dn K H v d) (e : Same H H') : Dn K H' v d := Dn.same e d v h
theorem Dns.up {vs : List V} {ds : List D} (h : Dns K H vs ds) (e : Same H H') : Dns K H' vs ds := Dns.same e ds vs h
theorem Dn.keep {v : V} {d : D} (h : Dn K H v d) (e : Kp H H') (f : d.fix = true) : Dn K H' v d := Dn.kp e d v f h
theorem Dns.keep {vs : List V} {ds : List D} (h : Dns K H vs ds) (e : Kp H H') (f : D.fixs ds = true) : Dns K H' vs ds := Dns.kp e ds vs f h
theorem Dns.length : ∀ {vs : List V} {ds : List D}, Dns K H vs ds → vs.length = ds.length
  | _, _, .nil => rfl
  | _, _, .cons _ t => by simp [Dns.length t]
theorem Dns.app : ∀ {vs ws : List V} {ds es : List D}, Dns K H vs ds → Dns K H ws es → Dns K H (vs ++ ws) (ds ++ es)
  | _, _, _, _, .nil, h => h
  | _, _, _, _, .cons a t, h => .cons a (Dns.app t h)
theorem Dns.get : ∀ {vs : List V} {ds : List D} {i : Nat} {v : V}, Dns K H vs ds → vs[i]? = some v → ∃ d, ds[i]? = some d ∧ Dn K H v d
  | _, _, _, _, .nil, e => by simp at e
  | _, _, 0, _, .cons r _, e => by simp at e; subst e; exact ⟨_, rfl, r⟩
  | _, _, i + 1, x, .cons _ t, e => by
    obtain ⟨u, h1, h2⟩ := Dns.get (i := i) (v := x) t (by simpa using e)
    exact ⟨u, by simpa using h1, h2⟩
theorem Dns.getD : ∀ {vs : List V} {ds : List D} {i : Nat} {d : D}, Dns K H vs ds → ds[i]? = some d → ∃ v, vs[i]? = some v ∧ Dn K H v d
  | _, _, _, _, .nil, e => by simp at e
  | _, _, 0, _, .cons r _, e => by simp at e; subst e; exact ⟨_, rfl, r⟩
  | _, _, i + 1, x, .cons _ t, e => by
    obtain ⟨u, h1, h2⟩ := Dns.getD (i := i) (d := x) t (by simpa using e)
    exact ⟨u, by simpa using h1, h2⟩
theorem Dns.take : ∀ {vs : List V} {ds : List D} (n : Nat), Dns K H vs ds → Dns K H (vs.take n) (ds.take n)
  | _, _, 0, _ => .nil
  | _, _, _ + 1, .nil => .nil
  | _, _, n + 1, .cons r t => .cons r (Dns.take n t)
theorem Dns.drop : ∀ {vs : List V} {ds : List D} (n : Nat), Dns K H vs ds → Dns K H (vs.drop n) (ds.drop n)
  | _, _, 0, r => r
  | _, _, _ + 1, .nil => .nil
  | _, _, n + 1, .cons _ t => Dns.drop n t
theorem Dns.set {v : V} {d : D} (r : Dn K H v d) : ∀ {vs : List V} {ds : List D} (i : Nat), Dns K H vs ds → Dns K H (vs.set i v) (ds.set i d)
  | _, _, _, .nil => .nil
  | _, _, 0, .cons _ t => .cons r t
  | _, _, i + 1, .cons q t => .cons q (Dns.set r i t)
theorem Dns.of {α : Type} {f : α → V} {g : α → D} (h : ∀ a, Dn K H (f a) (g a)) : ∀ l : List α, Dns K H (l.map f) (l.map g)
  | [] => .nil
  | a :: l => .cons (h a) (Dns.of h l)
theorem Dns.one {v : V} {d : D} (h : Dn K H v d) : Dns K H [v] [d] := .cons h .nil

mutual
def D.py : D → PyData
  | .non => .none
  | .bl b => .bool b
  | .int i => .int i
  | .str x => .str x
  | .lst ds => .list (D.pys ds)
  | .tup ds => .tuple (D.pys ds)
  | .ptup ds => .tuple (D.pys ds)
  | .ob _ _ _ => .none
  | .adr _ => .none
  | .dct _ _ _ => .none
  | .dks _ _ => .none
def D.pys : List D → List PyData
  | [] => []
  | d :: ds => d.py :: D.pys ds
end
mutual
/-- no instances in it -/
def D.pl : D → Bool
  | .lst ds => D.pls ds
  | .tup ds => D.pls ds
  | .ptup ds => D.pls ds
  | .ob _ _ _ => false
  | .adr _ => false
  | .dct _ _ _ => false
  | .dks _ _ => false
  | _ => true
def D.pls : List D → Bool
  | [] => true
  | d :: ds => d.pl && D.pls ds
end
theorem D.pys_map : ∀ ds : List D, D.pys ds = ds.map D.py
  | [] => rfl
  | d :: ds => by rw [D.pys, D.pys_map ds]; rfl
theorem D.pls_iff {ds : List D} : D.pls ds = true ↔ ∀ d ∈ ds, d.pl = true := by
  induction ds with
  | nil => simp [D.pls]
  | cons d ds ih => simp [D.pls, ih]
mutual
theorem Dn.dp : ∀ (d : D) (v : V), d.pl = true → Dn K H v d → Dp K H v d.py
  | .non, _, _, h => by cases h; exact .non
  | .bl b, _, _, h => by cases h; exact .bl b
  | .int i, _, _, h => by cases h; exact .int i
  | .str x, _, _, h => by cases h; exact .str x
  | .lst ds, _, f, h => by
    cases h with
    | lst hs ha => exact .lst (SqL.of hs) (Dns.dps ds _ f ha)
  | .tup ds, _, f, h => by
    cases h with
    | tup hs ha => exact .tup hs (Dns.dps ds _ f ha)
  | .ptup ds, _, f, h => by
    cases h with
    | ptup hs ha => exact .tup hs.sq (Dns.dps ds _ f ha)
  | .ob C ns ds, _, f, h => by cases f
  | .adr _, _, f, _ => by cases f
  | .dct _ _ _, _, f, _ => by cases f
  | .dks _ _, _, f, _ => by cases f
theorem Dns.dps : ∀ (ds : List D) (vs : List V), D.pls ds = true → Dns K H vs ds → DpAll K H vs (D.pys ds)
  | [], _, _, h => by cases h; exact .nil
  | d :: ds, _, f, h => by
    cases h with
    | cons h1 h2 =>
      have f' : d.pl = true ∧ D.pls ds = true := by simpa [D.pls] using f
      exact .cons (Dn.dp d _ f'.1 h1) (Dns.dps ds _ f'.2 h2)
end
end
end Cc

namespace Cc
open PySem L2
def GD (K : Fg) (te : TE) (σ : L2.St) (H : Hp) (d : D) : Prop := ∀ H1, Same H H1 → ∀ Q : VK, (∀ v H2, Same H1 H2 → Dn K H2 v d → Q v H2) → te σ H1 Q
def GT (tt : TT) (σ : L2.St) (H : Hp) (b : Bool) : Prop := ∀ H1, Same H H1 → ∀ Q : Bool → Hp → Prop, (∀ H2, Same H1 H2 → Q b H2) → tt σ H1 Q
def GA (K : Fg) (ta : TA) (σ : L2.St) (H : Hp) (ds : List D) : Prop := ∀ H1, Same H H1 → ∀ Q : List V → Hp → Prop, (∀ vs H2, Same H1 H2 → Dns K H2 vs ds → Q vs H2) → ta σ H1 Q
def GN (K : Fg) (te : TE) (σ : L2.St) (H : Hp) (ds : List D) : Prop := ∀ H1, Same H H1 → ∀ Q : VK, (∀ p xs H2, H1 p = none → Same H1 H2 → H2 p = some (.lst xs) → Dns K H2 xs ds → Q (.ref p) H2) → te σ H1 Q
def GO (to : TO) (σ : L2.St) (H : Hp) (o : Option Int) : Prop := ∀ H1, Same H H1 → ∀ Q : Option Int → Hp → Prop, (∀ H2, Same H1 H2 → Q o H2) → to σ H1 Q
def R2D (K : Fg) (r : R2) (d e z : D) : Prop := ∀ x y H (Q : VK), Dn K H x d → Dn K H y e → (∀ v H2, Same H H2 → Dn K H2 v z → Q v H2) → r x y H Q
def R1D (K : Fg) (r : V → Hp → VK → Prop) (d z : D) : Prop := ∀ x H (Q : VK), Dn K H x d → (∀ v H2, Same H H2 → Dn K H2 v z → Q v H2) → r x H Q
def RCD (K : Fg) (r : List V → Hp → VK → Prop) (ds : List D) (z : D) : Prop := ∀ vs H (Q : VK), Dns K H vs ds → (∀ v H2, Same H H2 → Dn K H2 v z → Q v H2) → r vs H Q
section
variable {K : Fg} {σ : L2.St} {H H' : Hp} {ta tb te : TE} {t u : TT} {d e z : D} {r : R2}
theorem GD.mono (a : Same H H') (h : GD K te σ H d) : GD K te σ H' d := fun H1 b Q q => h H1 (a.trans b) Q q
theorem GT.mono {b : Bool} (a : Same H H') (h : GT t σ H b) : GT t σ H' b := fun H1 c Q q => h H1 (a.trans c) Q q
theorem GA.mono {ta : TA} {ds : List D} (a : Same H H') (h : GA K ta σ H ds) : GA K ta σ H' ds := fun H1 c Q q => h H1 (a.trans c) Q q
theorem GN.mono {ds : List D} (a : Same H H') (h : GN K te σ H ds) : GN K te σ H' ds := fun H1 c Q q => h H1 (a.trans c) Q q
theorem GN.gd {ds : List D} (h : GN K te σ H ds) : GD K te σ H (.lst ds) := fun H1 a Q q => h H1 a Q fun p xs H2 _ e hp hd => q _ H2 e (.lst hp hd)
theorem GD.is (h : GD K te σ H d) (q : d = e) : GD K te σ H e := q ▸ h
theorem GT.is {b c : Bool} (h : GT t σ H b) (q : b = c) : GT t σ H c := q ▸ h
theorem GN.is {ds es : List D} (h : GN K te σ H ds) (q : ds = es) : GN K te σ H es := q ▸ h
theorem gd_var {i : Nat} {v : V} (h : σ[i]? = some (some v)) (hd : Dn K H v d) : GD K (tVar i) σ H d := fun H1 a Q q => ⟨v, h, q v H1 (Same.refl _) (hd.up a)⟩
theorem gd_c {v : V} (h : Dn K H v d) : GD K (tC v) σ H d := fun H1 a Q q => q v H1 (Same.refl _) (h.up a)
theorem gd_i {i : Int} : GD K (tC (.int i)) σ H (.int i) := gd_c (.int i)
theorem gd_op (ha : GD K ta σ H d) (hb : GD K tb σ H e) (hr : R2D K r d e z) : GD K (tOp r ta tb) σ H z := fun H1 a Q q =>
  ha H1 a _ fun x H2 a2 hx => hb H2 (a.trans a2) _ fun y H3 a3 hy => hr x y H3 Q (hx.up a3) hy fun v H4 a4 hv => q v H4 ((a2.trans a3).trans a4) hv
theorem ga_nil : GA K tNil σ H [] := fun H1 _ Q q => q [] H1 (Same.refl _) .nil
theorem ga_cons {tr : TA} {ds : List D} (ha : GD K ta σ H d) (hr : GA K tr σ H ds) : GA K (tCons ta tr) σ H (d :: ds) := fun H1 a Q q =>
  ha H1 a _ fun x H2 a2 hx => hr H2 (a.trans a2) _ fun xs H3 a3 hxs => q _ H3 (a2.trans a3) (.cons (hx.up a3) hxs)
theorem ga1 (ha : GD K ta σ H d) : GA K (tCons ta tNil) σ H [d] := ga_cons ha ga_nil
theorem gd_cb {r : List V → Hp → VK → Prop} {ta : TA} {ds : List D} (ha : GA K ta σ H ds) (hr : RCD K r ds z) : GD K (tCB r ta) σ H z := fun H1 a Q q =>
  ha H1 a _ fun x H2 a2 hx => hr x H2 Q hx fun v H4 a4 hv => q v H4 (a2.trans a4) hv
theorem gn_lst {ta : TA} {ds : List D} (ha : GA K ta σ H ds) (hl : ds.length ≤ 100000) : GN K (tLst ta) σ H ds := fun H1 a Q q =>
  ha H1 a _ fun x H2 a2 hx => ⟨by rw [hx.length, sizeLine_eq]; omega, fun p hp => q p x _ (a2.free hp) (a2.trans (Same.new hp)) upd_same (hx.up (Same.new hp))⟩
theorem gt_test {b : Bool} (h : GD K te σ H (.bl b)) : GT (tTest te) σ H b := fun H1 a Q q => h H1 a _ fun v H2 a2 hv => by
  cases hv
  exact ⟨b, rfl, q H2 a2⟩
theorem gt_and {a b : Bool} (h1 : GT t σ H a) (h2 : a = true → GT u σ H b) : GT (tAnd t u) σ H (a && b) := fun H1 c Q q => h1 H1 c _ fun H2 c2 => by
  cases a with
  | true => exact (if_pos rfl).mpr (h2 rfl H2 (c.trans c2) Q fun H3 c3 => q H3 (c2.trans c3))
  | false => exact (if_neg Bool.false_ne_true).mpr (q H2 c2)
theorem gt_or {a b : Bool} (h1 : GT t σ H a) (h2 : a = false → GT u σ H b) : GT (tOr t u) σ H (a || b) := fun H1 c Q q => h1 H1 c _ fun H2 c2 => by
  cases a with
  | true => exact (if_pos rfl).mpr (q H2 c2)
  | false => exact (if_neg Bool.false_ne_true).mpr (h2 rfl H2 (c.trans c2) Q fun H3 c3 => q H3 (c2.trans c3))
theorem gt_not {a : Bool} (h1 : GT t σ H a) : GT (tNot t) σ H (!a) := fun H1 c Q q => h1 H1 c _ fun H2 c2 => q H2 c2
theorem r_int {g : Int → Int → Int} {i j : Int} : R2D K (rI0 fun i j => .int (g i j)) (.int i) (.int j) (.int (g i j)) := fun x y H Q hx hy q => by
  cases hx; cases hy
  exact ⟨i, j, rfl, rfl, q _ H (Same.refl _) (.int _)⟩
theorem r_intB {g : Int → Int → Bool} {i j : Int} : R2D K (rI0 fun i j => .bl (g i j)) (.int i) (.int j) (.bl (g i j)) := fun x y H Q hx hy q => by
  cases hx; cases hy
  exact ⟨i, j, rfl, rfl, q _ H (Same.refl _) (.bl _)⟩
theorem r_intC {C : Int → Int → Prop} {g : Int → Int → Int} {i j : Int} (hc : C i j) : R2D K (rI C fun i j => .int (g i j)) (.int i) (.int j) (.int (g i j)) := fun x y H Q hx hy q => by
  cases hx; cases hy
  exact ⟨i, j, rfl, rfl, hc, q _ H (Same.refl _) (.int _)⟩
def D.eqv (d e : D) : Bool := PyData.eqv d.py e.py
def D.shp (d : D) : Bool := SeqAt.shaped d.py
theorem r_eq (p1 : d.pl = true) (p2 : e.pl = true) (s1 : d.shp = true) (s2 : e.shp = true) : R2D K (rEqD K) d e (.bl (d.eqv e)) := fun x y H Q hx hy q =>
  ⟨d.py, e.py, hx.dp d x p1, hy.dp e y p2, s1, s2, q _ H (Same.refl _) (.bl _)⟩
theorem r_ne (p1 : d.pl = true) (p2 : e.pl = true) (s1 : d.shp = true) (s2 : e.shp = true) : R2D K (rNeD K) d e (.bl (!d.eqv e)) := fun x y H Q hx hy q =>
  ⟨d.py, e.py, hx.dp d x p1, hy.dp e y p2, s1, s2, q _ H (Same.refl _) (.bl _)⟩
theorem r_notN : R2D K (fun x y H Q => y = .non ∧ Q (.bl (!decide (x = .non))) H) d .non (.bl (match d with | .non => false | _ => true)) := fun x y H Q hx hy q => by
  cases hy
  refine ⟨rfl, q _ H (Same.refl _) ?_⟩
  cases hx <;> first | exact .bl _ | (simp; exact .bl _)
theorem Dns.rep {H : Hp} {vs : List V} {ds : List D} (h : Dns K H vs ds) : ∀ k : Nat, Dns K H (List.replicate k vs).flatten (List.replicate k ds).flatten
  | 0 => .nil
  | k + 1 => by
    rw [List.replicate_succ, List.replicate_succ, List.flatten_cons, List.flatten_cons]
    exact h.app (Dns.rep h k)
end
end Cc

namespace Cc
open PySem L2
section
variable {K : Fg} {σ : L2.St} {H H' : Hp} {ta tb te : TE} {t u : TT} {d e z : D} {r : R2} {E : Ends} {tu tw tz : TS}
theorem s_asg {i : Nat} (h : GD K te σ H d) (k : ∀ v H1, Same H H1 → Dn K H1 v d → E.nx (σ.set i (some v)) H1) : tAsg te (gName i) E σ H := h H (Same.refl _) _ fun v H1 e hv => k v H1 e hv
theorem s_ret (h : GD K te σ H d) (k : ∀ v H1, Same H H1 → Dn K H1 v d → E.rt v H1) : tRet te E σ H := h H (Same.refl _) _ fun v H1 e hv => k v H1 e hv
theorem s_if {b : Bool} (h : GT t σ H b) (h1 : b = true → ∀ H1, Same H H1 → tu E σ H1) (h2 : b = false → ∀ H1, Same H H1 → tw E σ H1) : tIfS t tu tw E σ H := h H (Same.refl _) _ fun H1 e => by
  cases b with
  | true => exact (if_pos rfl).mpr (h1 rfl H1 e)
  | false => exact (if_neg Bool.false_ne_true).mpr (h2 rfl H1 e)
theorem s_when {b : Bool} (h : GT t σ H b) (h1 : b = true → ∀ H1, Same H H1 → tu E σ H1) (h2 : b = false → ∀ H1, Same H H1 → E.nx σ H1) : tIfS t tu tNext E σ H := s_if h h1 h2
theorem at_var {i : Nat} {v : V} (h : σ[i]? = some (some v)) : ∀ H1, Same H H1 → ∀ Q : VK, Q v H1 → tVar i σ H1 Q := fun H1 _ Q q => ⟨v, h, q⟩
def Ret (K : Fg) (d : D) (H : Hp) (Q : VK) : Prop := ∀ v H', Same H H' → Dn K H' v d → Q v H'
theorem Ret.up {Q : VK} (h : Ret K d H Q) (e : Same H H') : Ret K d H' Q := fun v H2 e2 hv => h v H2 (e.trans e2) hv
def GI (K : Fg) (M : List Addr) (wi : TI) (σ : L2.St) (H : Hp) (ds : List D) : Prop := ∀ R : It → Hp → Prop,
  (∀ (J : It) (G : Hp → Prop) (Y : Nat → Hp → V → Hp → Prop) (H2 : Hp), Same H H2 → Walk J ds.length G Y → (∀ H', But M H2 H' → G H') →
    (∀ i Ha x Hb, i < ds.length → But M H2 Ha → Y i Ha x Hb → Same Ha Hb ∧ ∃ d, ds[i]? = some d ∧ Dn K Hb x d) → R J H2) → wi σ H R
def Ls (M : List Addr) (H : Hp) : Prop := ∀ m ∈ M, ∃ xs, H m = some (.lst xs)
theorem Ls.kp {M : List Addr} {H1 : Hp} (h : Ls M H) (e : Same H H1) (b : But M H1 H') : Kp H1 H' := b.kp fun m hm o q => by
  obtain ⟨xs, hx⟩ := h m hm
  rw [e _ _ hx] at q
  cases q
  rfl
theorem gi_range1 {M : List Addr} {ta : TA} {n : Int} (h : GA K ta σ H [.int n]) (h0 : -(2 ^ 62) ≤ n) (hn : n < 2 ^ 62) : GI K M (iRng1 ta) σ H ((List.range n.toNat).map fun i => D.int (i : Nat)) := fun R q =>
  h H (Same.refl _) _ fun vs H2 e2 hv => by
    cases hv with
    | cons h1 h2 =>
      cases h2
      cases h1
      refine ⟨n, rfl, h0, hn, q _ (fun _ => True) (YFn fun i => .int (0 + i)) H2 e2 (by simpa using walk_range (lo := 0) (n := n.toNat)) (fun _ _ => True.intro) fun i Ha x Hb hi _ y => ?_⟩
      obtain ⟨e, y⟩ := y
      subst e y
      refine ⟨Same.refl _, .int (i : Nat), ?_, ?_⟩
      · have hi' : i < n.toNat := by simpa using hi
        simp [hi']
      · have e0 : (0 : Int) + (i : Nat) = (i : Nat) := Int.zero_add _
        show Dn K Hb (V.int (0 + (i : Nat))) _
        rw [e0]
        exact .int _
theorem gi_tup {M : List Addr} {tl : TE} {ds : List D} (h : GD K tl σ H (.tup ds)) (hM : Ls M H) (hf : D.fixs ds = true) : GI K M (iTup K tl) σ H ds := fun R q =>
  h H (Same.refl _) _ fun v H2 e2 hv => by
    cases hv with
    | @tup a xs ds hs ha =>
      refine ⟨a, rfl, ⟨xs, hs⟩, q _ _ _ H2 e2 (by rw [← ha.length]; exact walk_tup) (fun H' b => kp_t (hM.kp e2 b) hs) fun i Ha x Hb hi b y => ?_⟩
      obtain ⟨e, y⟩ := y
      subst e
      obtain ⟨d, h1, h2⟩ := ha.get y
      exact ⟨Same.refl _, d, h1, h2.keep (hM.kp e2 b) (D.fixs_iff.mp hf d (List.mem_of_getElem? h1))⟩
theorem gi_list {M : List Addr} {tl : TE} {ds : List D} {a : Addr} (h : ∀ Q : VK, Q (.ref a) H → tl σ H Q) (hd : Dn K H (.ref a) (.lst ds)) (ha : a ∉ M) (hM : Ls M H) (hf : D.fixs ds = true) : GI K M (iList K tl) σ H ds := fun R q =>
  h _ (by
    cases hd with
    | @lst a xs ds hs hx =>
      refine ⟨a, rfl, ⟨xs, SqL.of hs⟩, q _ _ _ H (Same.refl _) (by rw [← hx.length]; exact walk_list) (fun H' b => SqL.of (b _ _ hs ha)) fun i Ha x Hb hi b y => ?_⟩
      obtain ⟨e, y⟩ := y
      subst e
      obtain ⟨d, h1, h2⟩ := hx.get y
      exact ⟨Same.refl _, d, h1, h2.keep (hM.kp (Same.refl _) b) (D.fixs_iff.mp hf d (List.mem_of_getElem? h1))⟩)
def signs (x : Str) : List D := x.cps.toList.map fun c => D.str ⟨#[c]⟩
theorem gi_str {M : List Addr} {tl : TE} {x : Str} (h : GD K tl σ H (.str x)) : GI K M (iStr tl) σ H (signs x) := fun R q =>
  h H (Same.refl _) _ fun v H2 e2 hv => by
    cases hv
    refine ⟨x, rfl, q _ _ _ H2 e2 (by simpa [signs] using walk_str (z := x)) (fun _ _ => True.intro) fun i Ha w Hb hi b y => ?_⟩
    obtain ⟨e, c, hc, hw⟩ := y
    subst e hw
    refine ⟨Same.refl _, .str ⟨#[c]⟩, ?_, .str _⟩
    unfold signs
    rw [List.getElem?_map, Array.getElem?_toList, hc]
    rfl
theorem gn_lc {wi : TI} {j : Nat} {vs : List Nat} {ds : List D} (f : D → Bool) (g : D → D) (h : ∀ H1, Same H H1 → GI K [] wi σ H1 ds) (hz : ds.length ≤ 50000)
    (hw : ∀ x, wipe ((wipe σ vs).set j (some x)) vs = wipe σ vs) (hf : ∀ d ∈ ds, f d = true → (g d).fix = true)
    (ht : ∀ d x H1, d ∈ ds → Same H H1 → Dn K H1 x d → GT t ((wipe σ vs).set j (some x)) H1 (f d))
    (he : ∀ d x H1, d ∈ ds → Same H H1 → Dn K H1 x d → f d = true → GD K te ((wipe σ vs).set j (some x)) H1 (g d)) : GN K (tLc wi (gName j) t te vs) σ H ((ds.filter f).map g) := fun H1 e1 Q q => by
  refine h H1 e1 _ fun J G Y H2 e2 w hG hY => ?_
  intro Dl hD
  have fx : ∀ l : List D, (∀ d ∈ l, d ∈ ds) → D.fixs ((l.filter f).map g) = true := fun l hl => D.fixs_iff.mpr fun d hd => by
    obtain ⟨c, hc, rfl⟩ := List.mem_map.mp hd
    have hc' := List.mem_filter.mp hc
    exact hf c (hl c hc'.1) hc'.2
  refine lc_it w (fun i H' => Same H2 H' ∧ ∃ acc, H' Dl = some (.lst acc) ∧ Dns K H' acc (((ds.take i).filter f).map g)) ⟨Same.new hD, [], upd_same, by simpa using Dns.nil⟩ (fun i H' _ p => hG H' (.of p.1)) (fun i x Ha Hb hi p y => ?_) (fun H' p => ?_)
  · obtain ⟨p1, acc, p2, p3⟩ := p
    obtain ⟨eb, d, hd, hx⟩ := hY i Ha x Hb hi (.of p1) y
    have hm : d ∈ ds := List.mem_of_getElem? hd
    have e2b : Same H2 Hb := p1.trans eb
    have eHb : Same H Hb := (e1.trans e2).trans e2b
    have htk : ds.take (i + 1) = ds.take i ++ [d] := by
      rw [List.take_add_one, hd]
      rfl
    refine ⟨hw x, ht d x Hb hm eHb hx Hb (Same.refl _) _ fun H3 e3 => ?_⟩
    cases hfd : f d with
    | false =>
      refine (if_neg Bool.false_ne_true).mpr ⟨e2b.trans e3, acc, e3 _ _ (eb _ _ p2), ?_⟩
      rw [htk, List.filter_append, List.filter_cons, if_neg (by rw [hfd]; simp), List.filter_nil, List.append_nil]
      exact p3.up (eb.trans e3)
    | true =>
      refine (if_pos rfl).mpr (he d x Hb hm eHb hx hfd H3 e3 _ fun y H4 e4 hy => ⟨acc, e4 _ _ (e3 _ _ (eb _ _ p2)), ?_, ?_⟩)
      · have := p3.length
        have h2 : ((List.filter f (ds.take i)).map g).length ≤ ds.length := by
          rw [List.length_map]
          exact Nat.le_trans (List.length_filter_le _ _) (by rw [List.length_take]; omega)
        rw [sizeLine_eq]
        omega
      · have hDl : H4 Dl = some (.lst acc) := e4 _ _ (e3 _ _ (eb _ _ p2))
        refine ⟨Same.mut ((e2b.trans e3).trans e4) hD, acc ++ [y], upd_same, ?_⟩
        rw [htk, List.filter_append, List.map_append, List.filter_cons, if_pos hfd, List.filter_nil]
        refine Dns.app ((p3.up ((eb.trans e3).trans e4)).keep (Kp.upd hDl rfl) (fx _ fun d hd => List.mem_of_mem_take hd)) (.cons (hy.keep (Kp.upd hDl rfl) (hf d hm hfd)) .nil)
  · obtain ⟨p1, acc, p2, p3⟩ := p
    rw [List.take_length] at p3
    exact q Dl acc H' (e2.free hD) (e2.trans p1) p2 p3
end
end Cc

namespace Cc
open PySem L2
def D.len : D → Option Nat
  | .lst ds => some ds.length
  | .tup ds => some ds.length
  | .str x => some x.length
  | _ => none
def D.ty : D → String
  | .non => "NoneType"
  | .bl _ => "bool"
  | .int _ => "int"
  | .str _ => "str"
  | .lst _ => "list"
  | .tup _ => "tuple"
  | .ptup _ => "tuple"
  | .ob _ _ _ => "object"
  | .adr _ => "object"
  | .dct _ _ _ => "dict"
  | .dks _ _ => "dict"
def D.noob : D → Bool
  | .ob _ _ _ => false
  | .adr _ => false
  | .dct _ _ _ => false
  | .dks _ _ => false
  | _ => true
abbrev rLen (K : Fg) : List V → Hp → VK → Prop := fun xs H Q => ∃ x n, xs = [x] ∧ LenV K x H n ∧ Q (.int (n : Nat)) H
abbrev rLst (K : Fg) : List V → Hp → VK → Prop := fun xs H Q => ∃ p ys, xs = [.ref p] ∧ (SqL K H p ys ∨ SqT K H p ys) ∧ ∀ l, H l = none → Q (.ref l) (upd H l (.lst ys))
section
variable {X : Cx} (K : Fg)
theorem lenK (h : X.K = K := by rfl) : CallR X (.builtin "len") (Cc.rLen K) := h ▸ call_len
theorem lstK (h : X.K = K := by rfl) : CallR X (.type "list") (rLst K) := h ▸ call_list_of
theorem isiK (h : X.K = K := by rfl) : CallR X (.builtin "isinstance") (rIsi K) := h ▸ call_isi
theorem sumK (hc : X.calm = true := by rfl) (h : X.K = K := by rfl) : CallR X (.builtin "sum") (rSum K) := h ▸ cr_sum hc
theorem allK (hc : X.calm = true := by rfl) (h : X.K = K := by rfl) : CallR X (.builtin "all") (rAll K) := h ▸ cr_all hc
theorem ixL (h : X.K = K := by rfl) : IxR X (rIxL K) := h ▸ ix_list
theorem ixA (h : X.K = K := by rfl) : IxR X (rIx K) := h ▸ ix_seq
theorem slL (h : X.K = K := by rfl) : SlR X (rSlL K) := h ▸ sl_list
theorem eqK (hu : X.A.units + 64 < cLine) (h : X.K = K := by rfl) : OpR X (compareOp .Eq) (rEqD K) := h ▸ op_eqD hu
theorem neK (hu : X.A.units + 64 < cLine) (h : X.K = K := by rfl) : OpR X (compareOp .NotEq) (rNeD K) := h ▸ op_neD hu
theorem niK (h : X.K = K := by rfl) : OpR X (compareOp .NotIn) (rIn K true) := h ▸ op_notIn_seq
theorem pe_fK {e : Expr} {f : Str} {pos : Pos} {ta : TE} (he : PE X e ta) (hb : attributeBase e f X.env (eval e X.env) = eval e X.env := by rfl) (h : X.K = K := by rfl) : PE X (.Attribute e f pos) (tFld K ta f) := h ▸ pe_fld he hb
theorem pi_lK {tg l : Expr} {tl : TE} (hl : PE X l tl) (h : X.K = K := by rfl) : PI X tg l (iList K tl) := h ▸ pi_list hl
theorem pi_tK {tg l : Expr} {tl : TE} (hl : PE X l tl) (h : X.K = K := by rfl) : PI X tg l (iTup K tl) := h ▸ pi_tup hl
end
section
variable {K : Fg} {σ : L2.St} {H H' : Hp} {ta tb te : TE} {t u : TT} {d e z : D} {r : R2}
theorem rc_len {n : Nat} (h : d.len = some n) (hz : n ≤ 100000) : RCD K (Cc.rLen K) [d] (.int (n : Nat)) := fun vs H Q hv q => by
  cases hv with
  | cons h1 h2 =>
    cases h2
    refine ⟨_, n, rfl, ?_, q _ H (Same.refl _) (.int _)⟩
    cases h1 with
    | str x =>
      cases h
      exact ⟨by rw [sizeLine_eq]; omega, rfl⟩
    | lst hs ha =>
      cases h
      exact .inl ⟨_, SqL.of hs, ha.length.symm⟩
    | tup hs ha =>
      cases h
      exact .inr ⟨_, hs, ha.length.symm⟩
    | _ => cases h
theorem tyx_of (hb : d.noob = true) {v : V} (h : Dn K H v d) : TyX K H v (.type d.ty) := by
  cases h with
  | non => exact .base .non
  | bl b => exact .base (.bl b)
  | int i => exact .base (.int i)
  | str x => exact .base (.str x)
  | lst hs _ => exact .base (.lst hs)
  | ptup hs _ =>
    obtain ⟨o, _, hs⟩ := hs
    exact .fTuple hs
  | tup hs _ =>
    rcases hs with (hs | ⟨o, hs⟩) | ⟨o, its, n, hk, hc, _⟩
    · exact .base (.tup hs)
    · exact .fTuple hs
    · exact .kTuple hk hc
  | ob _ _ _ => cases hb
  | adr _ => cases hb
  | dct _ _ _ _ => cases hb
  | dks _ _ _ => cases hb
def D.isT (n : String) : D → Bool
  | .non => false
  | .bl _ => n == "int" || n == "bool"
  | .int _ => n == "int"
  | .str _ => n == "str"
  | .lst _ => n == "list"
  | .tup _ => n == "tuple"
  | .ptup _ => n == "tuple"
  | .ob _ _ _ => false
  | .adr _ => false
  | .dct _ _ _ => false
  | .dks _ _ => false
theorem kit_isT (hb : d.noob = true) (n : String) (hn : n = "int" ∨ n = "bool" ∨ n = "str" ∨ n = "list" ∨ n = "tuple") : kitB d.ty n = some (d.isT n) := by
  rcases hn with rfl | rfl | rfl | rfl | rfl
  all_goals
    cases d
    case non => exact (show kitB "NoneType" _ = some false by decide +kernel)
    case bl b => first | exact (show kitB "bool" _ = some true by decide +kernel) | exact (show kitB "bool" _ = some false by decide +kernel)
    case int b => first | exact (show kitB "int" _ = some true by decide +kernel) | exact (show kitB "int" _ = some false by decide +kernel)
    case str b => first | exact (show kitB "str" _ = some true by decide +kernel) | exact (show kitB "str" _ = some false by decide +kernel)
    case lst b => first | exact (show kitB "list" _ = some true by decide +kernel) | exact (show kitB "list" _ = some false by decide +kernel)
    case tup b => first | exact (show kitB "tuple" _ = some true by decide +kernel) | exact (show kitB "tuple" _ = some false by decide +kernel)
    case ptup b => first | exact (show kitB "tuple" _ = some true by decide +kernel) | exact (show kitB "tuple" _ = some false by decide +kernel)
    case ob => cases hb
    case adr => cases hb
    case dct => cases hb
    case dks => cases hb
theorem rc_min2 {i j : Int} : RCD K (fun xs H Q => ∃ i j, xs = [.int i, .int j] ∧ Q (.int (if j < i then j else i)) H) [.int i, .int j] (.int (min i j)) := fun vs H Q hv q => by
  cases hv with
  | cons h1 h2 =>
    cases h2 with
    | cons h2 h3 =>
      cases h3
      cases h1; cases h2
      have e : (if j < i then j else i) = min i j := by
        by_cases c : j < i
        · rw [if_pos c]; omega
        · rw [if_neg c]; omega
      exact ⟨i, j, rfl, by rw [e]; exact q _ H (Same.refl _) (.int _)⟩
theorem rc_int {i : Int} : RCD K (fun xs H Q => (∃ i, xs = [.int i] ∧ Q (.int i) H) ∨ ∃ k, xs = [.bl k] ∧ Q (.int (if k then 1 else 0)) H) [.int i] (.int i) := fun vs H Q hv q => by
  cases hv with
  | cons h1 h2 =>
    cases h2
    cases h1
    exact .inl ⟨i, rfl, q _ H (Same.refl _) (.int _)⟩
theorem rc_intB {b : Bool} : RCD K (fun xs H Q => (∃ i, xs = [.int i] ∧ Q (.int i) H) ∨ ∃ k, xs = [.bl k] ∧ Q (.int (if k then 1 else 0)) H) [.bl b] (.int (if b then 1 else 0)) := fun vs H Q hv q => by
  cases hv with
  | cons h1 h2 =>
    cases h2
    cases h1
    exact .inr ⟨b, rfl, q _ H (Same.refl _) (.int _)⟩
theorem dns_ints : ∀ {vs : List V} {ns : List Int}, Dns K H vs (ns.map D.int) → vs = ns.map V.int
  | _, [], h => by cases h; rfl
  | _, n :: ns, h => by
    cases h with
    | cons h1 h2 =>
      cases h1
      rw [dns_ints h2]
      rfl
theorem dns_bls : ∀ {vs : List V} {ns : List Bool}, Dns K H vs (ns.map D.bl) → vs = ns.map V.bl
  | _, [], h => by cases h; rfl
  | _, n :: ns, h => by
    cases h with
    | cons h1 h2 =>
      cases h1
      rw [dns_bls h2]
      rfl
theorem rc_sum {ns : List Int} : RCD K (rSum K) [.lst (ns.map D.int)] (.int ns.sum) := fun vs H Q hv q => by
  cases hv with
  | cons h1 h2 =>
    cases h2
    cases h1 with
    | lst hs ha => exact ⟨_, ns, rfl, by rw [dns_ints ha] at hs; exact SqL.of hs, q _ H (Same.refl _) (.int _)⟩
theorem rc_all {bs : List Bool} : RCD K (rAll K) [.lst (bs.map D.bl)] (.bl (bs.all id)) := fun vs H Q hv q => by
  cases hv with
  | cons h1 h2 =>
    cases h2
    cases h1 with
    | lst hs ha => exact ⟨_, bs, rfl, by rw [dns_bls ha] at hs; exact SqL.of hs, q _ H (Same.refl _) (.bl _)⟩
theorem go_none : GO tNoPart σ H none := fun H1 _ Q q => q H1 (Same.refl _)
theorem go_some {i : Int} (h : GD K te σ H (.int i)) : GO (tPart te) σ H (some i) := fun H1 e Q q => h H1 e _ fun v H2 e2 hv => by
  cases hv
  exact ⟨i, rfl, q H2 e2⟩
def cutD (ds : List D) (lo hi : Option Int) : List D := (ds.drop (HT.sIx ds.length 0 lo)).take (HT.sIx ds.length ds.length hi - HT.sIx ds.length 0 lo)
theorem cut_dns {vs : List V} {ds : List D} (h : Dns K H vs ds) (lo hi : Option Int) : Dns K H (cutV vs lo hi) (cutD ds lo hi) := by
  unfold cutV cutD
  rw [h.length]
  exact (h.drop _).take _
theorem gn_slL {tl th : TO} {ds : List D} {lo hi : Option Int} (h : GD K te σ H (.lst ds)) (h1 : GO tl σ H lo) (h2 : GO th σ H hi) : GN K (tSl (rSlL K) te tl th) σ H (cutD ds lo hi) := fun H1 e Q q =>
  h H1 e _ fun v H2 e2 hv => h1 H2 (e.trans e2) _ fun H3 e3 => h2 H3 ((e.trans e2).trans e3) _ fun H4 e4 => by
    have hv := hv.up (e3.trans e4)
    cases hv with
    | @lst a xs ds hs ha =>
      exact ⟨a, xs, rfl, SqL.of hs, fun p hp => q _ _ _ (((e2.trans e3).trans e4).free hp) (((e2.trans e3).trans e4).trans (Same.new hp)) upd_same ((cut_dns ha lo hi).up (Same.new hp))⟩
end
end Cc

namespace Cc
open PySem L2
def Cal (P : Program) (w : World) (K : Fg) (mg : Str → Option Value) (base : Heap) (CX : CXT) (n : Nat) (x : Str) (ps : List Str) (sp : Sp) : Prop :=
  ∃ (f : Addr) (fd : FuncData), FnOk P w K mg base CX n f fd ps sp ∧ mg x = some (.ref f) ∧ PySem.W.keepIn K (.ref f) = true ∧ L2.Binds K fd ps []
def Cst (mg : Str → Option Value) (x : Str) (v : V) : Prop := ∃ u, mg x = some u ∧ RelV v u
section
variable {X : Cx} {n m : Nat} {x : Str} {ps : List Str} {sp : Sp} {e : Expr} {es : List Expr} {t : TA} {p pos : Pos}
theorem pe_gc {v : V} (h : Cst X.mg x v) (hg : Gl X x := by rfl) (hd : (x == ("__debug__" : Str)) = false := by decide) : PE X (.Name x pos) (tC v) := by
  obtain ⟨u, h1, h2⟩ := h
  exact pe_glob hg h1 h2 hd
theorem pe_ty {T : String} (hm : X.mg x = none) (hg : Gl X x := by rfl) (hv : bootBuiltins x = some (.type T) := by decide +kernel) (hn : x ≠ "__name__" := by decide) (hd : (x == ("__debug__" : Str)) = false := by decide) : PE X (.Name x pos) (tC (.ty T)) :=
  pe_bltn hg hm hv rfl hn hd
theorem pe_cal {CX : CXT} {E : XK} (C : Cal X.prog X.w X.K X.mg X.base CX n x ps sp) (hr : Room m X.A) (hx : Passes CX X E) (ha : PA X (e :: es) t) (hg : Gl X x := by rfl) (hn : n ≤ m := by decide)
    (hdb : (x == ("__debug__" : Str)) = false := by decide) (he : starEach (e :: es) X.env = (false, eval e X.env) :: starEach es X.env := by rfl) (hpl : (backTo pos (starEach es X.env)).any (·.1) = false := by rfl) : PE X (.Call (.Name x p) (e :: es) [] pos) (tCall sp [] E t) := by
  obtain ⟨f, fd, F, hm, hk, hb⟩ := C
  exact pe_call F (hr.mono hn) hg hm hk hb .nil hx ha hdb he hpl
end
section
variable {K : Fg} {H : Hp}
theorem Dns.un1 {vs : List V} {a : D} (h : Dns K H vs [a]) : ∃ v, vs = [v] ∧ Dn K H v a := by
  cases h with
  | cons h0 h => cases h; exact ⟨_, rfl, h0⟩
end
section
variable {K : Fg} {σ : L2.St} {H H' : Hp} {ta tb te : TE} {t u : TT} {d e z : D} {r : R2}
theorem r_sign {c : Nat} {z : Str} : R2D K (fun x y H Q => ∃ (c : Nat) (z : Str), x = .str ⟨#[c]⟩ ∧ y = .str z ∧ Q (.bl (decide (c ∈ z.cps.toList))) H) (.str ⟨#[c]⟩) (.str z) (.bl (decide (c ∈ z.cps.toList))) := fun x y H Q hx hy q => by
  cases hx; cases hy
  exact ⟨c, z, rfl, rfl, q _ H (Same.refl _) (.bl _)⟩
theorem ixN_nat {n j : Nat} (hj : j < n) : ixN n (j : Int) = some j := by
  unfold ixN
  rw [if_pos (by omega), if_pos (by omega)]
  simp
theorem s_setL {E : Ends} {l : Addr} {xs : List V} {j : Nat} (hl : H l = some (.lst xs)) (ho : ∀ H1, Same H H1 → ∀ Q : VK, Q (.ref l) H1 → ta σ H1 Q) (hi : GD K tb σ H (.int (j : Nat))) (hj : j < xs.length) (h : GD K te σ H d)
    (k : ∀ v H1, Same H H1 → Dn K H1 v d → E.nx σ (upd H1 l (.lst (xs.set j v)))) : tAsg te (gSub ta tb rSetL) E σ H :=
  h H (Same.refl _) _ fun v H1 e1 hv => ho H1 e1 _ (hi H1 e1 _ fun w H2 e2 hw => by
    cases hw
    exact ⟨l, xs, (j : Nat), j, rfl, rfl, (e1.trans e2) l _ hl, ixN_nat hj, k v H2 (e1.trans e2) (hv.up e2)⟩)
theorem gd_ixV {i j : Nat} {l : Addr} {xs : List V} {v : V} (hσ : σ[i]? = some (some (.ref l))) (hl : H l = some (.lst xs)) (hv : xs[j]? = some v) (hd : Dn K H v d) : GD K (tOp (rIxL K) (tVar i) (tC (.int (j : Nat)))) σ H d := fun H1 e Q q =>
  ⟨.ref l, hσ, l, xs, (j : Nat), v, rfl, rfl, SqL.of (e _ _ hl), atI_nat hv, q v H1 (Same.refl _) (hd.up e)⟩
end
end Cc

namespace CcX
open PySem PySem.W PySem.Calls PyProof.Rows PySem.HandSPX
def Shown (v : Value) : Prop := (∃ z t, v = .str z t ∧ z.length ≤ 1000) ∨ ∃ i t, v = .int i t ∧ i.natAbs.log2 < 1920
structure SupC (prog : Program) (K : Frag) (C fI : Addr) (qual fld : Str) (body : List Stmt) (params : Arguments) (scope : Scope) : Prop where
  cls : ∃ nm q N bs bm sn sub ab col dd k0 k1 k2 k3 k5, K.lookup C = some (excClassObj nm q C N bs bm true sn sub ab col dd k0 k1 k2 k3 k5 "ValueError.__new__") ∧ refsVE bm = true
  sa : findIn K (.ref C) "__setattr__" = some (some (.builtin "object.__setattr__"))
  noN : findIn K (.ref C) fld = some none
  iC : findIn K (.ref C) "__init__" = some (some (.ref fI))
  tC : typeIn K (.ref fI) = some (.type "function")
  kC : keepIn K (.ref C) = true
  exC : subIn K (.ref C) (.type "BaseException") = some true
  veC : subIn K (.ref C) (.type "ValueError") = some true
  slfC : mroIn K C (.ref C) = some true
  tyC : typeIn K (.ref C) = some (.type "type")
  opq : nsIn K cStatics "thirdparty.any" = some none
  alg : ks_superIn K C C "__init__" = some (some (.builtin "ValueError.__init__"))
  top : (prog.main.scope.names.lookup ("super" : Str)).isSome = false
  fn : ∃ (oc : Value) (od : Option Addr) (doc pm : Value) (an : Option Addr) (cda cc : Addr) (ct : Value) (osl : Array (Option Value)) (ccl cl : Value) (cdd cld : Option Addr) (ccs csl : Array (Option Value)) (vs : Array Value) (file : Str) (tf : Tok),
    K.lookup fI = some ⟨oc, od, .func (ksFn "__init__" qual params body scope .none .none doc pm an (.ref cda) ct cc), osl⟩ ∧ codeIn K (.ref cda) qual = true ∧
    K.lookup cda = some ⟨ccl, cdd, .fields vs, ccs⟩ ∧ vs[2]? = some (.str file tf) ∧ ((prog.main.file : Str) == file) = true ∧
    K.lookup cc = some ⟨cl, cld, .cell (some (.ref C)), csl⟩
section
variable {prog : Program} {w : World} {A : Around} {E : Value → Shared → Prop} {R : Result → Shared → Prop} {s : Shared} {K : Frag} {mg mb : Str → Option Value} {C fI : Addr}
theorem mw_call {nm q : Str} {N : Addr} {bs bm : List Value} {sn : List Str} {sub : List Value} {ab : Bool} {col : Option Bool} {dd : Option Addr} {k0 k1 k2 k3 k5 : Option Value} {u x t0 : Addr} {rest : List Value} {Q : Value → Shared → Prop}
    (hC : s.heap.get? C = some (excClassObj nm q C N bs bm true sn sub ab col dd k0 k1 k2 k3 k5 "ValueError.__new__")) (hx : s.heap.get? x = some (excO C t0)) (hu : s.heap.get? u = some (kxs_mw "ValueError.__init__" x)) (hz : rest.length ≤ sizeLine)
    (h : ∀ h' t1, (∀ b o, b ≠ x → s.heap.get? b = some o → h'.get? b = some o) → h'.get? x = some (excO C t1) → Q .none { s with heap := h' }) : wpAny (model prog w) A (call (.ref u) rest) Q E s := by
  have FB := F.excBase_ValueError
  obtain ⟨hh, g, d, tk, os⟩ := s
  refine wpAny_call (codeAny_of_tree ?_)
  show wpAny _ A.in1 (callAny (.ref u) ⟨rest, []⟩) _ _ _
  simp only [callAny]
  refine wpAny_bind (wpAny_load hu ?_)
  have a1 : (Value.type "method-wrapper" == Value.type "method" || Value.type "method-wrapper" == Value.type "builtin_function_or_method" || Value.type "method-wrapper" == Value.type "method-wrapper") = true := by decide
  simp only [kxs_mw, a1, if_true]
  refine KFB.if_so (by decide) ?_
  refine wpAny_bind (check_bound_init (FB.toExcCallFacts) hC hx rfl ?_)
  refine wpAny_bind (wpAny_pure (wpAny_pure ?_))
  refine ⟨plainId_quiet FB.init.plain _, codeAny_builtin FB.initEntry ?_⟩
  exact exc_init_tree (cls := Value.ref C) (t0 := t0) (dv := Option.none) (c2 := Value.none) (c3 := Value.none) (b4 := Value.bool false) hx hz fun h' k' e' _ => h h' _ k' e'
def PartOk (ar : Str) (e : Expr) : Prop := (∃ z j p, e = .Constant (.str z) j p ∧ z.length ≤ 100) ∨ ∃ p p2, e = .FormattedValue (.Name ar p) (-1) none p2
theorem parts_join {env : Env} {m : Str → Option Value} {hp : Heap} {ar : Str} {v : Value} (hn : hp.Ns env.locals m) (hk : env.scope.kind = .function) (hl : env.kindOf ar = some .local) (hd : (ar == ("__debug__" : Str)) = false) (hv : m ar = some v) (hs : Shown v) {R : Str → Shared → Prop} : ∀ (es : List Expr) (acc : Str) (s : Shared), s.heap = hp → (∀ e ∈ es, PartOk ar e) →
    acc.length + 4000 * es.length ≤ 100000 → (∀ out tk, out.length ≤ 100000 → R out { s with toks := tk }) → Joins (model prog w) A E (evalEach es env) acc R s
  | [], acc, s, e, _, hz, k => by
    rw [show evalEach [] env = [] from by first | rfl | simp [evalEach]]
    exact k acc s.toks (by simpa using hz)
  | p :: es, acc, s, e, hp', hz, k => by
    rw [show evalEach (p :: es) env = eval p env :: evalEach es env from by first | rfl | simp [evalEach]]
    have line : sizeLine = 16777216 := sizeLine_eq
    have hz' : acc.length + 4000 * (es.length + 1) ≤ 100000 := by simpa using hz
    have go : ∀ (y : Str) (t : Tok) (tk : Nat), y.length ≤ 4000 → ∃ z t', (Value.str y t) = .str z t' ∧ (acc ++ z).length ≤ sizeLine ∧ Joins (model prog w) A E (evalEach es env) (acc ++ z) R { s with toks := tk } := fun y t tk hy => by
      have hl2 : (acc ++ y).length = acc.length + y.length := PySem.Str.length_append ..
      exact ⟨y, t, rfl, by omega, parts_join hn hk hl hd hv hs es (acc ++ y) { s with toks := tk } e (fun q hq => hp' q (List.mem_cons_of_mem _ hq)) (by omega) fun out tk' hz => k out tk' hz⟩
    rcases hp' p List.mem_cons_self with ⟨z, j, q, rfl, hz1⟩ | ⟨q, q2, rfl⟩
    · exact Calls.Constant_str (go z _ _ (by omega))
    · refine wpAny_FormattedValue_plain (wpAny_Name (wpAny_loadName_local hk hl (by rw [e]; exact hn) hv ?_) hd)
      rcases hs with ⟨z, t, rfl, hz1⟩ | ⟨i, t, rfl, hi⟩
      · exact wpAny_formatField_str (go z _ s.toks (by omega)) (go z _ _ (by omega)) (by omega)
      · exact wpAny_formatField_int hi (go _ _ _ (by have := int_text_length_le (k := 1920) (by decide) hi; rw [PySem.ofString_length]; omega))

abbrev supA (ar : Str) (p1 p2 : Pos) : Arguments := { posonlyargs := [], args := [{ arg := "self", annotation := none, pos := p1 }, { arg := ar, annotation := none, pos := p2 }], vararg := none, kwonlyargs := [], kw_defaults := [], kwarg := none, defaults := [] }
abbrev supS (ar : Str) : Scope := { kind := .function, names := [(PySem.Str.ofString "self", .local), (ar, .local), (PySem.Str.ofString "__class__", .free), (PySem.Str.ofString "super", .globalImplicit)], isGenerator := false, isCoroutine := false, more := [] }
abbrev supB (ar fld : Str) (v1 v2 : Expr) (rest : List Expr) (q0 q1 q2 q3 q4 q5 q6 q7 q8 q9 : Pos) : List Stmt :=
  [.Expr (.Call (.Attribute (.Call (.Name "super" q0) [] [] q1) "__init__" q2) [.JoinedStr (v1 :: v2 :: rest) q3] [] q4) q5, .Assign [.Attribute (.Name "self" q6) fld q7] (.Name ar q8) q9]
structure InitEnd (h h' : Heap) (x C dx t1 : Addr) (fld : Str) (v : Value) : Prop where
  keep : ∀ b o, b ≠ x → h.get? b = some o → h'.get? b = some o
  obj : h'.get? x = some { cls := .ref C, dict := some dx, data := .fields #[.ref t1, .none, .none, .none, .bool false, .none] }
  dbig : h.objs.size ≤ dx
  dne : dx ≠ x
  ns : h'.Ns1 dx (fun y => if y = fld then some v else none)
theorem me_call {env : Env} {c : Code} {o : Expr} {name : Str} {apos pos : Pos} {args : List Expr} {Q : Value → Shared → Prop} (hline : (apos.endLine == pos.line) = true)
    (hform : methodCallForm (args.length + ([] : List Keyword).length) (backTo pos (starEach args env)) (backToKw pos (keywordEach [] env)) = true)
    (h : PySem.wpAt (model prog w) A c (attributeBase o name env (eval o env)) (fun ov s₁ => ∀ pl, wpAny (model prog w) A (getMethod ov name pl) (fun fx s₂ => wpAny (model prog w) A (callWith pos fx.1 fx.2 (backTo pos (starEach args env)) []) Q E s₂) E s₁) E s) :
    PySem.wpAt (model prog w) A c (eval (.Call (.Attribute o name apos) args [] pos) env) Q E s := by
  rw [arm_eval_Call]
  refine PySem.wpAt_bind (PySem.wpAt_mono h (fun ov s₁ h₁ => PySem.wpAt_of_wpAny (wpAny_bind (wpAny_standAt ?_))) fun _ _ x => x)
  have hpos : methodCallPos true o env apos pos = pure pos := by unfold methodCallPos; simp [hline]
  unfold methodCall
  rw [hform]
  refine wpAny_bind (wpAny_holding (wpAny_mono (h₁ _) (fun fx s₂ h₂ => ?_) fun _ _ x => x))
  exact wpAny_bind (wpAny_of_eq hpos h₂)
theorem Heap.Ns.over {L x : Addr} {h h' : Heap} {m : Str → Option Value} (hn : h.Ns L m) (hx : L ≠ x) (k : ∀ b o, b ≠ x → h.get? b = some o → h'.get? b = some o) : h'.Ns L m := by
  obtain ⟨oL, es, ep, hL, r⟩ := hn
  exact ⟨oL, es, ep, k _ _ hx hL, r⟩
theorem kept_but {K : Frag} {h h' : Heap} {x : Addr} (X : K.In h) (hx : K.lookup x = none) (k : ∀ b o, b ≠ x → h.get? b = some o → h'.get? b = some o) : K.In h' := fun a o e =>
  k a o (fun z => by subst z; rw [show List.lookup a K = some o from e] at hx; cases hx) (X a o e)
theorem sup_init {qual ar fld : Str} {v1 v2 : Expr} {rest : List Expr} {p1 p2 q0 q1 q2 q3 q4 q5 q6 q7 q8 q9 : Pos} (T : SupC prog K C fI qual fld (supB ar fld v1 v2 rest q0 q1 q2 q3 q4 q5 q6 q7 q8 q9) (supA ar p1 p2) (supS ar))
    (ha : ar = "part" ∨ ar = "index" ∨ ar = "name" ∨ ar = "row" ∨ ar = "offset") (hparts : ∀ e ∈ v1 :: v2 :: rest, PartOk ar e) (hlen : rest.length ≤ 8) (hline : (q2.endLine == q4.line) = true) {x t0 : Addr} {v : Value} (hv : Shown v)
    (X : K.In s.heap) (hlim : s.heap.NoLimit) (hg : s.heap.Ns mainGlobals mg) (hb : s.heap.Ns builtinsNs mb) (hms : mg "super" = none) (hbs : mb "super" = some (.type "super")) (hx : s.heap.get? x = some (excO C t0)) (hnx : K.lookup x = none) (hroom : A.depth < recursionLimit)
    (hq : ∀ h' tk dx t1, InitEnd s.heap h' x C dx t1 fld v → R (.ok (.ret .none)) { s with heap := h', toks := tk }) :
    codeAny (model prog w) A (.call (.ref fI) ⟨[.ref x, v], []⟩) R s := by
  obtain ⟨oc, od, doc, pm, an, cda, cc, ct, osl, ccl, cl, cdd, cld, ccs, csl, vs, file, tf, ho, hcd, hcda, hvs, hfile, hcell⟩ := T.fn
  obtain ⟨nm, q, N, bs, bm, sn, sub, ab, col, dd, k0, k1, k2, k3, k5, hC, hbm⟩ := T.cls
  have hcl : clsIn K C = some { name := nm, bases := bs, mro := .ref C :: bm, ns := N, qualname := q, hasDict := true, slotNames := sn, subclasses := sub, abstract := ab, collection := col, hasDel := false } := by unfold clsIn; rw [hC] <;> rfl
  refine ks_codeAny_call_defAt (binds := [("self", .ref x), (ar, v)]) hroom (X _ _ ho) rfl hlim ?_ rfl (BindsTo.of_eq ?_) ?_ ?_ (fun h₁ hn k => ?_)
  · exact codeRec_of X hcd
  · rcases ha with rfl | rfl | rfl | rfl | rfl <;> first | rfl | with_unfolding_all rfl
  · intro y hy
    simp at hy
    rcases hy with rfl | rfl | rfl | rfl <;> exact fun e => by cases e
  · intro y hy
    rcases List.mem_cons.mp hy with rfl | hy
    · rfl
    · rcases List.mem_cons.mp hy with rfl | hy
      · rcases ha with rfl | rfl | rfl | rfl | rfl <;> rfl
      · cases hy
  have hxL : s.heap.objs.size ≠ x := Nat.ne_of_gt (Heap.lt_size hx)
  have X₁ : K.In h₁ := X.keeps k
  have hx₁ := k _ _ hx
  have hC₁ := X₁ _ _ hC
  have hz₁ : s.heap.objs.size < h₁.objs.size := hn.lt
  generalize eF : ksFn "__init__" qual (supA ar p1 p2) (supB ar fld v1 v2 rest q0 q1 q2 q3 q4 q5 q6 q7 q8 q9) (supS ar) Value.none Value.none doc pm an (Value.ref cda) ct cc = fd
  have eE : callEnv fd s.heap.objs.size fI = ksEnv qual (supS ar) s.heap.objs.size fI (.ref cda) cc := by rw [← eF]; rfl
  rw [eE]
  have nec : (ar == ("__class__" : Str)) = false ∧ (ar == ("super" : Str)) = false ∧ (ar == ("self" : Str)) = false ∧ (ar == ("__debug__" : Str)) = false := by rcases ha with rfl | rfl | rfl | rfl | rfl <;> decide
  have kS : (ksEnv qual (supS ar) s.heap.objs.size fI (.ref cda) cc).kindOf "super" = some .globalImplicit := by rcases ha with rfl | rfl | rfl | rfl | rfl <;> rfl
  have kC : (ksEnv qual (supS ar) s.heap.objs.size fI (.ref cda) cc).kindOf "__class__" = some .free := by rcases ha with rfl | rfl | rfl | rfl | rfl <;> rfl
  have kA : (ksEnv qual (supS ar) s.heap.objs.size fI (.ref cda) cc).kindOf ar = some .local := by rcases ha with rfl | rfl | rfl | rfl | rfl <;> rfl
  have kX : (ksEnv qual (supS ar) s.heap.objs.size fI (.ref cda) cc).kindOf "self" = some .local := rfl
  have mA : (List.reverse [(("self" : Str), Value.ref x), (ar, v)]).lookup ar = some v := by simp [List.lookup]
  have mX : (List.reverse [(("self" : Str), Value.ref x), (ar, v)]).lookup ("self" : Str) = some (.ref x) := by rcases ha with rfl | rfl | rfl | rfl | rfl <;> rfl
  refine ks_wpAt_execs_cons (ks_wpAt_Expr_any (me_call hline (by rfl) ?_) (by rfl) (by rfl))
  · refine ks_wpAt_super_base (env := ksEnv qual (supS ar) s.heap.objs.size fI (.ref cda) cc) (fd := fd) (ar := { arg := "self", annotation := none, pos := p1 }) kS kC (by decide) rfl (k _ _ (X _ _ ho)) (by rw [← eF]) (by rw [← eF]; rfl) rfl (X₁ _ _ hcda) rfl hvs hfile T.top ?_
    refine ks_loadName_global rfl kS (loadGlobal_builtin (hg.keeps k) hms (hb.keeps k) hbs ⟨rfl, ?_⟩)
    refine wpAny_loadName_free rfl kC rfl ⟨_, X₁ _ _ hcell, rfl⟩ ?_
    refine wpAny_loadName_local rfl kX hn mX ?_
    refine ks_wpAny_isType_cls hC₁ rfl ⟨rfl, ?_⟩
    refine ks_wpAny_call_super hC₁ rfl hx₁ rfl (fun c e => by cases e) (looks_mroIn X₁ T.slfC) (fun h₂ hso k₂ => ?_)
    have X₂ : K.In h₂ := X₁.keeps k₂
    have hx₂ := k₂ _ _ hx₁
    have hn₂ := hn.keeps k₂
    intro pl
    refine kxs_getMethod kxs_ValueError hso (looks_opaque X₂ T.opq) (l₀ := .ref C :: bm) (fun A Q E s' k q => wpAny_bind ((looks_clsIn X₂ hcl) A _ E s' k (wpAny_pure q))) rfl X₂ ?_ ?_ ?_ (by decide) ?_
    · have := T.alg
      unfold ks_superIn at this
      rw [hcl] at this
      exact this
    · exact InstAt.type (od := none) ⟨hx₂, rfl, rfl, trivial⟩ |>.andThen (looks_subIn X₂ T.veC)
    · intro z
      rw [z] at hnx
      have : K.lookup C = some _ := hC
      rw [this] at hnx; cases hnx
    have k₃ : ∀ b o, h₂.get? b = some o → (h₂.push (kxs_mw "ValueError.__init__" x)).get? b = some o := fun b o e => Heap.get?_push_of_some _ e
    have hn₃ := hn₂.keeps k₃
    have hu₃ : (h₂.push (kxs_mw "ValueError.__init__" x)).get? h₂.objs.size = some (kxs_mw "ValueError.__init__" x) := Heap.get?_push_at rfl rfl
    have hC₃ := k₃ _ _ (k₂ _ _ hC₁)
    have hx₃ := k₃ _ _ hx₂
    generalize eh : h₂.push (kxs_mw "ValueError.__init__" x) = h₃ at hn₃ hu₃ hC₃ hx₃ k₃ ⊢
    refine kxs_callWith (i := "ValueError.__init__") (x := x) rfl (evalArgs_plain (spliced_cons (wpAny_JoinedStr (pos := q3) ?_)))
    refine parts_join (hp := h₃) hn₃ rfl kA nec.2.2.2 mA hv (v1 :: v2 :: rest) Str.empty _ rfl hparts (by simp only [List.length_cons]; have : Str.empty.length = 0 := rfl; omega) (fun out tk hz => ?_)
    refine ⟨by rw [sizeLine_eq]; omega, spliced_nil ⟨hu₃, ?_⟩⟩
    refine mw_call hC₃ hx₃ hu₃ (by simp [sizeLine_eq]) (fun h₄ t1 k₄ hx₄ => ?_)
    have kk : ∀ b o, b ≠ x → s.heap.get? b = some o → h₄.get? b = some o := fun b o hb e => k₄ b o hb (k₃ _ _ (k₂ _ _ (k _ _ e)))
    have X₄ : K.In h₄ := kept_but X hnx kk
    refine PySem.wpAt_of_wpAny (wpAny_execs_cons (plainObj_wpAny_Assign_Attribute ?_))
    have hn₄ := Heap.Ns.over hn₃ (x := x) (h' := h₄) hxL k₄
    refine wpAny_Name (wpAny_loadName_local rfl kA hn₄ mA ?_) nec.2.2.2
    refine wpAny_Name (wpAny_loadName_local rfl kX hn₄ mX ?_) (by decide)
    refine set_plain X₄ (ox := excO C t1) (od := none) ⟨hx₄, rfl, rfl, trivial⟩ T.sa ?_
    refine exc_osa X₄ hx₄ hcl (show refsVE (.ref C :: bm) = true from hbm) rfl T.noN (fun h₅ tk₅ dx k₅ dn dne hx₅ hn₅ => ?_)
    refine wpAny_execs_nil (hq h₅ tk₅ dx t1 ⟨fun b o hb e => k₅ b o hb (kk b o hb e), hx₅, ?_, dne, hn₅⟩)
    exact Nat.le_of_lt (Nat.lt_of_lt_of_le hn₄.lt dn)
structure Made1 (h h' : Heap) (e C d : Addr) (fld : Str) (v : Value) : Prop where
  keep : ∀ b o, h.get? b = some o → h'.get? b = some o
  new : h.objs.size ≤ e
  obj : ∃ oe vs, h'.get? e = some oe ∧ oe.cls = .ref C ∧ oe.dict = some d ∧ oe.data = .fields vs ∧ vs[1]? = some .none
  dbig : h.objs.size ≤ d
  dne : d ≠ e
  ns : h'.Ns1 d (fun y => if y = fld then some v else none)
structure SupI (prog : Program) (w : World) (K : Frag) (mg : Str → Option Value) (C fI : Addr) (fld : Str) : Prop where
  cls : ∃ nm q N bs bm sn sub ab col dd k0 k1 k2 k3 k5, K.lookup C = some (excClassObj nm q C N bs bm true sn sub ab col dd k0 k1 k2 k3 k5 "ValueError.__new__") ∧ refsVE bm = true
  iC : findIn K (.ref C) "__init__" = some (some (.ref fI))
  tC : typeIn K (.ref fI) = some (.type "function")
  kC : keepIn K (.ref C) = true
  exC : subIn K (.ref C) (.type "BaseException") = some true
  tyC : typeIn K (.ref C) = some (.type "type")
  init : ∀ {A : Around} {R : Result → Shared → Prop} {s : Shared} {x t0 : Addr} {v : Value} {mb : Str → Option Value}, Shown v → K.In s.heap → s.heap.NoLimit → s.heap.Ns mainGlobals mg → s.heap.Ns builtinsNs mb → mb "super" = some (.type "super") → s.heap.get? x = some (excO C t0) → K.lookup x = none → A.depth < recursionLimit →
    (∀ h' tk dx t1, InitEnd s.heap h' x C dx t1 fld v → R (.ok (.ret .none)) { s with heap := h', toks := tk }) → codeAny (model prog w) A (.call (.ref fI) ⟨[.ref x, v], []⟩) R s
theorem sup_of {qual ar fld : Str} {v1 v2 : Expr} {rest : List Expr} {p1 p2 q0 q1 q2 q3 q4 q5 q6 q7 q8 q9 : Pos} (T : SupC prog K C fI qual fld (supB ar fld v1 v2 rest q0 q1 q2 q3 q4 q5 q6 q7 q8 q9) (supA ar p1 p2) (supS ar))
    (ha : ar = "part" ∨ ar = "index" ∨ ar = "name" ∨ ar = "row" ∨ ar = "offset") (hparts : ∀ e ∈ v1 :: v2 :: rest, PartOk ar e) (hlen : rest.length ≤ 8) (hline : (q2.endLine == q4.line) = true) (hms : mg "super" = none) : SupI prog w K mg C fI fld :=
  ⟨T.cls, T.iC, T.tC, T.kC, T.exC, T.tyC, fun hv X hlim hg hb hbs hx hnx hroom hq => sup_init T ha hparts hlen hline hv X hlim hg hb hms hbs hx hnx hroom hq⟩
theorem sup_made {fld : Str} (T : SupI prog w K mg C fI fld) {v : Value} (hv : Shown v) (X : K.In s.heap) (hlim : s.heap.NoLimit) (hg : s.heap.Ns mainGlobals mg) (hb : s.heap.Ns builtinsNs mb) (hbs : mb "super" = some (.type "super")) (hroom : A.depth + 1 < recursionLimit)
    (hq : ∀ h' tk e d, Made1 s.heap h' e C d fld v → R (.ok (.ret (.ref e))) { s with heap := h', toks := tk }) : codeAny (model prog w) A (.call (.ref C) ⟨[v], []⟩) R s := by
  obtain ⟨nm, q, N, bs, bm, sn, sub, ab, col, dd, k0, k1, k2, k3, k5, hC, hbm⟩ := T.cls
  obtain ⟨hp, g, dr, tk, os⟩ := s
  have old1 : ∀ b o, hp.get? b = some o → ((hp.push (kdv_tup [v])).push (excO C hp.objs.size)).get? b = some o := fun b o e => Heap.get?_push_of_some _ (Heap.get?_push_of_some _ e)
  have at1 : ((hp.push (kdv_tup [v])).push (excO C hp.objs.size)).get? (hp.objs.size + 1) = some (excO C hp.objs.size) := by heap_get
  have free : K.lookup (hp.objs.size + 1) = none := by
    rcases e : K.lookup (hp.objs.size + 1) with _ | o
    · rfl
    · exact absurd (Nat.lt_of_succ_lt (Heap.lt_size (X _ _ e))) (Nat.lt_irrefl _)
  refine call_own F.excBase_ValueError (fun X => refsVE_contains X bm hbm) (X _ _ hC) (looks_findIn X T.iC) (fun self => bind_fn X self T.tC) (by simp [sizeLine_eq]) ?_
  refine T.init (s := ⟨(hp.push (kdv_tup [v])).push (excO C hp.objs.size), g, dr, tk, os⟩) hv (X.keeps old1) (hlim.keeps old1) (hg.keeps old1) (hb.keeps old1) hbs at1 free hroom fun h' tk' dx t1 I => ?_
  have z : hp.objs.size + 1 + 1 ≤ dx := by
    have q := I.dbig
    first | exact q | (rw [Heap.size_push, Heap.size_push] at q; exact q) | simpa only [Heap.size_push] using q
  exact ⟨rfl, hq h' tk' (hp.objs.size + 1) dx ⟨fun b o e => I.keep b o (Nat.ne_of_lt (Nat.lt_succ_of_lt (Heap.lt_size e))) (old1 b o e), Nat.le_succ _, ⟨_, _, I.obj, rfl, rfl, rfl, rfl⟩, (by show hp.objs.size ≤ dx; omega), I.dne, I.ns⟩⟩
end
end CcX

namespace Cc
open PySem L2
structure ErrT (K : Fg) (mg : Str → Option Value) (x : Str) (C : Addr) : Prop where
  gC : mg x = some (.ref C)
  q : PySem.W.excIn K C [.type "ValueError", .type "Exception", .type "BaseException", .type "object"] "ValueError.__new__" = true
  kC : PySem.W.keepIn K (.ref C) = true
  exC : PySem.W.subIn K (.ref C) (.type "BaseException") = some true
  tyC : PySem.W.typeIn K (.ref C) = some (.type "type")
structure ErrF (P : Program) (w : World) (K : Fg) (mg : Str → Option Value) (x : Str) (C fI : Addr) (fld : Str) : Prop where
  gC : mg x = some (.ref C)
  sup : CcX.SupI P w K mg C fI fld
section
variable {X : Cx} {x : Str} {C : Addr} {p p2 pos pos2 : Pos} {m : Str} {j : Nat}
def tRaiseT (C : Addr) (W : WX) : TS := fun _ σ H => W (.ref C) none σ H
theorem ps_raiseT {W : WX} (hc : X.calm = true) (tk : Takes X W) (T : ErrT X.K X.mg x C) (hg : Gl X x := by rfl) (hdb : (x == ("__debug__" : Str)) = false := by decide) :
    PS X (.Raise (some (.Call (.Name x p) [.Constant (.str m) j p2] [] pos)) none pos2) (tRaiseT C W) :=
  ps_raise hc tk (pmk_own F.excBase_ValueError T.q T.gC T.kC (raises_own T.exC T.tyC) hg hdb)
def ShownV (v : V) : Prop := (∃ z : Str, v = .str z ∧ z.length ≤ 1000) ∨ ∃ i : Int, v = .int i ∧ i.natAbs.log2 < 1920
def tRaiseF (C : Addr) (fld : Str) (W : WX) (ta : TA) : TS := fun _ σ H => ta σ H fun vs H1 => ∃ v, vs = [v] ∧ ShownV v ∧ ∀ d, H1 d = none → W (.ref C) (some d) σ (upd H1 d (.xd [(fld, v)]))
theorem relO_one {v : V} {v' : Value} (r : RelV v v') (fld f : Str) : RelO (List.lookup f [(fld, v)]) (if f = fld then some v' else none) := by
  by_cases h : f = fld
  · subst h
    simpa [List.lookup, RelO] using r
  · have e : (f == fld) = false := by simpa using h
    simp [List.lookup, e, h, RelO]
theorem ps_raiseF {W : WX} {a : Expr} {ta : TA} {fI : Addr} {fld : Str} {k : Nat} (hc : X.calm = true) (tk : Takes X W) (T : ErrF X.prog X.w X.K X.mg x C fI fld) (hr : Room k X.A) (hk : 1 ≤ k) (ha : PA X [a] ta) (hg : Gl X x := by rfl) (hdb : (x == ("__debug__" : Str)) = false := by decide)
    (he : starEach (a :: []) X.env = (false, eval a X.env) :: starEach [] X.env := by rfl) (hpl : (backTo pos (starEach [] X.env)).any (·.1) = false := by rfl) :
    PS X (.Raise (some (.Call (.Name x p) [a] [] pos)) none pos2) (tRaiseF C fld W ta) := by
  refine ps_raise (t := fun σ H Q => ta σ H fun vs H1 => ∃ v, vs = [v] ∧ ShownV v ∧ ∀ d, H1 d = none → Q (.ref C) (some d) (upd H1 d (.xd [(fld, v)]))) hc tk ?_
  intro pins s σ H Q I h
  refine wpAny_Call_Name_kw (ld_glob I hg T.gC ?_ hdb)
  refine PySem.W.callWith_K (h₀ := X.base) I.ok.mod.kin T.sup.kC (thn (ha.run pos pins s σ H _ I h) fun us s1 hh => ?_) he hpl
  obtain ⟨vs, H1, I1, r1, v, ev, hsh, q1⟩ := hh
  subst ev
  refine ⟨I1.kIn, ?_⟩
  cases r1 with
  | @cons _ v' _ us' rv rn =>
    cases rn
    show wpAny _ _ (call (.ref C) [v']) _ _ _
    have hlim := I1.nolimit
    obtain ⟨mb, hB0, hB1⟩ := I1.mod.blt
    have hB : s1.heap.Ns builtinsNs mb := hB0.keeps I1.bk
    have hbs : mb "super" = some (.type "super") := (hB1 "super" (by decide)).trans (by decide +kernel)
    have hG : s1.heap.Ns mainGlobals X.mg := I1.mod.glob.keeps I1.bk
    have hsv : CcX.Shown v' := by
      rcases hsh with ⟨z, rfl, hz⟩ | ⟨i, rfl, hi⟩
      · obtain ⟨t, rfl⟩ := rv
        exact .inl ⟨z, t, rfl, hz⟩
      · obtain ⟨t, rfl⟩ := rv
        exact .inr ⟨i, t, rfl, hi⟩
    obtain ⟨hp, g, dr, tk', os⟩ := s1
    refine wpAny_call (CcX.sup_made T.sup hsv I1.kIn hlim hG hB hbs (by have := hr.dp; omega) fun h' tk2 e d M => ?_)
    show MkP X pins σ Q (.ref e) ⟨h', g, dr, tk2, os⟩
    obtain ⟨oe, fv, hoe, hcl, hd, hdat, h1⟩ := M.obj
    have hns := M.ns
    obtain ⟨G, g1, g2⟩ := restrict h' fun b => decide (b ≠ e)
    have gne : ∀ b, b ≠ e → G.get? b = h'.get? b := fun b hb => g1 b (decide_eq_true hb)
    have ge : G.get? e = none := g2 e (by simp)
    have old : ∀ b o, hp.get? b = some o → G.get? b = some o := fun b o q => (gne b (Nat.ne_of_lt (Nat.lt_of_lt_of_le (Heap.lt_size q) M.new))).trans (M.keep b o q)
    have ob : ObjOk X.prog X.w (upd H1 d (.xd [(fld, v)])) G d (.xd [(fld, v)]) := ⟨_, hns.at (fun o q => (gne d M.dne).trans q), fun f => relO_one rv fld f⟩
    have J : Inv X pins σ (upd H1 d (.xd [(fld, v)])) ⟨G, g, dr, tk2, os⟩ := I1.laid (t' := tk2) old M.dbig ob
    refine ⟨e, oe, fv, ⟨G, g, dr, tk2, os⟩, _, .ref C, some d, rfl, J, fun b o q => ?_, ge, hoe, ⟨hcl, hd⟩, hdat, h1, ?_, rfl, I1.bare, raises_own T.sup.exC T.sup.tyC, q1 d (I1.hok.fresh M.dbig)⟩
    · have q' : G.get? b = some o := q
      by_cases hb : b = e
      · rw [hb, ge] at q'; cases q'
      · exact (gne b hb).symm.trans q'
    · rw [upd_ne (Ne.symm M.dne)]
      exact I1.hok.fresh M.new
end
end Cc

namespace Cc
open PySem L2 PyProof.Rows
def CMk (P : Program) (w : World) (K : Fg) (mg : Str → Option Value) (base : Heap) (CX : CXT) (n : Nat) (x : Str) (C : Addr) (ps : List Str) (sp : Sp) : Prop :=
  ∃ (f : Addr) (fd : FuncData), Mk K C f ∧ FnOk P w K mg base CX n f fd ps sp ∧ mg x = some (.ref C) ∧ L2.Binds K fd ps []
def CMet (P : Program) (w : World) (K : Fg) (mg : Str → Option Value) (base : Heap) (CX : CXT) (n : Nat) (C : Addr) (m : Str) (ps : List Str) (sp : Sp) : Prop :=
  ∃ (f : Addr) (fd : FuncData), Cls K C ∧ Meth K C m f ∧ FnOk P w K mg base CX n f fd ps sp ∧ L2.Binds K fd ps []
def CPrp (P : Program) (w : World) (K : Fg) (mg : Str → Option Value) (base : Heap) (CX : CXT) (n : Nat) (C : Addr) (f : Str) (sp : Sp) : Prop :=
  ∃ (p g : Addr) (fd : FuncData), Cls K C ∧ PropOf K C f p g ∧ FnOk P w K mg base CX n g fd ["self"] sp ∧ L2.Binds K fd ["self"] []
abbrev E0 : XK := fun _ _ _ => False
section
variable {X : Cx} {CX : CXT} {n m : Nat} {x f mt : Str} {C : Addr} {ps : List Str} {sp : Sp} {E : XK} {e o : Expr} {es : List Expr} {t : TA} {ta : TE} {p pos apos : Pos}
theorem pe_mk (M : CMk X.prog X.w X.K X.mg X.base CX n x C ps sp) (hr : Room m X.A) (hx : Passes CX X E) (ha : PA X (e :: es) t) (hg : Gl X x := by rfl) (hn : n + 1 ≤ m := by decide)
    (hdb : (x == ("__debug__" : Str)) = false := by decide) (he : starEach (e :: es) X.env = (false, eval e X.env) :: starEach es X.env := by rfl) (hpl : (backTo pos (starEach es X.env)).any (·.1) = false := by rfl) : PE X (.Call (.Name x p) (e :: es) [] pos) (tMake C sp [] E t) := by
  obtain ⟨f, fd, M, F, hm, hb⟩ := M
  exact pe_make M F (hr.mono hn) hg hm hb .nil hx ha hdb he hpl
theorem pe_met {pl : Sem Bool} (M : CMet X.prog X.w X.K X.mg X.base CX n C mt ps sp) (hr : Room m X.A) (hx : Passes CX X E) (ho : PE X o ta) (ha : PA X (e :: es) t) (hn : n ≤ m := by decide)
    (hst : starEach (e :: es) X.env = (false, eval e X.env) :: starEach es X.env := by rfl) (hpl : (backTo pos (starEach es X.env)).any (·.1) = false := by rfl)
    (ht : eval (.Call (.Attribute o mt apos) (e :: es) [] pos) X.env = (do
      let ov ← eval o X.env
      standAt apos.atName
      let (f, first) ← holding [ov] (getMethod ov mt pl)
      callWith pos f first (backTo pos (starEach (e :: es) X.env)) (backToKw pos (keywordEach [] X.env))) := by rfl) : PE X (.Call (.Attribute o mt apos) (e :: es) [] pos) (tMeth C mt sp [] E ta t) := by
  obtain ⟨f, fd, c, hm, F, hb⟩ := M
  exact pe_meth ho c hm F (hr.mono hn) hb .nil hx ha hst hpl ht
theorem pe_prp (M : CPrp X.prog X.w X.K X.mg X.base CX n C f sp) (hr : Room m X.A) (hx : Passes CX X.nox E) (he : PE X e ta) (hn : n + 1 ≤ m := by decide) (hab : attributeBase e f X.env (eval e X.env) = eval e X.env := by rfl) : PE X (.Attribute e f pos) (tProp C sp [] E ta) := by
  obtain ⟨q, g, fd, c, hp, F, hb⟩ := M
  exact pe_prop he c hp F (hr.mono hn) hb .nil hx hab
theorem pe_calS {W : WX} (K0 : Cal X.prog X.w X.K X.mg X.base (L2.CX X.prog X.w) n x ps sp) (hr : Room m X.A) (tk : Takes X W) (ha : PA X (e :: es) t) (hg : Gl X x := by rfl) (hn : n ≤ m := by decide)
    (hdb : (x == ("__debug__" : Str)) = false := by decide) (he : starEach (e :: es) X.env = (false, eval e X.env) :: starEach es X.env := by rfl) (hpl : (backTo pos (starEach es X.env)).any (·.1) = false := by rfl) : PE X (.Call (.Name x p) (e :: es) [] pos) (tCallS sp (WE W) t) := by
  obtain ⟨f, fd, F, hm, hk, hb⟩ := K0
  exact pe_callS F (hr.mono hn) hg hm hk hb (fun σ => passAt tk σ) ha hdb he hpl
structure LenC (P : Program) (w : World) (K : Fg) (mg : Str → Option Value) (base : Heap) (n : Nat) (C : Addr) (sp : Sp) : Prop where
  run : ∃ (f : Addr) (fd : FuncData), FnOk P w K mg base CX0 n f fd ["self"] sp ∧ L2.Binds K fd ["self"] [] ∧ PySem.W.findIn K (.ref C) "__len__" = some (some (.ref f)) ∧ PySem.W.isFn K (.ref f) = true
def rLenI (C : Addr) (sp : Sp) : List V → Hp → VK → Prop := fun xs H Q => ∃ (a dx : Addr) (fs : List (Str × V)), xs = [.ref a] ∧ H a = some (.ins C dx fs) ∧ sp [.ref a] H (fun v H' => ∃ k : Int, v = .int k ∧ 0 ≤ k ∧ k < 2 ^ 63 ∧ Q v H') E0
theorem call_lenI (L : LenC X.prog X.w X.K X.mg X.base n C sp) (hr : Room m X.A) (hn : n + 1 ≤ m := by decide) : CallR X (.builtin "len") (rLenI C sp) := by
  intro pins s σ H xs us Q I r h
  obtain ⟨a, dx, fs, rfl, ea, h⟩ := h
  obtain ⟨f, fd, F, hb, hs, hf⟩ := L.run
  cases r with
  | cons rv rn =>
    cases rn
    cases rv
    obtain ⟨mA, O, _⟩ := ins_get I.hok ea
    obtain ⟨od, J, _⟩ := O.look
    obtain ⟨m', hF⟩ := I.fr
    refine PySem.W.len_K hF I.ok.mod.kin J hs hf ?_
    have hr1 : Room n X.A.in1 := (hr.mono hn).in1
    refine wpAny_call (codeAny_mono (F.run X.A.in1 X.stack s H ⟨[.ref a], []⟩ [.ref a] [.ref a] _ _ hr1 I.env0.in1 (by have := hb s [.ref a] I.kIn rfl; simpa using this) (.cons rfl .nil) h) fun r s' hq => ?_)
    cases r with
    | error e => exact (show False from hq).elim
    | ok fl =>
      cases fl with
      | ret u =>
        obtain ⟨v, H', I', rv, k, rfl, k0, k1, q⟩ := I.after hq
        obtain ⟨t, rfl⟩ := rv
        exact ⟨⟨k0, k1⟩, .int k, H', I'.tok _, ⟨_, rfl⟩, q⟩
      | next => exact False.elim hq
      | brk => exact False.elim hq
      | cont => exact False.elim hq
end
section
variable {K : Fg} {σ : L2.St} {H H' : Hp} {ta : TE} {t : TA} {d : D} {C : Addr} {ns : List Str} {ds es : List D} {f m : Str} {sp : Sp} {E : XK}
theorem lookup_none {fs : List (Str × V)} (hn : fs.map (·.1) = ns) (h : m ∉ ns) : fs.lookup m = none := by
  subst hn
  induction fs with
  | nil => rfl
  | cons p fs ih =>
    simp only [List.map_cons, List.mem_cons, not_or] at h
    have e : (m == p.1) = false := by simpa using h.1
    simp only [List.lookup, e]
    exact ih h.2
end
end Cc

namespace Cc
open PySem L2
section
variable {K : Fg} {H H' : Hp}
theorem putF_new {f : Str} {v : V} : ∀ {fs : List (Str × V)}, f ∉ fs.map (·.1) → putF f v fs = fs ++ [(f, v)]
  | [], _ => rfl
  | (g, x) :: r, h => by
    simp only [List.map_cons, List.mem_cons, not_or] at h
    have e : ¬ g = f := fun z => h.1 z.symm
    simp only [putF, if_neg e, List.cons_append]
    rw [putF_new h.2]
variable {σ : L2.St} {to te : TE} {d : D} {ds : List D} {ns : List Str} {f : Str} {E : Ends}
end
end Cc

namespace Cc
open PySem L2 PyProof.Rows
section
variable {X : Cx} {a : Addr} {oe : Obj} {cls : Value} {d : Option Addr} {pn : List (Addr × Obj)}
def tXg (K : Fg) (a : Addr) (cls : Value) (d : Option Addr) (f : Str) (te : TE) : TE := fun σ H Q => te σ H fun x H1 => x = .ref a ∧ ∃ (C dd : Addr) (fs : List (Str × V)) (v : V), cls = .ref C ∧ XfC K C ∧ PySem.W.findIn K (.ref C) f = some none ∧ d = some dd ∧ H1 dd = some (.xd fs) ∧ fs.lookup f = some v ∧ Q v H1
theorem pe_xg {e : Expr} {te : TE} {pos : Pos} {n : Str} (hz : Zc cls d oe) (hf : ∃ vs, oe.data = .fields vs) (he : PE (X.suite a ((a, oe) :: pn)) e te) (hb : attributeBase e n X.env (eval e X.env) = eval e X.env := by rfl) {K : Fg} (hK : X.K = K := by rfl) : PE (X.suite a ((a, oe) :: pn)) (.Attribute e n pos) (tXg K a cls d n te) := by
  subst hK
  refine ⟨fun pins s σ H Q I h => attr_of hb (thn (he.run pins s σ H _ I h) fun u s1 hh => ?_)⟩
  obtain ⟨x, H1, I1, rx, rfl, C, dd, fs, v, rfl, XC, hno, rfl, ea, l, q⟩ := hh
  obtain rfl : u = Value.ref a := rx
  obtain ⟨hat, _⟩ := I1.pin (a, oe) (List.mem_append_left _ List.mem_cons_self)
  obtain ⟨vs, hdat⟩ := hf
  have hxd : ObjOk X.prog X.w H1 s1.heap dd (.xd fs) := I1.hok dd _ ea
  obtain ⟨mA, hns, hr⟩ := hxd
  obtain ⟨od, ho, hl⟩ := lookIn_ns hns
  obtain ⟨u, hu, ru⟩ := RelO.some_of (v := v) (o := mA n) (by rw [← l]; exact hr n)
  have nc : PySem.W.notCls oe = true := by unfold PySem.W.notCls; rw [hdat]
  have J : PySem.W.InstAt s1.heap a oe C (some od) := ⟨hat, hz.1, nc, by rw [hz.2]; exact ho⟩
  exact HandSPX.exc_get I1.kIn J XC.ga XC.gg XC.exC (PySem.W.findObj_own XC.hdC hno rfl (by rw [hl, hu])) (handed_of ru) ⟨v, H1, I1.tok _, ru, q⟩
end
end Cc

namespace Cc
open PySem L2 PyProof.Rows
section
variable {K : Fg} {σ : L2.St} {H H' : Hp} {ta tb te : TE} {d e z : D} {E : Ends}
theorem r_neg {i : Int} : R1D K (rU fun i => .int (-i)) (.int i) (.int (-i)) := fun x H Q hx q => by
  cases hx
  exact ⟨i, rfl, q _ H (Same.refl _) (.int _)⟩
theorem tabs_but {T : List (Addr × Str)} {r : Addr} {xs : List V} (h : LamX.Tabs T H) (hr : H r = some (.lst xs)) (b : But [r] H H') : LamX.Tabs T H' := fun p hp => by
  obtain ⟨ps, h1, h2, h3⟩ := h p hp
  have nr : ∀ c o, H c = some o → (∀ ys, o ≠ .lst ys) → c ∉ [r] := fun c o hc hn hm => by
    rw [List.mem_singleton.mp hm, hr] at hc
    exact hn xs (Option.some.inj hc).symm
  refine ⟨ps, b _ _ h1 (nr _ _ h1 fun ys z => by cases z), h2, fun pos cv hcv => ?_⟩
  obtain ⟨c, e1, e2⟩ := h3 pos cv hcv
  exact ⟨c, e1, b _ _ e2 (nr _ _ e2 fun ys z => by unfold LamX.CodeO at z; cases z)⟩
end
end Cc

namespace Cc
open PySem L2 PyProof.Rows
end Cc

namespace Cc
open PySem L2 PyProof.Rows
section
variable {X : Cx}
def tTupP (t : TA) : TE := fun σ H Q => t σ H fun xs H1 => xs.length ≤ sizeLine ∧ ∀ p o, H1 p = none → PlO o → Q (.ref p) (upd H1 p (.frz o (.tup xs)))
theorem pe_tupP {es : List Expr} {t : TA} {pos : Pos} {x1} (h : PA X es t) : PE X (.Tuple es x1 pos) (tTupP t) := by
  refine ⟨fun pins s σ H Q I hq => ?_⟩
  refine wpAny_Tuple_spliced (thn (h.run pos pins s σ H _ I hq) fun us s1 ⟨xs, H1, I1, r, z, q⟩ => ⟨by rw [← r.length]; exact z, ?_⟩)
  have hf : H1 s1.heap.objs.size = none := I1.hok.fresh (Nat.le_refl _)
  have hg := Heap.get?_push_size (h := s1.heap) (o := { cls := .type "tuple", data := .seq us.toArray }) rfl
  refine ⟨.ref s1.heap.objs.size, upd H1 s1.heap.objs.size (.frz _ (.tup xs)), I1.laid (t' := s1.toks) (fun b u e => Heap.get?_push_of_some _ e) (Nat.le_refl _) ⟨hg, z, us, r, ⟨_, hg, rfl, _, rfl⟩⟩, rfl, q _ _ hf ⟨rfl, rfl⟩⟩
def rCatP : R2 := fun x y H Q => ∃ a b xs ys, x = .ref a ∧ y = .ref b ∧ PlT H a xs ∧ PlT H b ys ∧ xs.length + ys.length ≤ sizeLine ∧
  (xs = [] → Q (.ref b) H) ∧ (xs ≠ [] → ys = [] → Q (.ref a) H) ∧ (xs ≠ [] → ys ≠ [] → ∀ p o, H p = none → PlO o → Q (.ref p) (upd H p (.frz o (.tup (xs ++ ys)))))
theorem op_catP : OpR X (binaryOp .Add) rCatP := by
  intro pins s σ H x y v u Q I rx ry h
  obtain ⟨a, b, xs, ys, rfl, rfl, ha, hb, hz, q0, q1, q2⟩ := h
  cases rx
  cases ry
  obtain ⟨its, r1, p1, _⟩ := I.tuple (ha.sq (K := X.K))
  obtain ⟨its2, r2, p2, _⟩ := I.tuple (hb.sq (K := X.K))
  by_cases hx : xs = []
  · subst hx
    cases r1
    exact cat_tup0 p1 p2 ⟨.ref b, H, I, rfl, q0 rfl⟩
  refine HT.cat_tup p1 p2 (fun z => hx (r1.nil_iff.mp z)) (fun z => ⟨.ref a, H, I, rfl, q1 hx (r2.nil_iff.mp z)⟩) (fun z => ?_) (by rw [← r1.length, ← r2.length]; exact hz)
  have hg := Heap.get?_push_size (h := s.heap) (o := { cls := .type "tuple", data := .seq (its ++ its2).toArray }) rfl
  refine ⟨.ref s.heap.objs.size, upd H s.heap.objs.size (.frz { cls := .type "tuple", data := .seq (its ++ its2).toArray } (.tup (xs ++ ys))), I.laid (t' := s.toks) (fun b ob q => Heap.get?_push_of_some _ q) (Nat.le_refl _) ⟨?_, by rw [List.length_append]; exact hz, its ++ its2, r1.append r2, ?_⟩, rfl, q2 hx (fun w => z (r2.nil_iff.mpr w)) _ _ (I.hok.fresh (Nat.le_refl _)) ⟨rfl, rfl⟩⟩
  · simpa using hg
  · simpa using IsTup.new _ _
def tBMP (r : V → List V → Hp → VK → Prop) (to : TE) (t : TA) : TE := fun σ H Q => to σ H fun x H1 => (∃ p xs, x = .ref p ∧ PlT H1 p xs) ∧ t σ H1 fun xs H2 => r x xs H2 Q
theorem pe_bmP {id : String} {name : Str} {o e : Expr} {es : List Expr} {to : TE} {t : TA} {apos cpos : Pos} {r : V → List V → Hp → VK → Prop} (slot : Slot "tuple" name id) (hty : typeOf (.builtin id) = pure (.type "method_descriptor")) (hm : MtR X id r) (ho : PE X o to) (ha : PA X (e :: es) t)
    (hbase : attributeBase o name X.env (eval o X.env) = eval o X.env := by rfl)
    (hfew : ((backTo cpos (starEach (e :: es) X.env)).all (fun x => !x.1) && (backToKw cpos (keywordEach [] X.env)).all (fun x => x.1.isSome) && decide ((e :: es).length + ([] : List Keyword).length + (if ([] : List Keyword).isEmpty then 0 else 1) < 30)) = true := by rfl)
    (hline : (apos.endLine == cpos.line) = true := by rfl) (hs : starEach (e :: es) X.env = (false, eval e X.env) :: starEach es X.env := by rfl) (hpl : (backTo cpos (starEach es X.env)).any (·.1) = false := by rfl) : PE X (.Call (.Attribute o name apos) (e :: es) [] cpos) (tBMP r to t) := by
  refine ⟨fun pins s σ H Q I h => ?_⟩
  refine wpAny_Call_method_late hbase hfew hline rfl (thn (ho.run pins s σ H _ I h) fun v s1 ⟨x, H1, I1, rx, ⟨p, ws, ex, po, pc, pe⟩, q1⟩ => ?_)
  subst ex
  cases rx
  obtain ⟨hg, _⟩ := (show ObjOk X.prog X.w H1 s1.heap p (.frz po (.tup ws)) from I1.hok p _ pe)
  refine ⟨"tuple", id, PySem.F.plainAttrs_tuple, slot, hty, ⟨po, hg, pc.1⟩, fun a' e' => ?_, ?_⟩
  · cases e'
    exact ⟨po, hg, pc.2⟩
  have hA := ha.run cpos pins s1 σ H1 _ I1 q1
  rw [hs] at hA ⊢
  refine Calls.callWith_builtin (by show (false || (backTo cpos (starEach es X.env)).any (·.1)) = false; rw [hpl] <;> rfl) (Calls.evalArgs_plain ?_)
  exact thn hA fun us s2 ⟨vs, H2, I2, r2, q2⟩ => hm pins s2 σ H2 (.ref p) vs (.ref p) us Q I2 rfl r2 q2
end
section
variable {K : Fg} {σ : L2.St} {H : Hp}
end
end Cc

namespace Cc
open PySem PySem.Spec L2 PyProof.Rows
theorem _root_.L2.Room.units65 {k : Nat} {A : Around} (r : Room k A) : A.units + 65 < cLine := by have := r.un; omega
end Cc
namespace Cc
open PySem PySem.Spec L2 PyProof.Rows PySem.W
theorem vals_back {vs : List V} {us : List Value} (r : Vals vs us) {i : Nat} {u : Value} (h : us[i]? = some u) : ∃ v, vs[i]? = some v ∧ RelV v u := by
  have hl := r.length
  have hi : i < vs.length := by
    have := (List.getElem?_eq_some_iff.mp h).1
    omega
  obtain ⟨u', e, ru⟩ := r.get (List.getElem?_eq_getElem hi)
  rw [h] at e
  cases e
  exact ⟨_, List.getElem?_eq_getElem hi, ru⟩
section
variable {X : Cx}
end
def ltP (p q : Int × Int) : Bool := decide (p.1 < q.1 ∨ (p.1 = q.1 ∧ p.2 < q.2))
def minP (p : Int × Int) (ps : List (Int × Int)) : Int × Int := ps.foldl (fun a y => if ltP y a then y else a) p
section
variable {K : Fg} {σ : L2.St} {H : Hp} {te tz : TE}
end
end Cc

namespace Cc
open PySem L2 PyProof.Rows
def rIdxT (K : Fg) : V → List V → Hp → VK → Prop := fun x xs H Q => ∃ (p : Addr) (ys : List V) (y z : V) (j : Nat), x = .ref p ∧ xs = [y] ∧ SqT K H p ys ∧ flatV y = true ∧ ys.all flatV = true ∧ ys[j]? = some z ∧ eqV z y = true ∧ (∀ m z', m < j → ys[m]? = some z' → eqV z' y = false) ∧ Q (.int (j : Nat)) H
theorem mt_idxT {X : Cx} {K : Fg} (hK : X.K = K := by rfl) : MtR X "tuple.index" (rIdxT K) := by
  subst hK
  intro pins s σ H x xs v us Q I rx rxs h
  obtain ⟨p, ys, y, z, j, rfl, rfl, hs, fy, fys, hj, hz, hno, q⟩ := h
  cases rx
  obtain ⟨uy, rfl, ry⟩ := rxs.one
  obtain ⟨its, rv, ⟨⟨cl, dd, data, sl⟩, ho, hc, n, hdt⟩, hlen⟩ := I.tuple hs
  simp only at hc hdt
  subst hc hdt
  have hl : its.toArray.size = ys.length := by rw [List.size_toArray]; exact rv.length.symm
  have hj' : j < its.toArray.size := by rw [hl]; exact (List.getElem?_eq_some_iff.mp hj).1
  have at' : ∀ (m : Nat) (hm : m < its.toArray.size), ∃ w, ys[m]? = some w ∧ eqU y its.toArray[m] = eqV w y := fun m hm => by
    have hm' : m < ys.length := by rw [← hl]; exact hm
    obtain ⟨u, hu, ru⟩ := rv.get (i := m) (x := ys[m]) (by simp [hm'])
    refine ⟨ys[m], List.getElem?_eq_getElem hm', ?_⟩
    have e := (List.getElem?_eq_some_iff.mp hu).2
    have f : flatV ys[m] = true := List.all_eq_true.mp fys _ (List.getElem_mem hm')
    have e2 : its.toArray[m] = u := by rw [← e]; simp
    rw [e2]
    exact eqU_of ru f
  refine call_meets PySem.F.slot_tuple_index ⟨_, ho, rfl⟩ PySem.F.entry_tuple_index (PySem.F.args_tuple_index_2 _ _) (TI.tuple_indexAt p its.toArray n dd sl uy (eqU y) j hj' ?_ ?_)
    ⟨ho, fun u' hu' => mem_eqAt ry fy rv fys u' (by simpa using hu'), ⟨.int (j : Nat), H, I.tok _, ⟨_, rfl⟩, q⟩⟩
  · obtain ⟨w, h1, h2⟩ := at' j hj'
    rw [hj] at h1
    cases h1
    rw [h2]; exact hz
  · intro m hm hmj
    obtain ⟨w, h1, h2⟩ := at' m hm
    rw [h2]
    exact hno m w hmj h1
end Cc

namespace Cc
open PySem PySem.Spec L2 PyProof.Rows PySem.W
section
variable {K : Fg} {σ : L2.St} {H : Hp} {te tz : TE}
end
end Cc

namespace Cc
open PySem L2 PyProof.Rows
def leS (a b : Str) : Prop := a.cps.toList ≤ b.cps.toList
theorem leS_trans {a b c : Str} (h : leS a b) (k : leS b c) : leS a c := List.le_trans h k
theorem leS_anti {a b : Str} (h : leS a b) (k : leS b a) : a = b := by
  have e : a.cps.toList = b.cps.toList := List.le_antisymm h k
  cases a; cases b
  simpa using e
end Cc

namespace Cc
open PySem L2 RZ
theorem walk_zipT {K : Fg} {a b : Addr} {xs ys : List V} {n : Nat} (hn : n = min xs.length ys.length) : Walk (ItzT K a b) n (fun H => SqT K H a xs ∧ SqT K H b ys) (YPair (fun i => xs[i]?) (fun i => ys[i]?)) := by
  subst hn
  refine ⟨fun i _ hi q => ?_, fun _ q => ⟨xs, ys, q.1, q.2, by omega⟩, fun i H v H' _ q y => ?_⟩
  · have h1 : i < xs.length := by omega
    have h2 : i < ys.length := by omega
    exact ⟨xs, ys, xs[i], ys[i], q.1, q.2, by simp [h1], by simp [h2]⟩
  · obtain ⟨T, x, z, h1, h2, h3, h4, h5⟩ := y
    exact ⟨T, x, z, h1, h2, h3, h4 xs q.1, h5 ys q.2⟩
theorem pi_zK {X : Cx} (K : Fg) {e e2 : Expr} {ta : TA} {p pos tpos : Pos} {elts : List Expr} {kk : Nat} (hm : X.mg "zip" = none) (ha : PA X [e, e2] ta) (hg : Gl X "zip" := by rfl) (h : X.K = K := by rfl)
    (he : starEach [e, e2] X.env = (false, eval e X.env) :: starEach [e2] X.env := by rfl) (hp : (backTo pos (starEach [e2] X.env)).any (·.1) = false := by rfl) : PI X (.Tuple elts kk tpos) (.Call (.Name "zip" p) [e, e2] [] pos) (iZipA K ta) := h ▸ pi_zipA hg hm ha he hp
theorem pg_tK {X : Cx} (K : Fg) {es : List Expr} {k : Nat} {t : TGs} {n : Nat} {pos : Pos} (hc : X.calm = true) (h : PGs X es t) (hk : X.K = K := by rfl)
    (hn : (assignEach es X.env).length = n := by rfl) (hst : (assignEach es X.env).findIdx? (·.1) = none := by rfl) : PG X (.Tuple es k pos) (gTup K n t) := hk ▸ pg_tup hc h hn hst
section
variable {K : Fg} {σ : L2.St} {H H' : Hp} {te : TE} {t : TT}
end
end Cc

namespace CcE
open PySem PySem.AutoSeq1
open Sem (wp)
theorem meets_newT (l : Addr) (items : Array Value) (n : Nat) (dct : Option Addr) (sl : Array (Option Value)) :
    Meets (Builtin.«enumerate.__new__» ⟨[.type "enumerate", .ref l], []⟩) (fun _ R s => s.heap.get? l = some { cls := .type "tuple", dict := dct, data := .seq items n, slots := sl } ∧
      R (.ok (.ret (.ref (s.heap.push { cls := .type "tuple_iterator", data := .fields #[.ref l, .int 0 0] }).objs.size)))
        { s with heap := (s.heap.push { cls := .type "tuple_iterator", data := .fields #[.ref l, .int 0 0] }).push { cls := .type "enumerate", data := .fields #[.none, .bool false, .ref s.heap.objs.size, rawInt 0, .none, .none] } }) :=
  .of_wp fun prog w A R s h => by
    obtain ⟨hp, g, d, tk, os⟩ := s; obtain ⟨hl, h⟩ := h
    have hsub := sub_enumerate
    have hL : Heap.IsTuple (Shared.heap ⟨hp, g, d, tk, os⟩) l items := ⟨_, hl, rfl, n, rfl⟩
    wp_walk using wpAny_loadPart' hl
    refine wpAny_stack_any fun st => wpAny_pure ?_
    split
    · rename_i c _ _ _ _ _
      cases (c == Value.type "enumerate")
      · wp_walk using wpAny_loadPart' hl, wpAny_pyIter_tuple hL
        exact ⟨_, rfl, h⟩
      · wp_walk using wpAny_loadPart' hl, wpAny_pyIter_tuple hL
        exact ⟨_, rfl, h⟩
    · wp_walk using wpAny_loadPart' hl, wpAny_pyIter_tuple hL
      exact ⟨_, rfl, h⟩
theorem drawsT {prog : Program} {w : World} {A : Around} (hh : A.handled = none) (it l : Addr) (hne : l ≠ it) (items : Array Value) :
    Draws prog w A it [it, l] items.size (fun i v => items[i]? = some v) (fun i h => h.IsTupleIter it l i ∧ h.IsTuple l items) where
  live := fun _ _ st => let ⟨o, ho, _⟩ := st.1; ⟨o, ho⟩
  frame := fun _ _ _ st hk => ⟨st.1.at fun o e => hk it (by simp) o e, st.2.at fun o e => hk l (by simp) o e⟩
  item := fun i s Q E hi st hQ => by
    refine RZ.nextOf_tuple_item st.1 st.2 (x := items[i]) (by simp [hi]) fun h' hit' hs' => ?_
    exact hQ _ h' s.toks (by simp [hi]) ⟨hit', st.2.extBut hs'.extBut hne⟩ hs'
  done := fun s Q E st hE => RZ.nextOf_tuple_end hh st.1 st.2 (by simp) hE
section
variable {prog : Program} {w : World} {A : Around} {E : Value → Shared → Prop} {s : Shared}
theorem call_enumT {l : Addr} {items : Array Value} {Q : Value → Shared → Prop} (hL : s.heap.IsTuple l items)
    (k : ∀ h', IsEnum h' (s.heap.objs.size + 1) s.heap.objs.size 0 .none → h'.IsTupleIter s.heap.objs.size l 0 → h'.objs.size = s.heap.objs.size + 2 → (∀ b o, s.heap.get? b = some o → h'.get? b = some o) → Q (.ref (s.heap.objs.size + 1)) { s with heap := h' }) :
    wpAny (model prog w) A (call (.type "enumerate") [.ref l]) Q E s := by
  obtain ⟨⟨c, dct, dt, sl⟩, hl, hc, n, hd⟩ := hL
  have hc' : c = .type "tuple" := hc
  have hd' : dt = .seq items n := hd
  subst hc' hd'
  refine callType_new F.called_enumerate (by decide) (F.typeCall_enumerate_1 _) (F.newCall_enumerate_1 _) (fun obj => F.args_object_init_2 obj _) F.entry_enumerate_new (meets_newT l items n dct sl) ⟨hl, ?_⟩
  have sz : (s.heap.push { cls := .type "tuple_iterator", data := .fields #[.ref l, .int 0 0] }).objs.size = s.heap.objs.size + 1 := Heap.size_push ..
  show _ ∧ _
  rw [sz]
  have en : IsEnum ((s.heap.push { cls := .type "tuple_iterator", data := .fields #[.ref l, .int 0 0] }).push { cls := .type "enumerate", data := .fields #[.none, .bool false, .ref s.heap.objs.size, rawInt 0, .none, .none] }) (s.heap.objs.size + 1) s.heap.objs.size 0 .none := by
    have z := Heap.get?_push_size (s.heap.push { cls := .type "tuple_iterator", data := .fields #[.ref l, .int 0 0] }) (o := { cls := .type "enumerate", data := .fields #[.none, .bool false, .ref s.heap.objs.size, rawInt 0, .none, .none] }) rfl
    rw [sz] at z; exact z
  exact ⟨⟨_, en, rfl⟩, k _ en ⟨_, Heap.get?_push_of_some _ (Heap.get?_push_size _ rfl), rfl, rfl⟩ (by rw [Heap.size_push, sz]) fun b o x => Heap.get?_push_of_some _ (Heap.get?_push_of_some _ x)⟩
theorem wpAny_pyNext_enum_endT {e it l : Addr} {i : Nat} {items : Array Value} {old : Value} {n : Int} {Q : Option Value → Shared → Prop} (hh : A.handled = none) (he : IsEnum s.heap e it n old) (hit : s.heap.IsTupleIter it l i) (hl : s.heap.IsTuple l items) (hi : items.size ≤ i)
    (k : ∀ h', Heap.ExtBut it s.heap h' → Q none { s with heap := h' }) : wpAny (model prog w) A (pyNext (.ref e)) Q E s := by
  have D : Draws prog w A.in1 it [it, l] 0 (fun _ _ => True) (fun _ h => h.IsTupleIter it l i ∧ h.IsTuple l items) :=
    { live := fun _ _ st => let ⟨o, ho, _⟩ := st.1; ⟨o, ho⟩, frame := fun _ _ _ st hk => ⟨st.1.at fun o e => hk it (by simp) o e, st.2.at fun o e => hk l (by simp) o e⟩,
      item := fun _ _ _ _ hi => absurd hi (Nat.not_lt_zero _), done := fun s Q E st hE => RZ.nextOf_tuple_end hh st.1 st.2 (Array.getElem?_eq_none_iff.mpr hi) hE }
  exact wpAny_pyNext_enum_endD D he ⟨hit, hl⟩ k
end
end CcE
namespace CcE
open PySem L2 PyProof.Rows
def Itet (K : PySem.W.Frag) (a : Addr) : It :=
  ⟨fun i H => ∃ (xs : List V) (x : V), SqT K H a xs ∧ xs[i]? = some x, fun i H v H' => ∃ T x, v = .ref T ∧ H T = none ∧ H' = upd H T (.tup [.int (i : Nat), x]) ∧ ∀ xs, SqT K H a xs → xs[i]? = some x, fun i H => ∃ xs : List V, SqT K H a xs ∧ xs.length ≤ i⟩
theorem turn_et {P : Program} {w : World} {K : PySem.W.Frag} {elts : List Expr} {kk : Nat} {tpos : Pos} (a e it : Addr) (hai : a ≠ it) (hae : a ≠ e) :
    Turn P w K (.Tuple elts kk tpos) (Itet K a) [e, it] e (fun i h => (∃ old, IsEnum h e it ((i : Nat) : Int) old) ∧ h.IsTupleIter it a i ∧ e ≠ it) where
  mem := by simp
  obj := fun i h st b hb => by
    obtain ⟨⟨old, he⟩, ⟨o, ho, hc, hd⟩, _⟩ := st
    rcases (by simpa using hb : b = e ∨ b = it) with rfl | rfl
    · exact ⟨_, he, fun v q => nomatch q⟩
    · exact ⟨o, ho, fun v q => by rw [hd] at q; cases q⟩
  keep := fun i h h' st k => let ⟨⟨old, he⟩, hi, hne⟩ := st; ⟨⟨old, k e (by simp) _ he⟩, hi.at fun o q => k it (by simp) o q, hne⟩
  item := by
    intro X hP hw hK hc i pins s σ H E I hf st hg
    subst hP hw hK
    obtain ⟨⟨old, he⟩, hit, hne⟩ := st
    obtain ⟨xs, x, hq, hx⟩ := hg
    obtain ⟨its, rv, p, hz⟩ := I.tuple hq
    obtain ⟨u, hu, ru⟩ := rv.get hx
    have hel : e < s.heap.objs.size := Heap.lt_size he
    have hil : it < s.heap.objs.size := by obtain ⟨_, q, _⟩ := hit; exact Heap.lt_size q
    have hlt : i < its.toArray.size := by
      have := (List.getElem?_eq_some_iff.mp hu).1
      simpa using this
    refine wpAny_pyNext_enum_itemD (drawsT (prog := X.prog) (w := X.w) (A := X.A.in1) (I.ok.hd hc) it a hai its.toArray) he ⟨hit, p⟩ hlt hne (by simp [hne, Ne.symm hae]) fun u' h' tk hu' ho hst' hT hsz hk => ?_
    have eu : u' = u := by
      have z : its[i]? = some u' := by simpa using hu'
      rw [hu] at z
      exact (Option.some.inj z).symm
    subst eu
    refine ⟨_, rfl, wpAny_letOwnedTupleGo_enum (s := { s with heap := h', toks := tk + 1 }) ho fun h'' he' sb => ?_⟩
    have hT2 : h''.get? s.heap.objs.size = some { cls := .type "tuple", data := .seq #[.int i tk, u'] } := (sb.2 _ (Nat.ne_of_gt hel)).trans hT
    have new : ObjOk X.prog X.w (upd H s.heap.objs.size (.tup [.int (i : Nat), x])) h'' s.heap.objs.size (.tup [.int (i : Nat), x]) :=
      ⟨by show 2 ≤ sizeLine; decide, [.int i tk, u'], .cons ⟨_, rfl⟩ (.cons ru .nil), ⟨_, hT2, rfl, _, rfl⟩⟩
    have I1 : Inv X pins σ (upd H s.heap.objs.size (.tup [.int (i : Nat), x])) { s with heap := h'', toks := tk + 1 } :=
      I.turnedNew (ch := [e, it]) (fun b ob hb q => (sb.2 b (fun z => hb (by simp [z]))).trans (hk b ob (fun z => hb (by simp [z])) (fun z => hb (by simp [z])) q)) hf (Nat.le_refl _) new
    refine ⟨.ref s.heap.objs.size, _, I1, rfl, ⟨_, x, rfl, I.hok.fresh (Nat.le_refl _), rfl, fun ys hy => ?_⟩, ⟨⟨u', ?_⟩, hst'.1.at fun o q => (sb.2 it (Ne.symm hne)).trans q, hne⟩, fun b hb => ?_⟩
    · rw [I.tuple_inj hy hq]; exact hx
    · have e1 : ((i + 1 : Nat) : Int) = (i : Int) + 1 := by omega
      rw [e1]; exact he'
    · have hb' : b < s.heap.objs.size := by
        rcases (by simpa using hb : b = e ∨ b = it) with rfl | rfl
        · exact hel
        · exact hil
      rw [upd_ne (Nat.ne_of_lt hb')]
      exact (hf b hb).1
  done := by
    intro X hP hw hK hc i pins s σ H E I hf st hg
    subst hP hw hK
    obtain ⟨⟨old, he⟩, hit, hne⟩ := st
    obtain ⟨xs, hq, hx⟩ := hg
    obtain ⟨its, rv, p, hz⟩ := I.tuple hq
    obtain ⟨f0, f1, f2, f3, f4, f5⟩ := hf it (by simp)
    have hl := rv.length
    have hend : its.toArray.size ≤ i := by rw [List.size_toArray]; omega
    obtain ⟨o, ho, hcl, hd⟩ := id hit
    refine wpAny_pyNext_enum_endT (I.ok.hd hc) he hit p hend fun h' eb => ⟨rfl, I.turned (t' := s.toks) (fun b o hb q => eb b o hb q) f0 f1 f3 f4 f5⟩
  self := fun A i s Q E st h => let ⟨⟨_, he⟩, _⟩ := st; wpAny_pyIter_enum he h
def iEnumT (K : PySem.W.Frag) (ta : TA) : TI := fun σ H R => ta σ H fun vs H1 => ∃ a xs, vs = [.ref a] ∧ SqT K H1 a xs ∧ R (Itet K a) H1
theorem pi_enumT {X : Cx} (K : PySem.W.Frag) {e : Expr} {ta : TA} {p pos tpos : Pos} {elts : List Expr} {kk : Nat} (hm : X.mg "enumerate" = none) (ha : PA X [e] ta) (hK : X.K = K := by rfl) (hg : Gl X "enumerate" := by rfl) (hs : starEach [e] X.env = [(false, eval e X.env)] := by rfl) :
    PI X (.Tuple elts kk tpos) (.Call (.Name "enumerate" p) [e] [] pos) (iEnumT K ta) := by
  subst hK
  refine ⟨fun pins s σ H R I h => ?_⟩
  refine Call_ (ld_blt I hg hm boot_enumerate (PyProof.Rows.callWith_type1 (thn (ha.run pos pins s σ H _ I h) fun us s1 ⟨vs, H1, I1, r1, q1⟩ => ?_) hs rfl))
  obtain ⟨a, xs, rfl, hq, q⟩ := q1
  cases r1 with
  | cons r rr =>
    cases rr
    cases r
    obtain ⟨its, rv, tp, hz⟩ := I1.tuple hq
    have hal : a < s1.heap.objs.size := by obtain ⟨o, ho, _⟩ := tp; exact Heap.lt_size ho
    refine call_enumT tp fun h' he hit hsz hk => wpAny_pyIter_enum he ?_
    have I2 : Inv X pins σ H1 { s1 with heap := h' } := I1.kept (t' := s1.toks) hk
    refine ⟨s1.heap.objs.size + 1, [s1.heap.objs.size + 1, s1.heap.objs.size], _, _, H1, rfl, I2, turn_et a (s1.heap.objs.size + 1) s1.heap.objs.size (Nat.ne_of_lt hal) (Nat.ne_of_lt (Nat.lt_succ_of_lt hal)), ⟨⟨.none, he⟩, hit, Nat.succ_ne_self _⟩, fun b hb => ?_, q⟩
    have hle : s1.heap.objs.size ≤ b := by
      rcases (by simpa using hb : b = s1.heap.objs.size + 1 ∨ b = s1.heap.objs.size) with rfl | rfl
      · exact Nat.le_succ _
      · exact Nat.le_refl _
    exact I1.fpOk hle (I1.hok.fresh hle)
theorem walk_et {K : PySem.W.Frag} {a : Addr} {xs : List V} : Walk (Itet K a) xs.length (fun H => SqT K H a xs) (YPair (fun i => some (.int (i : Nat))) (fun i => xs[i]?)) := by
  refine ⟨fun i _ hi q => ⟨xs, xs[i], q, by simp [hi]⟩, fun _ q => ⟨xs, q, Nat.le_refl _⟩, fun i H v H' _ q y => ?_⟩
  obtain ⟨T, x, h1, h2, h3, h4⟩ := y
  exact ⟨T, .int (i : Nat), x, h1, h2, h3, rfl, h4 xs q⟩
end CcE

namespace Mi
open PySem L2 Cc
inductive M (α : Type) where
  | ret (a : α)
  | err (c : Str) (p : List D)
  | bad
  | draw (n : Int) (k : Int → M α)
namespace M
variable {α β γ : Type}
def bind : M α → (α → M β) → M β
  | .ret a, f => f a
  | .err c p, _ => .err c p
  | .bad, _ => .bad
  | .draw n k, f => .draw n fun i => (k i).bind f
def wp : M α → (α → Prop) → (Str → List D → Prop) → Prop
  | .ret a, Q, _ => Q a
  | .err c p, _, E => E c p
  | .bad, _, _ => False
  | .draw n k, Q, E => (0 < n ∧ n < 1073741824) ∧ ∀ i, 0 ≤ i → i < n → (k i).wp Q E
def calm : M α → M α
  | .ret a => .ret a
  | .err _ _ => .bad
  | .bad => .bad
  | .draw n k => .draw n fun i => (k i).calm
@[simp] theorem bind_ret {a : α} {f : α → M β} : (M.ret a).bind f = f a := rfl
@[simp] theorem bind_err {c : Str} {p : List D} {f : α → M β} : (M.err c p).bind f = M.err c p := rfl
@[simp] theorem bind_bad {f : α → M β} : (M.bad).bind f = M.bad := rfl
@[simp] theorem bind_draw {n : Int} {k : Int → M α} {f : α → M β} : (M.draw n k).bind f = M.draw n fun i => (k i).bind f := rfl
@[simp] theorem wp_ret {a : α} {Q : α → Prop} {E} : (M.ret a).wp Q E = Q a := rfl
@[simp] theorem wp_err {c : Str} {p : List D} {Q : α → Prop} {E} : (M.err c p).wp Q E = E c p := rfl
@[simp] theorem wp_bad {Q : α → Prop} {E} : (M.bad).wp Q E = False := rfl
theorem wp_draw {n : Int} {k : Int → M α} {Q : α → Prop} {E} : (M.draw n k).wp Q E = ((0 < n ∧ n < 1073741824) ∧ ∀ i, 0 ≤ i → i < n → (k i).wp Q E) := rfl
@[simp] theorem calm_ret {a : α} : (M.ret a).calm = M.ret a := rfl
@[simp] theorem calm_bad : (M.bad : M α).calm = M.bad := rfl
@[simp] theorem calm_draw {n : Int} {k : Int → M α} : (M.draw n k).calm = M.draw n fun i => (k i).calm := rfl
theorem wp_bind {Q : β → Prop} {E} {f : α → M β} : ∀ m : M α, (m.bind f).wp Q E ↔ m.wp (fun a => (f a).wp Q E) E
  | .ret _ => Iff.rfl
  | .err _ _ => Iff.rfl
  | .bad => Iff.rfl
  | .draw n k => by
    simp only [bind_draw, wp_draw]
    exact and_congr_right fun _ => forall_congr' fun i => forall_congr' fun _ => forall_congr' fun _ => wp_bind (k i)
theorem wp_mono {Q Q' : α → Prop} {E E' : Str → List D → Prop} (hQ : ∀ a, Q a → Q' a) (hE : ∀ c p, E c p → E' c p) : ∀ m : M α, m.wp Q E → m.wp Q' E'
  | .ret a, h => hQ a h
  | .err c p, h => hE c p h
  | .bad, h => h
  | .draw n k, h => ⟨h.1, fun i h0 h1 => wp_mono hQ hE (k i) (h.2 i h0 h1)⟩
theorem wp_calm {Q : α → Prop} {E E'} : ∀ m : M α, m.calm.wp Q E → m.wp Q E'
  | .ret a, h => h
  | .err c p, h => h.elim
  | .bad, h => h
  | .draw n k, h => ⟨h.1, fun i h0 h1 => wp_calm (k i) (h.2 i h0 h1)⟩
theorem bind_assoc {f : α → M β} {g : β → M γ} : ∀ m : M α, (m.bind f).bind g = m.bind fun a => (f a).bind g
  | .ret _ => rfl
  | .err _ _ => rfl
  | .bad => rfl
  | .draw n k => by
    simp only [bind_draw]
    congr 1
    funext i
    exact bind_assoc (k i)
def ofO : Option α → M α
  | some a => .ret a
  | none => .bad
@[simp] theorem ofO_some {a : α} : ofO (some a) = M.ret a := rfl
@[simp] theorem ofO_none : ofO (none : Option α) = M.bad := rfl
theorem wp_ofO {o : Option α} {Q : α → Prop} {E} (h : (ofO o).wp Q E) : ∃ a, o = some a ∧ Q a := by
  cases o with
  | none => exact h.elim
  | some a => exact ⟨a, rfl, h⟩
end M
inductive Sl where
  | no
  | dat (d : D)
  | own (ds : List D)
  /-- a dict of its own, whose keys are ints and texts -/
  | dk (kvs : List (Key × D))
  /-- .. as it is read -/
  | dkR (kvs : List (Key × D))
  /-- a dict of its own, whose keys are tuples -/
  | dn (w : World) (ks : List NestedKey) (ds : List D)
  /-- an instance of the k-th class that is being made -/
  | slf (k : Nat) (C : Addr) (ns : List Str) (ds : List D)
  /-- the row of draws -/
  | row
noncomputable def cellO : HO → Bool
  | .ext φ => @decide ((∃ a es ep, HO.ext φ = DnO a es ep) ∨ ∃ w a S n, HO.ext φ = L2.SetO w a S n) (Classical.propDecidable _)
  | .tup _ => false
  | .frz _ _ => false
  | _ => true
theorem dn_cell {a : Addr} {es : Array DictEntry} {ep : Nat} : cellO (DnO a es ep) = true := by
  unfold DnO cellO
  exact @decide_eq_true _ (Classical.propDecidable _) (.inl ⟨a, es, ep, rfl⟩)
theorem set_cell {w : World} {a : Addr} {S : Int → Bool} {n : Nat} : cellO (L2.SetO w a S n) = true := by
  unfold L2.SetO cellO
  exact @decide_eq_true _ (Classical.propDecidable _) (.inr ⟨w, a, S, n, rfl⟩)
abbrev Env := List Sl
structure Wd (K : Fg) where
  ct : List Str → Option Addr
  cls : Nat → Addr
  r : Addr
  ea : Str → Option Addr
  ef : Str → List Str
  X : Addr → Bool
  I : Hp → Prop
  Fr : Addr → Prop
  cell : ∀ {H : Hp} {a : Addr}, I H → X a = true → ∃ o, H a = some o ∧ cellO o = true
  up : ∀ {H H' : Hp}, I H → Same H H' → I H'
  new : ∀ {H : Hp} {a : Addr}, I H → H a = none → Fr a
  off : ∀ {H : Hp} {a : Addr} {o u : HO}, I H → Fr a → H a = some o → cellO o = true → I (upd H a u)
section
variable {K : Fg} {W : Wd K} {H H' H1 H2 : Hp} {Y Y' : Addr → Bool}
def mask (W : Wd K) (Y : Addr → Bool) (H : Hp) : Hp := fun a => if Y a = true then none else match H a with
  | some (.ins C dx fs) => if W.ct (fs.map (·.1)) = some C then some (.ins C dx fs) else none
  | o => o
theorem mask_le : Same (mask W Y H) H := fun a o h => by
  unfold mask at h
  split at h
  · cases h
  · split at h
    · rename_i e
      split at h
      · rw [← h]; exact e
      · cases h
    · exact h
theorem mask_at {a : Addr} {o : HO} (h : H a = some o) (hy : Y a = false) (ho : ∀ C dx fs, o = .ins C dx fs → W.ct (fs.map (·.1)) = some C) : mask W Y H a = some o := by
  unfold mask
  rw [if_neg (by rw [hy]; exact Bool.false_ne_true), h]
  cases o with
  | ins C dx fs => exact if_pos (ho C dx fs rfl)
  | _ => rfl
def Ext (W : Wd K) (H H' : Hp) : Prop := (∀ b o, H b = some o → W.X b = false → H' b = some o) ∧ W.I H'
def Ok (W : Wd K) (Y : Addr → Bool) (H : Hp) : Prop := W.I H ∧ (∀ a, W.X a = true → Y a = true) ∧ ∀ a, Y a = true → ∃ o, H a = some o ∧ cellO o = true
theorem Ext.refl (h : W.I H) : Ext W H H := ⟨fun _ _ e _ => e, h⟩
theorem Ext.trans (a : Ext W H H1) (b : Ext W H1 H2) : Ext W H H2 := ⟨fun c o e x => b.1 c o (a.1 c o e x) x, b.2⟩
theorem Ext.of (h : W.I H) (e : Same H H') : Ext W H H' := ⟨fun b o q _ => e b o q, W.up h e⟩
theorem Ext.free (e : Ext W H H') (hi : W.I H) {p : Addr} (h : H' p = none) : H p = none := by
  cases q : H p with
  | none => rfl
  | some o =>
    cases x : W.X p with
    | false => rw [e.1 p o q x] at h; cases h
    | true =>
      obtain ⟨u, hu, _⟩ := W.cell e.2 x
      rw [hu] at h; cases h
theorem Ok.x (h : Ok W Y H) {a : Addr} (hy : Y a = false) : W.X a = false := by
  cases x : W.X a with
  | false => rfl
  | true => rw [h.2.1 a x] at hy; cases hy
theorem Ok.ext (h : Ok W Y H) (e : Ext W H H') : Ok W Y H' := ⟨e.2, h.2.1, fun a ha => by
  obtain ⟨o, ho, i⟩ := h.2.2 a ha
  cases x : W.X a with
  | true => exact W.cell e.2 x
  | false => exact ⟨o, e.1 a o ho x, i⟩⟩
theorem Ok.fresh (h : Ok W Y H) {p : Addr} (hp : H p = none) : Y p = false := by
  cases q : Y p with
  | false => rfl
  | true =>
    obtain ⟨o, ho, _⟩ := h.2.2 p q
    rw [hp] at ho; cases ho
theorem mask_ext (h : Ok W Y H) (e : Ext W H H') : Same (mask W Y H) (mask W Y H') := fun a o q => by
  have hy : Y a = false := by
    cases z : Y a with
    | false => rfl
    | true => unfold mask at q; rw [if_pos z] at q; cases q
  have q1 := mask_le a o q
  refine mask_at (e.1 a o q1 (h.x hy)) hy fun C dx fs eo => ?_
  subst eo
  unfold mask at q
  rw [if_neg (by rw [hy]; exact Bool.false_ne_true), q1] at q
  by_cases c : W.ct (fs.map (·.1)) = some C
  · exact c
  · simp only [if_neg c] at q; cases q
theorem mask_anti (h : ∀ a, Y' a = true → Y a = true) : Same (mask W Y H) (mask W Y' H) := fun a o q => by
  have hy : Y a = false := by
    cases z : Y a with
    | false => rfl
    | true => unfold mask at q; rw [if_pos z] at q; cases q
  have hy' : Y' a = false := by
    cases z : Y' a with
    | false => rfl
    | true => rw [h a z] at hy; cases hy
  unfold mask at q ⊢
  rw [if_neg (by rw [hy]; exact Bool.false_ne_true)] at q
  rw [if_neg (by rw [hy']; exact Bool.false_ne_true)]
  exact q
theorem mask_off {a : Addr} {o : HO} (h : Y a = true) : mask W Y (upd H a o) = mask W Y H := by
  funext b
  unfold mask
  by_cases e : b = a
  · subst e
    rw [if_pos h, if_pos h]
  · rw [upd_ne e]
def also (Y : Addr → Bool) (p : Addr) : Addr → Bool := fun a => a == p || Y a
theorem mask_new {p : Addr} {o : HO} (h : Ok W Y H) (hp : H p = none) : Same (mask W Y H) (mask W (also Y p) (upd H p o)) := fun a u q => by
  have q1 := mask_le a u q
  have ha : a ≠ p := ne_of_none q1 hp
  unfold mask at q ⊢
  have e : also Y p a = Y a := by simp [also, ha]
  rw [e, upd_ne ha]
  exact q
abbrev Dm (W : Wd K) (Y : Addr → Bool) (H : Hp) : V → D → Prop := Dn K (mask W Y H)
abbrev Dms (W : Wd K) (Y : Addr → Bool) (H : Hp) : List V → List D → Prop := Dns K (mask W Y H)
mutual
theorem Dn.see (h : Ok W Y H) : ∀ (d : D) (v : V), d.fix = true → d.pl = true → Dn K H v d → Dn K (mask W Y H) v d
  | .non, _, _, _, e => by cases e; exact .non
  | .bl b, _, _, _, e => by cases e; exact .bl b
  | .int i, _, _, _, e => by cases e; exact .int i
  | .str x, _, _, _, e => by cases e; exact .str x
  | .lst _, _, f, _, _ => by cases f
  | .tup ds, _, f, p, e => by
    cases e with
    | tup hs ha =>
      refine .tup ?_ (Dns.see h ds _ f p ha)
      have at' : ∀ {a : Addr} {o : HO}, H a = some o → cellO o = false → (∀ C dx fs, o ≠ .ins C dx fs) → mask W Y H a = some o := fun {a o} e i n => mask_at e (by
        cases z : Y a with
        | false => rfl
        | true =>
          obtain ⟨u, hu, iu⟩ := h.2.2 a z
          rw [e] at hu; cases hu; rw [i] at iu; cases iu) fun C dx fs eo => (n C dx fs eo).elim
      rcases hs with (hs | ⟨o, hs⟩) | hs
      · exact .inl (.inl (at' hs rfl (fun _ _ _ z => nomatch z)))
      · exact .inl (.inr ⟨o, at' hs rfl (fun _ _ _ z => nomatch z)⟩)
      · exact .inr hs
  | .ptup ds, _, f, p, e => by
    cases e with
    | ptup hs ha =>
      obtain ⟨o, po, hs⟩ := hs
      refine .ptup ⟨o, po, mask_at hs ?_ fun _ _ _ z => nomatch z⟩ (Dns.see h ds _ f p ha)
      · rename_i a xs
        cases z : Y a with
        | false => rfl
        | true =>
          obtain ⟨u, hu, iu⟩ := h.2.2 a z
          rw [hs] at hu; cases hu; cases iu
  | .ob _ _ _, _, _, p, _ => by cases p
  | .adr _, _, _, p, _ => by cases p
  | .dct _ _ _, _, _, p, _ => by cases p
  | .dks _ _, _, _, p, _ => by cases p
theorem Dns.see (h : Ok W Y H) : ∀ (ds : List D) (vs : List V), D.fixs ds = true → D.pls ds = true → Dns K H vs ds → Dns K (mask W Y H) vs ds
  | [], _, _, _, e => by cases e; exact .nil
  | d :: ds, _, f, p, e => by
    cases e with
    | cons h1 h2 =>
      have f' : d.fix = true ∧ D.fixs ds = true := by simpa [D.fixs] using f
      have p' : d.pl = true ∧ D.pls ds = true := by simpa [D.pls] using p
      exact .cons (Dn.see h d _ f'.1 p'.1 h1) (Dns.see h ds _ f'.2 p'.2 h2)
end
theorem Dm.up {v : V} {d : D} (h : Dm W Y H v d) (o : Ok W Y H) (e : Ext W H H') : Dm W Y H' v d := Dn.same (mask_ext o e) d v h
theorem Dms.up {vs : List V} {ds : List D} (h : Dms W Y H vs ds) (o : Ok W Y H) (e : Ext W H H') : Dms W Y H' vs ds := Dns.same (mask_ext o e) ds vs h
theorem Dm.un {v : V} {d : D} (h : Dm W Y H v d) : Dn K H v d := Dn.same mask_le d v h
theorem Dms.un {vs : List V} {ds : List D} (h : Dms W Y H vs ds) : Dns K H vs ds := Dns.same mask_le ds vs h
theorem Dm.fresh {v : V} {d : D} {p : Addr} {o : HO} (h : Dm W Y H v d) (k : Ok W Y H) (hp : H p = none) : Dm W (also Y p) (upd H p o) v d := Dn.same (mask_new k hp) d v h
theorem Dms.fresh {vs : List V} {ds : List D} {p : Addr} {o : HO} (h : Dms W Y H vs ds) (k : Ok W Y H) (hp : H p = none) : Dms W (also Y p) (upd H p o) vs ds := Dns.same (mask_new k hp) ds vs h
theorem Dm.less {v : V} {d : D} (h : Dm W Y H v d) (k : ∀ a, Y' a = true → Y a = true) : Dm W Y' H v d := Dn.same (mask_anti k) d v h
theorem Dms.less {vs : List V} {ds : List D} (h : Dms W Y H vs ds) (k : ∀ a, Y' a = true → Y a = true) : Dms W Y' H vs ds := Dns.same (mask_anti k) ds vs h
theorem also_r {p : Addr} : ∀ a, Y a = true → also Y p a = true := fun a h => by simp [also, h]
def RetP (W : Wd K) (Y : Addr → Bool) (H : Hp) (Q : VK) : D → Prop := fun d => ∀ v H', Ext W H H' → Dm W Y H' v d → Q v H'
def RetPs (W : Wd K) (Y : Addr → Bool) (H : Hp) (Q : List V → Hp → Prop) : List D → Prop := fun ds => ∀ vs H', Ext W H H' → Dms W Y H' vs ds → Q vs H'
def RetPb (W : Wd K) (H : Hp) (Q : Bool → Hp → Prop) : Bool → Prop := fun b => ∀ H', Ext W H H' → Q b H'
def RetPn (W : Wd K) (Y : Addr → Bool) (H : Hp) (Q : VK) : List D → Prop := fun ds => ∀ p xs H', Ext W H H' → H p = none → H' p = some (.lst xs) → Dms W (also Y p) H' xs ds → Q (.ref p) H'
def IsE (W : Wd K) (c : Str) (p : List D) (cls : Value) (o : Option Addr) (H : Hp) : Prop := ∃ A, W.ea c = some A ∧ cls = .ref A ∧
  ((p = [] ∧ o = none) ∨ (p ≠ [] ∧ ∃ dd vs, o = some dd ∧ (W.ef c).length = vs.length ∧ H dd = some (.xd ((W.ef c).zip vs)) ∧ Dns K (fun _ => none) vs p))
def ErrP (W : Wd K) (E : XK) (H : Hp) : Str → List D → Prop := fun c p => ∀ cls o H', Ext W H H' → IsE W c p cls o H' → E cls o H'
theorem RetP.up {Q : VK} {d : D} (h : RetP W Y H Q d) (e : Ext W H H') : RetP W Y H' Q d := fun v H2 e2 hv => h v H2 (e.trans e2) hv
theorem ErrP.up {E : XK} {c : Str} {p : List D} (h : ErrP W E H c p) (e : Ext W H H') : ErrP W E H' c p := fun cls o H2 e2 hv => h cls o H2 (e.trans e2) hv
def look (ρ : Env) (i : Nat) : Option D := match ρ[i]? with
  | some (.dat d) => some d
  | _ => none
def DkR (K : Fg) (Hm : Hp) (σ : L2.St) (i : Nat) (kvs : List (Key × D)) : Prop := ∃ l vs, σ[i]? = some (some (V.ref l)) ∧ Hm l = some (.dK ((kvs.map (·.1)).zip vs)) ∧ Dns K Hm vs (kvs.map (·.2))
def EnvR {K : Fg} (W : Wd K) (Hm : Hp) (σ : L2.St) (ρ : Env) : Prop := σ.length = ρ.length ∧ (∀ i d, look ρ i = some d → ∃ v, σ[i]? = some (some v) ∧ Dn K Hm v d) ∧ (∀ i : Nat, ρ[i]? = some Sl.row → σ[i]? = some (some (V.ref W.r))) ∧ ∀ (i : Nat) kvs, ρ[i]? = some (Sl.dkR kvs) → DkR K Hm σ i kvs
theorem EnvR.same {Hm Hm' : Hp} {σ : L2.St} {ρ : Env} (h : EnvR W Hm σ ρ) (e : Same Hm Hm') : EnvR W Hm' σ ρ := ⟨h.1, fun i d l => by
  obtain ⟨v, h1, h2⟩ := h.2.1 i d l
  exact ⟨v, h1, h2.up e⟩, h.2.2.1, fun i kvs l => by
  obtain ⟨p, vs, h1, h2, h3⟩ := h.2.2.2 i kvs l
  exact ⟨p, vs, h1, e _ _ h2, Dns.same e _ _ h3⟩⟩
theorem EnvR.up {σ : L2.St} {ρ : Env} (h : EnvR W (mask W Y H) σ ρ) (o : Ok W Y H) (e : Ext W H H') : EnvR W (mask W Y H') σ ρ := h.same (mask_ext o e)
def GE (W : Wd K) (E : XK) (te : TE) (m : Env → M D) : Prop := ∀ Y σ H ρ Q, Ok W Y H → EnvR W (mask W Y H) σ ρ → (m ρ).wp (RetP W Y H Q) (ErrP W E H) → te σ H Q
def GA (W : Wd K) (E : XK) (ta : TA) (m : Env → M (List D)) : Prop := ∀ Y σ H ρ Q, Ok W Y H → EnvR W (mask W Y H) σ ρ → (m ρ).wp (RetPs W Y H Q) (ErrP W E H) → ta σ H Q
def GT (W : Wd K) (E : XK) (tt : TT) (m : Env → M Bool) : Prop := ∀ Y σ H ρ Q, Ok W Y H → EnvR W (mask W Y H) σ ρ → (m ρ).wp (RetPb W H Q) (ErrP W E H) → tt σ H Q
def GN (W : Wd K) (E : XK) (te : TE) (m : Env → M (List D)) : Prop := ∀ Y σ H ρ Q, Ok W Y H → EnvR W (mask W Y H) σ ρ → (m ρ).wp (RetPn W Y H Q) (ErrP W E H) → te σ H Q
def RetPo (W : Wd K) (H : Hp) (Q : Option Int → Hp → Prop) : Option Int → Prop := fun b => ∀ H', Ext W H H' → Q b H'
def GO (W : Wd K) (E : XK) (to : TO) (m : Env → M (Option Int)) : Prop := ∀ Y σ H ρ Q, Ok W Y H → EnvR W (mask W Y H) σ ρ → (m ρ).wp (RetPo W H Q) (ErrP W E H) → to σ H Q
def mVar (i : Nat) : Env → M D := fun ρ => M.ofO (look ρ i)
def mC (d : D) : Env → M D := fun _ => .ret d
def mOp (f : D → D → Option D) (a b : Env → M D) : Env → M D := fun ρ => (a ρ).bind fun x => (b ρ).bind fun y => M.ofO (f x y)
def mUn (f : D → Option D) (a : Env → M D) : Env → M D := fun ρ => (a ρ).bind fun x => M.ofO (f x)
def mNil : Env → M (List D) := fun _ => .ret []
def mCons (a : Env → M D) (r : Env → M (List D)) : Env → M (List D) := fun ρ => (a ρ).bind fun x => (r ρ).bind fun xs => .ret (x :: xs)
def mCB (f : List D → Option D) (a : Env → M (List D)) : Env → M D := fun ρ => (a ρ).bind fun xs => M.ofO (f xs)
def mCBn (f : List D → Option (List D)) (a : Env → M (List D)) : Env → M (List D) := fun ρ => (a ρ).bind fun xs => M.ofO (f xs)
def mCall (F : List D → M D) (a : Env → M (List D)) : Env → M D := fun ρ => (a ρ).bind F
def mTup (a : Env → M (List D)) : Env → M D := fun ρ => (a ρ).bind fun xs => if xs.length ≤ 100000 then .ret (.ptup xs) else .bad
def mLst (a : Env → M (List D)) : Env → M (List D) := fun ρ => (a ρ).bind fun xs => if xs.length ≤ 100000 then .ret xs else .bad
def mNew (a : Env → M (List D)) : Env → M D := fun ρ => (a ρ).bind fun xs => .ret (.lst xs)
def asB : D → M Bool
  | .bl b => .ret b
  | _ => .bad
def cOf (a : Env → M D) : Env → M Bool := fun ρ => (a ρ).bind asB
def cAnd (a b : Env → M Bool) : Env → M Bool := fun ρ => (a ρ).bind fun x => if x then b ρ else .ret false
def cOr (a b : Env → M Bool) : Env → M Bool := fun ρ => (a ρ).bind fun x => if x then .ret true else b ρ
def cNot (a : Env → M Bool) : Env → M Bool := fun ρ => (a ρ).bind fun x => .ret (!x)
def cYes : Env → M Bool := fun _ => .ret true
def mAnd (a b : Env → M D) : Env → M D := fun ρ => (a ρ).bind fun x => (asB x).bind fun k => if k then b ρ else .ret (.bl false)
def mOr (a b : Env → M D) : Env → M D := fun ρ => (a ρ).bind fun x => (asB x).bind fun k => if k then .ret (.bl true) else b ρ
def mNot (a : Env → M D) : Env → M D := fun ρ => (a ρ).bind fun x => (asB x).bind fun k => .ret (.bl (!k))
def mIf (c : Env → M Bool) (a b : Env → M D) : Env → M D := fun ρ => (c ρ).bind fun k => if k then a ρ else b ρ
def mChain (f g : D → D → Option D) (a b c : Env → M D) : Env → M D := fun ρ => (a ρ).bind fun x => (b ρ).bind fun y => (M.ofO (f x y)).bind fun z => (asB z).bind fun k => if k then (c ρ).bind fun w => M.ofO (g y w) else .ret (.bl false)
def oNone : Env → M (Option Int) := fun _ => .ret none
def asI : D → M Int
  | .int i => .ret i
  | _ => .bad
def oSome (a : Env → M D) : Env → M (Option Int) := fun ρ => (a ρ).bind fun x => (asI x).bind fun i => .ret (some i)
end
section
variable {K : Fg} {W : Wd K} {E : XK} {ta tb tc te : TE} {tt uu : TT} {m a b c : Env → M D} {tl : TA} {ma : Env → M (List D)} {p q : Env → M Bool}
theorem GE.seq {α : Type} {Y : Addr → Bool} {σ : L2.St} {H : Hp} {ρ : Env} {f : D → M α} {R : α → Prop} {Er : Str → List D → Prop} {Q : VK} (h : GE W E te m) (o : Ok W Y H) (e : EnvR W (mask W Y H) σ ρ) (w : ((m ρ).bind f).wp R Er) (hE : ∀ c p, Er c p → ErrP W E H c p)
    (k : ∀ d v H1, Ext W H H1 → Ok W Y H1 → EnvR W (mask W Y H1) σ ρ → Dm W Y H1 v d → (f d).wp R Er → Q v H1) : te σ H Q :=
  h Y σ H ρ Q o e (M.wp_mono (fun d hd v H1 e1 hv => k d v H1 e1 (o.ext e1) (e.up o e1) hv hd) hE _ ((M.wp_bind _).mp w))
theorem GA.seq {α : Type} {Y : Addr → Bool} {σ : L2.St} {H : Hp} {ρ : Env} {f : List D → M α} {R : α → Prop} {Er : Str → List D → Prop} {Q : List V → Hp → Prop} (h : GA W E tl ma) (o : Ok W Y H) (e : EnvR W (mask W Y H) σ ρ) (w : ((ma ρ).bind f).wp R Er) (hE : ∀ c p, Er c p → ErrP W E H c p)
    (k : ∀ ds vs H1, Ext W H H1 → Ok W Y H1 → EnvR W (mask W Y H1) σ ρ → Dms W Y H1 vs ds → (f ds).wp R Er → Q vs H1) : tl σ H Q :=
  h Y σ H ρ Q o e (M.wp_mono (fun d hd v H1 e1 hv => k d v H1 e1 (o.ext e1) (e.up o e1) hv hd) hE _ ((M.wp_bind _).mp w))
theorem GT.seq {α : Type} {Y : Addr → Bool} {σ : L2.St} {H : Hp} {ρ : Env} {f : Bool → M α} {R : α → Prop} {Er : Str → List D → Prop} {Q : Bool → Hp → Prop} (h : GT W E tt p) (o : Ok W Y H) (e : EnvR W (mask W Y H) σ ρ) (w : ((p ρ).bind f).wp R Er) (hE : ∀ c p, Er c p → ErrP W E H c p)
    (k : ∀ b H1, Ext W H H1 → Ok W Y H1 → EnvR W (mask W Y H1) σ ρ → (f b).wp R Er → Q b H1) : tt σ H Q :=
  h Y σ H ρ Q o e (M.wp_mono (fun b hd H1 e1 => k b H1 e1 (o.ext e1) (e.up o e1) hd) hE _ ((M.wp_bind _).mp w))
theorem wp_up {α : Type} {x : M α} {R R' : α → Prop} {H H1 : Hp} (w : x.wp R (ErrP W E H)) (e : Ext W H H1) (k : ∀ a, R a → R' a) : x.wp R' (ErrP W E H1) := M.wp_mono k (fun _ _ h => h.up e) _ w
theorem ge_var {i : Nat} : GE W E (tVar i) (mVar i) := fun Y σ H ρ Q o e w => by
  obtain ⟨d, hd, hq⟩ := M.wp_ofO w
  obtain ⟨v, h1, h2⟩ := e.2.1 i d hd
  exact ⟨v, h1, hq v H (.refl o.1) h2⟩
theorem ge_c {v : V} {d : D} (h : ∀ Hm : Hp, Dn K Hm v d) : GE W E (tC v) (mC d) := fun Y σ H ρ Q o e w => w v H (.refl o.1) (h _)
theorem ge_int {i : Int} : GE W E (tC (.int i)) (mC (.int i)) := ge_c fun _ => .int i
theorem ge_str {x : Str} : GE W E (tC (.str x)) (mC (.str x)) := ge_c fun _ => .str x
theorem ge_bl {x : Bool} : GE W E (tC (.bl x)) (mC (.bl x)) := ge_c fun _ => .bl x
theorem ge_non : GE W E (tC .non) (mC .non) := ge_c fun _ => .non
def R2M (W : Wd K) (r : R2) (f : D → D → Option D) : Prop := ∀ Y H x y d e z (Q : VK), Ok W Y H → Dm W Y H x d → Dm W Y H y e → f d e = some z → RetP W Y H Q z → r x y H Q
def R1M (W : Wd K) (r : V → Hp → VK → Prop) (f : D → Option D) : Prop := ∀ Y H x d z (Q : VK), Ok W Y H → Dm W Y H x d → f d = some z → RetP W Y H Q z → r x H Q
def RCM (W : Wd K) (r : List V → Hp → VK → Prop) (f : List D → Option D) : Prop := ∀ Y H vs ds z (Q : VK), Ok W Y H → Dms W Y H vs ds → f ds = some z → RetP W Y H Q z → r vs H Q
def RCN (W : Wd K) (r : List V → Hp → VK → Prop) (f : List D → Option (List D)) : Prop := ∀ Y H vs ds z (Q : VK), Ok W Y H → Dms W Y H vs ds → f ds = some z → RetPn W Y H Q z → r vs H Q
def R2N (W : Wd K) (r : R2) (f : D → D → Option (List D)) : Prop := ∀ Y H x y d e z (Q : VK), Ok W Y H → Dm W Y H x d → Dm W Y H y e → f d e = some z → RetPn W Y H Q z → r x y H Q
theorem R2M.of {r : R2} {f : D → D → Option D} (h : ∀ d e z, f d e = some z → R2D K r d e z ∧ z.fix = true ∧ z.pl = true) : R2M W r f := fun Y H x y d e z Q o hx hy hz q => by
  obtain ⟨h1, h2, h3⟩ := h d e z hz
  exact h1 x y H Q hx.un hy.un fun v H' e' hv => q v H' (.of o.1 e') (Dn.see (o.ext (.of o.1 e')) z v h2 h3 hv)
theorem R1M.of {r : V → Hp → VK → Prop} {f : D → Option D} (h : ∀ d z, f d = some z → R1D K r d z ∧ z.fix = true ∧ z.pl = true) : R1M W r f := fun Y H x d z Q o hx hz q => by
  obtain ⟨h1, h2, h3⟩ := h d z hz
  exact h1 x H Q hx.un fun v H' e' hv => q v H' (.of o.1 e') (Dn.see (o.ext (.of o.1 e')) z v h2 h3 hv)
theorem RCM.of {r : List V → Hp → VK → Prop} {f : List D → Option D} (h : ∀ ds z, f ds = some z → RCD K r ds z ∧ z.fix = true ∧ z.pl = true) : RCM W r f := fun Y H vs ds z Q o hx hz q => by
  obtain ⟨h1, h2, h3⟩ := h ds z hz
  exact h1 vs H Q hx.un fun v H' e' hv => q v H' (.of o.1 e') (Dn.see (o.ext (.of o.1 e')) z v h2 h3 hv)
theorem ge_op {r : R2} {f : D → D → Option D} (ha : GE W E ta a) (hb : GE W E tb b) (hr : R2M W r f) : GE W E (tOp r ta tb) (mOp f a b) := fun Y σ H ρ Q o e w =>
  ha.seq o e w (fun _ _ h => h) fun d x H1 e1 o1 r1 hx w1 => hb.seq o1 r1 w1 (fun _ _ h => h.up e1) fun d2 y H2 e2 o2 r2 hy w2 => by
    obtain ⟨z, hz, q⟩ := M.wp_ofO w2
    exact hr Y H2 x y d d2 z Q o2 (hx.up o1 e2) hy hz (q.up (e1.trans e2))
theorem gn_op {r : R2} {f : D → D → Option (List D)} (ha : GE W E ta a) (hb : GE W E tb b) (hr : R2N W r f) : GN W E (tOp r ta tb) (fun ρ => (a ρ).bind fun x => (b ρ).bind fun y => M.ofO (f x y)) := fun Y σ H ρ Q o e w =>
  ha.seq o e w (fun _ _ h => h) fun d x H1 e1 o1 r1 hx w1 => hb.seq o1 r1 w1 (fun _ _ h => h.up e1) fun d2 y H2 e2 o2 r2 hy w2 => by
    obtain ⟨z, hz, q⟩ := M.wp_ofO w2
    exact hr Y H2 x y d d2 z Q o2 (hx.up o1 e2) hy hz fun p xs H3 e3 hp h3 hd => q p xs H3 ((e1.trans e2).trans e3) ((e1.trans e2).free o.1 hp) h3 hd
theorem ge_un {r : V → Hp → VK → Prop} {f : D → Option D} (ha : GE W E ta a) (hr : R1M W r f) : GE W E (tUn r ta) (mUn f a) := fun Y σ H ρ Q o e w =>
  ha.seq o e w (fun _ _ h => h) fun d x H1 e1 o1 r1 hx w1 => by
    obtain ⟨z, hz, q⟩ := M.wp_ofO w1
    exact hr Y H1 x d z Q o1 hx hz (q.up e1)
theorem ga_nil : GA W E tNil mNil := fun Y σ H ρ Q o e w => w [] H (.refl o.1) .nil
theorem ga_cons (ha : GE W E ta a) (hr : GA W E tl ma) : GA W E (tCons ta tl) (mCons a ma) := fun Y σ H ρ Q o e w =>
  ha.seq o e w (fun _ _ h => h) fun d x H1 e1 o1 r1 hx w1 => hr.seq o1 r1 w1 (fun _ _ h => h.up e1) fun ds xs H2 e2 o2 r2 hxs w2 => w2 _ H2 (e1.trans e2) (.cons (hx.up o1 e2) hxs)
theorem ge_cb {r : List V → Hp → VK → Prop} {f : List D → Option D} (ha : GA W E tl ma) (hr : RCM W r f) : GE W E (tCB r tl) (mCB f ma) := fun Y σ H ρ Q o e w =>
  ha.seq o e w (fun _ _ h => h) fun ds xs H1 e1 o1 r1 hx w1 => by
    obtain ⟨z, hz, q⟩ := M.wp_ofO w1
    exact hr Y H1 xs ds z Q o1 hx hz (q.up e1)
theorem gn_cb {r : List V → Hp → VK → Prop} {f : List D → Option (List D)} (ha : GA W E tl ma) (hr : RCN W r f) : GN W E (tCB r tl) (mCBn f ma) := fun Y σ H ρ Q o e w =>
  ha.seq o e w (fun _ _ h => h) fun ds xs H1 e1 o1 r1 hx w1 => by
    obtain ⟨z, hz, q⟩ := M.wp_ofO w1
    exact hr Y H1 xs ds z Q o1 hx hz fun p xs H3 e3 hp h3 hd => q p xs H3 (e1.trans e3) (e1.free o.1 hp) h3 hd
theorem GN.ge {mn : Env → M (List D)} (h : GN W E te mn) : GE W E te (mNew mn) := fun Y σ H ρ Q o e w =>
  h Y σ H ρ Q o e (M.wp_mono (fun ds hd p xs H' e' hp hx hds => hd (.ref p) H' e' (.lst (mask_at hx (o.fresh hp) fun _ _ _ z => nomatch z) (hds.less also_r))) (fun _ _ h => h) _ ((M.wp_bind _).mp w))
theorem ge_tup (ha : GA W E tl ma) : GE W E (tTupP tl) (mTup ma) := fun Y σ H ρ Q o e w =>
  ha.seq o e w (fun _ _ h => h) fun ds xs H1 e1 o1 r1 hx w1 => by
    split at w1
    · rename_i hl
      refine ⟨by rw [hx.length, sizeLine_eq]; omega, fun p ob hp ho => w1 _ _ (e1.trans (.of o1.1 (Same.new hp))) (.ptup ⟨ob, ho, mask_at upd_same (o1.fresh hp) fun _ _ _ z => nomatch z⟩ (hx.up o1 (.of o1.1 (Same.new hp))))⟩
    · exact w1.elim
theorem gn_lst (ha : GA W E tl ma) : GN W E (tLst tl) (mLst ma) := fun Y σ H ρ Q o e w =>
  ha.seq o e w (fun _ _ h => h) fun ds xs H1 e1 o1 r1 hx w1 => by
    split at w1
    · exact ⟨by rw [hx.length, sizeLine_eq]; omega, fun p hp => w1 p xs _ (e1.trans (.of o1.1 (Same.new hp))) (e1.free o.1 hp) upd_same (hx.fresh o1 hp)⟩
    · exact w1.elim
theorem asB_wp {d : D} {R : Bool → Prop} {Er} (h : (asB d).wp R Er) : ∃ k, d = .bl k ∧ R k := by
  cases d <;> first | exact h.elim | exact ⟨_, rfl, h⟩
theorem gt_of (ha : GE W E ta a) : GT W E (tTest ta) (cOf a) := fun Y σ H ρ Q o e w =>
  ha.seq o e w (fun _ _ h => h) fun d x H1 e1 o1 r1 hx w1 => by
    obtain ⟨k, rfl, hk⟩ := asB_wp w1
    cases hx
    exact ⟨k, rfl, hk H1 e1⟩
theorem gt_ofB (ha : GE W E ta a) : GT W E (tB ta) (cOf a) := fun Y σ H ρ Q o e w =>
  ha.seq o e w (fun _ _ h => h) fun d x H1 e1 o1 r1 hx w1 => by
    obtain ⟨k, rfl, hk⟩ := asB_wp w1
    cases hx
    exact ⟨k, rfl, hk H1 e1⟩
theorem gt_and (h1 : GT W E tt p) (h2 : GT W E uu q) : GT W E (tAnd tt uu) (cAnd p q) := fun Y σ H ρ Q o e w =>
  h1.seq o e w (fun _ _ h => h) fun k H1 e1 o1 r1 w1 => by
    cases k with
    | true => exact (if_pos rfl).mpr (h2 Y σ H1 ρ Q o1 r1 (wp_up w1 e1 fun b hb H2 e2 => hb H2 (e1.trans e2)))
    | false => exact (if_neg Bool.false_ne_true).mpr (w1 H1 e1)
theorem gt_or (h1 : GT W E tt p) (h2 : GT W E uu q) : GT W E (tOr tt uu) (cOr p q) := fun Y σ H ρ Q o e w =>
  h1.seq o e w (fun _ _ h => h) fun k H1 e1 o1 r1 w1 => by
    cases k with
    | true => exact (if_pos rfl).mpr (w1 H1 e1)
    | false => exact (if_neg Bool.false_ne_true).mpr (h2 Y σ H1 ρ Q o1 r1 (wp_up w1 e1 fun b hb H2 e2 => hb H2 (e1.trans e2)))
theorem gt_not (h1 : GT W E tt p) : GT W E (tNot tt) (cNot p) := fun Y σ H ρ Q o e w =>
  h1.seq o e w (fun _ _ h => h) fun k H1 e1 o1 r1 w1 => w1 H1 e1
theorem gt_yes : GT W E tYes cYes := fun Y σ H ρ Q o e w => w H (.refl o.1)
theorem ge_and (ha : GE W E ta a) (hb : GE W E tb b) : GE W E (tAndV ta tb) (mAnd a b) := fun Y σ H ρ Q o e w =>
  ha.seq o e w (fun _ _ h => h) fun d x H1 e1 o1 r1 hx w1 => by
    obtain ⟨k, rfl, hk⟩ := asB_wp ((M.wp_bind _).mp w1)
    cases hx
    refine ⟨k, rfl, ?_⟩
    cases k with
    | true => exact (if_pos rfl).mpr (hb Y σ H1 ρ Q o1 r1 (wp_up hk e1 fun d hd => hd.up e1))
    | false => exact (if_neg Bool.false_ne_true).mpr (hk _ H1 e1 (.bl _))
theorem ge_or (ha : GE W E ta a) (hb : GE W E tb b) : GE W E (tOrV ta tb) (mOr a b) := fun Y σ H ρ Q o e w =>
  ha.seq o e w (fun _ _ h => h) fun d x H1 e1 o1 r1 hx w1 => by
    obtain ⟨k, rfl, hk⟩ := asB_wp ((M.wp_bind _).mp w1)
    cases hx
    refine ⟨k, rfl, ?_⟩
    cases k with
    | true => exact (if_pos rfl).mpr (hk _ H1 e1 (.bl _))
    | false => exact (if_neg Bool.false_ne_true).mpr (hb Y σ H1 ρ Q o1 r1 (wp_up hk e1 fun d hd => hd.up e1))
theorem ge_not (ha : GE W E ta a) : GE W E (tNotV ta) (mNot a) := fun Y σ H ρ Q o e w =>
  ha.seq o e w (fun _ _ h => h) fun d x H1 e1 o1 r1 hx w1 => by
    obtain ⟨k, rfl, hk⟩ := asB_wp ((M.wp_bind _).mp w1)
    cases hx
    exact ⟨k, rfl, hk _ H1 e1 (.bl _)⟩
theorem ge_if (hc : GT W E tt p) (ha : GE W E ta a) (hb : GE W E tb b) : GE W E (tIf tt ta tb) (mIf p a b) := fun Y σ H ρ Q o e w =>
  hc.seq o e w (fun _ _ h => h) fun k H1 e1 o1 r1 w1 => by
    cases k with
    | true => exact (if_pos rfl).mpr (ha Y σ H1 ρ Q o1 r1 (wp_up w1 e1 fun d hd => hd.up e1))
    | false => exact (if_neg Bool.false_ne_true).mpr (hb Y σ H1 ρ Q o1 r1 (wp_up w1 e1 fun d hd => hd.up e1))
theorem ge_chain {r r' : R2} {f g : D → D → Option D} (ha : GE W E ta a) (hb : GE W E tb b) (hr : R2M W r f) (hc : GE W E tc c) (hr' : R2M W r' g) : GE W E (tChain r r' ta tb tc) (mChain f g a b c) := fun Y σ H ρ Q o e w =>
  ha.seq o e w (fun _ _ h => h) fun d x H1 e1 o1 r1 hx w1 => hb.seq o1 r1 w1 (fun _ _ h => h.up e1) fun d2 y H2 e2 o2 r2 hy w2 => by
    obtain ⟨z, hz, w2'⟩ := M.wp_ofO ((M.wp_bind _).mp w2)
    refine hr Y H2 x y d d2 z _ o2 (hx.up o1 e2) hy hz fun v H3 e3 hv => ?_
    obtain ⟨k, rfl, hk⟩ := asB_wp ((M.wp_bind _).mp w2')
    cases hv
    refine ⟨k, rfl, ?_⟩
    have e13 := (e1.trans e2).trans e3
    cases k with
    | true =>
      exact (if_pos rfl).mpr (hc.seq (o2.ext e3) (r2.up o2 e3) hk (fun _ _ h => h.up e13) fun d3 u H4 e4 o4 r4 hu w4 => by
        obtain ⟨z', hz', q⟩ := M.wp_ofO w4
        exact hr' Y H4 y u d2 d3 z' Q o4 ((hy.up o2 e3).up (o2.ext e3) e4) hu hz' (q.up (e13.trans e4)))
    | false => exact (if_neg Bool.false_ne_true).mpr (hk _ H3 e13 (.bl _))
theorem go_none : GO W E tNoPart oNone := fun Y σ H ρ Q o e w => w H (.refl o.1)
theorem go_some (ha : GE W E ta a) : GO W E (tPart ta) (oSome a) := fun Y σ H ρ Q o e w =>
  ha.seq o e w (fun _ _ h => h) fun d x H1 e1 o1 r1 hx w1 => by
    cases d with
    | int i =>
      cases hx
      exact ⟨i, rfl, w1 H1 e1⟩
    | _ => exact w1.elim
def spM (W : Wd K) (F : List D → M D) : Sp := fun vs H Q E => ∃ Y ds, Ok W Y H ∧ Dms W Y H vs ds ∧ (F ds).wp (RetP W Y H Q) (ErrP W E H)
def spC (W : Wd K) (F : List D → M D) : Sp := fun vs H Q _ => ∃ Y ds, Ok W Y H ∧ Dms W Y H vs ds ∧ (F ds).wp (RetP W Y H Q) (fun _ _ => False)
theorem ge_call {F : List D → M D} {E' : XK} (ha : GA W E tl ma) : GE W E (tCall (spC W F) [] E' tl) (mCall (fun ds => (F ds).calm) ma) := fun Y σ H ρ Q o e w =>
  ha.seq o e w (fun _ _ h => h) fun ds xs H1 e1 o1 r1 hx w1 => ⟨Y, ds, o1, by rw [List.append_nil]; exact hx, M.wp_mono (fun d hd => hd.up e1) (fun _ _ h => h) _ (M.wp_calm (E' := fun _ _ => False) _ w1)⟩
theorem ge_calS {F : List D → M D} {X : WX} (hX : ∀ σ, WE X σ = E) (ha : GA W E tl ma) : GE W E (tCallS (spM W F) (WE X) tl) (mCall F ma) := fun Y σ H ρ Q o e w =>
  ha.seq o e w (fun _ _ h => h) fun ds xs H1 e1 o1 r1 hx w1 => ⟨Y, ds, o1, hx, by rw [hX]; exact wp_up w1 e1 fun d hd => hd.up e1⟩
end
end Mi

namespace Mi
open PySem L2 Cc
abbrev Pat := D → Env → Option Env
def pName (i : Nat) : Pat := fun d ρ => some (ρ.set i (.dat d))
def pGo : List Pat → List D → Env → Option Env
  | [], [], ρ => some ρ
  | p :: ps, d :: ds, ρ => match p d ρ with
    | some ρ' => pGo ps ds ρ'
    | none => none
  | _, _, _ => none
def pTup (ps : List Pat) : Pat := fun d ρ => match d with
  | .tup ds => pGo ps ds ρ
  | .ptup ds => pGo ps ds ρ
  | _ => none
def pLst (ps : List Pat) : Pat := fun d ρ => match d with
  | .lst ds => pGo ps ds ρ
  | _ => none
inductive SetR (K : Fg) (Hm : Hp) (is : List Nat) : L2.St → Env → L2.St → Env → Prop where
  | refl {σ : L2.St} {ρ : Env} : SetR K Hm is σ ρ σ ρ
  | set {σ σ1 : L2.St} {ρ ρ1 : Env} {i : Nat} {v : V} {d : D} : SetR K Hm is σ ρ σ1 ρ1 → i ∈ is → Dn K Hm v d → SetR K Hm is σ ρ (σ1.set i (some v)) (ρ1.set i (.dat d))
section
variable {K : Fg} {W : Wd K} {Hm : Hp} {is js : List Nat}
theorem SetR.trans {σ σ1 σ2 : L2.St} {ρ ρ1 ρ2 : Env} (a : SetR K Hm is σ ρ σ1 ρ1) (b : SetR K Hm is σ1 ρ1 σ2 ρ2) : SetR K Hm is σ ρ σ2 ρ2 := by
  induction b with
  | refl => exact a
  | set _ hi hd ih => exact .set (ih a) hi hd
theorem SetR.more {σ σ1 : L2.St} {ρ ρ1 : Env} (a : SetR K Hm is σ ρ σ1 ρ1) (h : ∀ i ∈ is, i ∈ js) : SetR K Hm js σ ρ σ1 ρ1 := by
  induction a with
  | refl => exact .refl
  | set _ hi hd ih => exact .set ih (h _ hi) hd
theorem look_set {ρ : Env} {i j : Nat} {s : Sl} : look (ρ.set i s) j = if i = j ∧ j < ρ.length then (match s with | .dat d => some d | _ => none) else look ρ j := by
  unfold look
  rw [List.getElem?_set]
  by_cases e : i = j
  · subst e
    by_cases h : i < ρ.length
    · simp [h]
      cases s <;> rfl
    · simp [h]
  · simp [e]
theorem EnvR.set {σ : L2.St} {ρ : Env} {i : Nat} {v : V} {d : D} (h : EnvR W Hm σ ρ) (hd : Dn K Hm v d) : EnvR W Hm (σ.set i (some v)) (ρ.set i (.dat d)) := ⟨by simp [h.1], fun j d' l => by
  rw [look_set] at l
  by_cases e : i = j ∧ j < ρ.length
  · rw [if_pos e] at l
    cases l
    obtain ⟨rfl, hj⟩ := e
    exact ⟨v, by simp [h.1, hj], hd⟩
  · rw [if_neg e] at l
    obtain ⟨w, h1, h2⟩ := h.2.1 j d' l
    refine ⟨w, ?_, h2⟩
    rw [List.getElem?_set]
    have hj : j < σ.length := (List.getElem?_eq_some_iff.mp h1).1
    have : ¬ i = j := fun z => e ⟨z, by rw [← h.1]; exact hj⟩
    simp [this, h1], fun j l => by
  rw [List.getElem?_set] at l ⊢
  by_cases e : i = j
  · rw [if_pos e] at l
    split at l <;> cases l
  · rw [if_neg e] at l ⊢
    exact h.2.2.1 j l, fun j kvs l => by
  rw [List.getElem?_set] at l
  by_cases e : i = j
  · rw [if_pos e] at l
    split at l <;> cases l
  · rw [if_neg e] at l
    obtain ⟨p, vs, h1, h2, h3⟩ := h.2.2.2 j kvs l
    exact ⟨p, vs, by rw [List.getElem?_set, if_neg e]; exact h1, h2, h3⟩⟩
theorem EnvR.sets {σ σ' : L2.St} {ρ ρ' : Env} (h : EnvR W Hm σ ρ) (s : SetR K Hm is σ ρ σ' ρ') : EnvR W Hm σ' ρ' := by
  induction s with
  | refl => exact h
  | set _ _ hd ih => exact (ih h).set hd
def GP (K : Fg) (g : TG) (p : Pat) (is : List Nat) : Prop := ∀ (Hm H : Hp) (v : V) (d : D) (σ : L2.St) (ρ ρ' : Env) (Q : L2.St → Hp → Prop), Same Hm H → Dn K Hm v d → p d ρ = some ρ' → (∀ σ', SetR K Hm is σ ρ σ' ρ' → Q σ' H) → g v σ H Q
def GPs (K : Fg) (g : TGs) (ps : List Pat) (is : List Nat) : Prop := ∀ (Hm H : Hp) (vs : List V) (ds : List D) (σ : L2.St) (ρ ρ' : Env) (Q : L2.St → Hp → Prop), Same Hm H → Dns K Hm vs ds → pGo ps ds ρ = some ρ' → (∀ σ', SetR K Hm is σ ρ σ' ρ' → Q σ' H) → g vs σ H Q
theorem gp_name {i : Nat} : GP K (gName i) (pName i) [i] := fun Hm H v d σ ρ ρ' Q e hd h q => by
  cases h
  exact q _ (.set .refl (by simp) hd)
theorem gps_nil : GPs K gNil [] [] := fun Hm H vs ds σ ρ ρ' Q e hd h q => by
  cases hd with
  | nil => cases h; exact ⟨rfl, q _ .refl⟩
  | cons _ _ => cases h
theorem gps_cons {g : TG} {gs : TGs} {p : Pat} {ps : List Pat} (h1 : GP K g p is) (h2 : GPs K gs ps js) : GPs K (gCons g gs) (p :: ps) (is ++ js) := fun Hm H vs ds σ ρ ρ' Q e hd h q => by
  cases hd with
  | nil => cases h
  | @cons v vs d ds hv hvs =>
    unfold pGo at h
    cases hp : p d ρ with
    | none => rw [hp] at h; cases h
    | some ρ1 =>
      rw [hp] at h
      refine ⟨v, vs, rfl, h1 Hm H v d σ ρ ρ1 _ e hv hp fun σ1 s1 => h2 Hm H vs ds σ1 ρ1 ρ' Q e hvs h fun σ2 s2 => q σ2 ((s1.more fun i hi => List.mem_append_left _ hi).trans (s2.more fun i hi => List.mem_append_right _ hi))⟩
theorem pGo_len {ps : List Pat} : ∀ {ds : List D} {ρ ρ' : Env}, pGo ps ds ρ = some ρ' → ds.length = ps.length := by
  induction ps with
  | nil => intro ds ρ ρ' h; cases ds with
    | nil => rfl
    | cons _ _ => cases h
  | cons p ps ih => intro ds ρ ρ' h; cases ds with
    | nil => cases h
    | cons d ds =>
      unfold pGo at h
      cases hp : p d ρ with
      | none => rw [hp] at h; cases h
      | some ρ1 => rw [hp] at h; simp [ih h]
theorem gp_tup {n : Nat} {gs : TGs} {ps : List Pat} (h : GPs K gs ps is) (hn : ps.length = n := by rfl) : GP K (gTup K n gs) (pTup ps) is := fun Hm H v d σ ρ ρ' Q e hd hp q => by
  cases hd with
  | @tup a xs ds hs ha => exact ⟨a, xs, rfl, same_t e hs, by rw [ha.length, pGo_len hp, hn], h Hm H xs ds σ ρ ρ' Q e ha hp q⟩
  | @ptup a xs ds hs ha => exact ⟨a, xs, rfl, same_t e hs.sq, by rw [ha.length, pGo_len hp, hn], h Hm H xs ds σ ρ ρ' Q e ha hp q⟩
  | _ => cases hp
def St (Z : Addr → Bool) (H H' : Hp) : Prop := ∀ b o, H b = some o → Z b = false → H' b = some o
theorem St.trans {Z : Addr → Bool} {H H1 H2 : Hp} (a : St Z H H1) (b : St Z H1 H2) : St Z H H2 := fun c o h z => b c o (a c o h z) z
theorem St.of {Z : Addr → Bool} {H H1 : Hp} (a : Same H H1) : St Z H H1 := fun c o h _ => a c o h
theorem St.ext {Z : Addr → Bool} {H H1 : Hp} (a : Ext W H H1) (h : ∀ a, W.X a = true → Z a = true) : St Z H H1 := fun c o e z => a.1 c o e (by
  cases x : W.X c with
  | false => rfl
  | true => rw [h c x] at z; cases z)
theorem mask_st {Y : Addr → Bool} {H H' : Hp} (e : St Y H H') : Same (mask W Y H) (mask W Y H') := fun a o q => by
  have hy : Y a = false := by
    cases z : Y a with
    | false => rfl
    | true => unfold mask at q; rw [if_pos z] at q; cases q
  have q1 := mask_le a o q
  refine mask_at (e a o q1 hy) hy fun C dx fs eo => ?_
  subst eo
  unfold mask at q
  rw [if_neg (by rw [hy]; exact Bool.false_ne_true), q1] at q
  by_cases c : W.ct (fs.map (·.1)) = some C
  · exact c
  · simp only [if_neg c] at q; cases q
theorem mask_go {Y Y' : Addr → Bool} {H H' : Hp} (e : St Y H H') (h : ∀ a, Y' a = true → Y a = true ∨ H a = none) : Same (mask W Y H) (mask W Y' H') := fun a o q => by
  have hy : Y a = false := by
    cases z : Y a with
    | false => rfl
    | true => unfold mask at q; rw [if_pos z] at q; cases q
  have q1 := mask_le a o q
  have hy' : Y' a = false := by
    cases z : Y' a with
    | false => rfl
    | true =>
      rcases h a z with h | h
      · rw [hy] at h; cases h
      · rw [q1] at h; cases h
  refine mask_at (e a o q1 hy) hy' fun C dx fs eo => ?_
  subst eo
  unfold mask at q
  rw [if_neg (by rw [hy]; exact Bool.false_ne_true), q1] at q
  by_cases c : W.ct (fs.map (·.1)) = some C
  · exact c
  · simp only [if_neg c] at q; cases q
def RetIt (W : Wd K) (Y : Addr → Bool) (H : Hp) (R : It → Hp → Prop) : List D → Prop := fun ds => ∀ (J : It) (G : Hp → Prop) (Yw : Nat → Hp → V → Hp → Prop) (H2 : Hp), Ext W H H2 → Walk J ds.length G Yw → (∀ H', St Y H2 H' → G H') →
  (∀ i Ha x Hb Y', i < ds.length → St Y H2 Ha → Ok W Y' Ha → (∀ a, Y' a = true → Y a = true ∨ H2 a = none) → Yw i Ha x Hb → Same Ha Hb ∧ ∃ d, ds[i]? = some d ∧ Dm W Y' Hb x d) → R J H2
def GI (W : Wd K) (E : XK) (wi : TI) (mi : Env → M (List D)) : Prop := ∀ Y σ H ρ R, Ok W Y H → EnvR W (mask W Y H) σ ρ → (mi ρ).wp (RetIt W Y H R) (ErrP W E H) → wi σ H R
def wipeE (ρ : Env) : List Nat → Env
  | [] => ρ
  | v :: vs => (wipeE ρ vs).set v .no
def lcGo (p : Pat) (c : Env → M Bool) (e : Env → M D) (ρ : Env) : List D → M (List D)
  | [] => .ret []
  | d :: ds => match p d ρ with
    | none => .bad
    | some ρ1 => (c ρ1).bind fun k => if k then (e ρ1).bind fun x => (lcGo p c e ρ ds).bind fun xs => .ret (x :: xs) else lcGo p c e ρ ds
def mLc (mi : Env → M (List D)) (p : Pat) (c : Env → M Bool) (e : Env → M D) (vs : List Nat) : Env → M (List D) := fun ρ => (mi ρ).bind fun ds => if ds.length ≤ 100000 then lcGo p c e (wipeE ρ vs) ds else .bad
end
section
variable {K : Fg} {W : Wd K} {E : XK}
theorem wipe_set {i : Nat} {x : Option V} : ∀ {vs : List Nat} {σ : L2.St}, i ∈ vs → wipe (σ.set i x) vs = wipe σ vs
  | [], _, h => by cases h
  | j :: vs, σ, h => by
    unfold wipe
    by_cases e : i ∈ vs
    · rw [wipe_set e]
    · have ij : i = j := by
        rcases List.mem_cons.mp h with h | h
        · exact h
        · exact absurd h e
      subst ij
      have key : ∀ (vs : List Nat) (σ : L2.St), i ∉ vs → wipe (σ.set i x) vs = (wipe σ vs).set i x := by
        intro vs
        induction vs with
        | nil => intro σ _; rfl
        | cons k vs ih =>
          intro σ hk
          have hk' : ¬ i = k ∧ i ∉ vs := by simpa using hk
          unfold wipe
          rw [ih σ hk'.2, List.set_comm _ _ hk'.1]
      rw [key vs σ e, List.set_set]
theorem wipe_setR {Hm : Hp} {is vs : List Nat} {σ σ' : L2.St} {ρ ρ' : Env} (s : SetR K Hm is σ ρ σ' ρ') (h : ∀ i ∈ is, i ∈ vs) : wipe σ' vs = wipe σ vs := by
  induction s with
  | refl => rfl
  | set _ hi _ ih => rw [wipe_set (h _ hi), ih]
theorem wipe_sub {vs : List Nat} {σ : L2.St} : ∀ {ws : List Nat}, (∀ i ∈ ws, i ∈ vs) → wipe (wipe σ ws) vs = wipe σ vs
  | [], _ => rfl
  | i :: ws, h => by
    show wipe ((wipe σ ws).set i none) vs = _
    rw [wipe_set (h i (by simp)), wipe_sub fun j hj => h j (List.mem_cons_of_mem _ hj)]
theorem wipe_wipe (σ : L2.St) (vs : List Nat) : wipe (wipe σ vs) vs = wipe σ vs := wipe_sub fun _ h => h
theorem EnvR.no {Hm : Hp} {σ : L2.St} {ρ : Env} (h : EnvR W Hm σ ρ) (i : Nat) (x : Option V) : EnvR W Hm (σ.set i x) (ρ.set i .no) := ⟨by simp [h.1], fun j d l => by
  rw [look_set] at l
  by_cases e : i = j ∧ j < ρ.length
  · rw [if_pos e] at l; cases l
  · rw [if_neg e] at l
    obtain ⟨w, h1, h2⟩ := h.2.1 j d l
    refine ⟨w, ?_, h2⟩
    have hj : j < σ.length := (List.getElem?_eq_some_iff.mp h1).1
    have : ¬ i = j := fun z => e ⟨z, by rw [← h.1]; exact hj⟩
    simp [List.getElem?_set, this, h1], fun j l => by
  rw [List.getElem?_set] at l ⊢
  by_cases e : i = j
  · rw [if_pos e] at l
    split at l <;> cases l
  · rw [if_neg e] at l ⊢
    exact h.2.2.1 j l, fun j kvs l => by
  rw [List.getElem?_set] at l
  by_cases e : i = j
  · rw [if_pos e] at l
    split at l <;> cases l
  · rw [if_neg e] at l
    obtain ⟨p, vs, h1, h2, h3⟩ := h.2.2.2 j kvs l
    exact ⟨p, vs, by rw [List.getElem?_set, if_neg e]; exact h1, h2, h3⟩⟩
theorem env_wipe {Hm : Hp} {σ : L2.St} {ρ : Env} (h : EnvR W Hm σ ρ) : ∀ vs : List Nat, EnvR W Hm (wipe σ vs) (wipeE ρ vs)
  | [] => h
  | i :: vs => (env_wipe h vs).no i none
theorem Ok.also {Y : Addr → Bool} {H : Hp} {p : Addr} {xs : List V} (o : Ok W Y H) (hp : H p = none) : Ok W (also Y p) (upd H p (.lst xs)) := ⟨W.up o.1 (Same.new hp), fun a h => also_r a (o.2.1 a h), fun a h => by
  by_cases ea : a = p
  · subst ea; exact ⟨_, upd_same, rfl⟩
  · have : Y a = true := by simpa [Mi.also, ea] using h
    obtain ⟨u, hu, iu⟩ := o.2.2 a this
    exact ⟨u, by rw [upd_ne ea]; exact hu, iu⟩⟩
theorem GI.seq {α : Type} {wi : TI} {mi : Env → M (List D)} {Y : Addr → Bool} {σ : L2.St} {H : Hp} {ρ : Env} {f : List D → M α} {R : α → Prop} {Er : Str → List D → Prop} {Q : It → Hp → Prop} (h : GI W E wi mi) (o : Ok W Y H) (e : EnvR W (mask W Y H) σ ρ) (w : ((mi ρ).bind f).wp R Er) (hE : ∀ c p, Er c p → ErrP W E H c p)
    (k : ∀ ds, (f ds).wp R Er → RetIt W Y H Q ds) : wi σ H Q :=
  h Y σ H ρ Q o e (M.wp_mono (fun ds hd => k ds hd) hE _ ((M.wp_bind _).mp w))
theorem gn_lc {wi : TI} {g : TG} {tt : TT} {te : TE} {vs is : List Nat} {mi : Env → M (List D)} {p : Pat} {c : Env → M Bool} {e : Env → M D} (hi : GI W E wi mi) (hp : GP K g p is) (hc : GT W E tt c) (he : GE W E te e) (hv : ∀ i ∈ is, i ∈ vs := by decide) : GN W E (tLc wi g tt te vs) (mLc mi p c e vs) := fun Y σ H ρ Q o r w =>
  hi.seq o r w (fun _ _ h => h) fun ds w1 J G Yw H2 e2 wk hG hY Dl hD => by
    split at w1
    case isFalse => exact w1.elim
    rename_i hz
    have o2 := o.ext e2
    have eD : Same H2 (upd H2 Dl (.lst [])) := Same.new hD
    have frD := W.new o2.1 hD
    have YD : Y Dl = false := o2.fresh hD
    have rr : EnvR W (mask W (also Y Dl) (upd H2 Dl (.lst []))) (wipe σ vs) (wipeE ρ vs) := env_wipe ((r.up o e2).same (mask_new o2 hD)) vs
    refine lc_it wk (fun i H' => Ext W H2 H' ∧ Ok W (also Y Dl) H' ∧ EnvR W (mask W (also Y Dl) H') (wipe σ vs) (wipeE ρ vs) ∧ ∃ acc ds', H' Dl = some (.lst acc) ∧ ds'.length ≤ i ∧ Dms W (also Y Dl) H' acc ds' ∧ (lcGo p c e (wipeE ρ vs) (ds.drop i)).wp (fun es => RetPn W Y H Q (ds' ++ es)) (ErrP W E H))
      ⟨.of o2.1 eD, o2.also hD, rr, [], [], upd_same, Nat.le_refl _, .nil, by simpa using w1⟩ (fun i H' _ q => hG H' (.ext q.1 o2.2.1)) (fun i x Ha Hb hlt q y => ?_) (fun H' q => ?_)
    · obtain ⟨q1, q2, q3, acc, ds', q4, q5, q6, q7⟩ := q
      obtain ⟨eb, d, hd, hx⟩ := hY i Ha x Hb (also Y Dl) hlt (.ext q1 o2.2.1) q2 (fun a h => by
        by_cases ea : a = Dl
        · subst ea; exact .inr hD
        · exact .inl (by simpa [Mi.also, ea] using h)) y
      have eb' : Ext W Ha Hb := .of q2.1 eb
      have ob := q2.ext eb'
      have e2b := q1.trans eb'
      have rb := q3.up q2 eb'
      have hdr : ds.drop i = d :: ds.drop (i + 1) := by
        obtain ⟨hl, hg⟩ := List.getElem?_eq_some_iff.mp hd
        rw [List.drop_eq_getElem_cons hl, hg]
      rw [hdr] at q7
      unfold lcGo at q7
      cases hpd : p d (wipeE ρ vs) with
      | none => rw [hpd] at q7; exact q7.elim
      | some ρ1 =>
        rw [hpd] at q7
        refine hp _ Hb x d (wipe σ vs) (wipeE ρ vs) ρ1 _ (mask_le (W := W) (Y := also Y Dl) (H := Hb)) hx hpd fun σ1 s1 => ⟨wipe_setR s1 hv |>.trans (wipe_wipe σ vs), ?_⟩
        have r1 := rb.sets s1
        have eHb := e2.trans e2b
        refine hc.seq (Er := ErrP W E H) ob r1 q7 (fun _ _ h => h.up eHb) fun k H3 e3 o3 r3 w3 => ?_
        have YDl : W.X Dl = false := o2.x YD
        have l3 : H3 Dl = some (.lst acc) := e3.1 _ _ (eb _ _ q4) YDl
        cases k with
        | false =>
          refine (if_neg Bool.false_ne_true).mpr ⟨e2b.trans e3, o3, rb.up ob e3, acc, ds', l3, by omega, (q6.up q2 eb').up ob e3, ?_⟩
          simpa using w3
        | true =>
          refine (if_pos rfl).mpr (he.seq (Er := ErrP W E H) o3 r3 (by simpa using w3) (fun _ _ h => h.up (eHb.trans e3)) fun dv y' H4 e4 o4 r4 hy w4 => ?_)
          have l4 : H4 Dl = some (.lst acc) := e4.1 _ _ l3 YDl
          have hds := ((q6.up q2 eb').up ob e3).up o3 e4
          have lacc := q6.length
          refine ⟨acc, l4, by rw [sizeLine_eq]; omega, ?_⟩
          have mo : mask W (also Y Dl) (upd H4 Dl (.lst (acc ++ [y']))) = mask W (also Y Dl) H4 := mask_off (by simp [Mi.also])
          have I4 : W.I (upd H4 Dl (.lst (acc ++ [y']))) := W.off o4.1 frD l4 rfl
          have e24 := (e2b.trans e3).trans e4
          refine ⟨⟨fun b u hb hx => ?_, I4⟩, ⟨I4, o4.2.1, fun a ha => ?_⟩, by rw [mo]; exact (rb.up ob e3).up o3 e4, acc ++ [y'], ds' ++ [dv], upd_same, by simp; omega, by unfold Dms; rw [mo]; exact hds.app (.cons hy .nil), ?_⟩
          · rw [upd_ne (ne_of_none hb hD)]; exact e24.1 b u hb hx
          · by_cases ea : a = Dl
            · subst ea; exact ⟨_, upd_same, rfl⟩
            · rw [upd_ne ea]; exact o4.2.2 a ha
          · exact M.wp_mono (fun es h => by simpa using h) (fun _ _ h => h) _ ((M.wp_bind _).mp w4)
    · obtain ⟨q1, q2, q3, acc, ds', q4, q5, q6, q7⟩ := q
      rw [List.drop_length] at q7
      have q7' : RetPn W Y H Q (ds' ++ []) := q7
      rw [List.append_nil] at q7'
      exact q7' Dl acc H' (e2.trans q1) (e2.free o.1 hD) q4 q6
end
end Mi

namespace Mi
open PySem L2 Cc
inductive Fl where
  | nx (ρ : Env) | bk (ρ : Env) | ct (ρ : Env) | rt (d : D)
  /-- hands back d; the instance at slot 0 holds es then -/
  | rs (d : D) (k : Nat) (ns : List Str) (es : List D)
def Fl.next (f : Fl) (k : Env → M Fl) : M Fl := match f with
  | .nx ρ => k ρ
  | f => .ret f
def Fl.turn (f : Fl) (k : Env → M Fl) : M Fl := match f with
  | .nx ρ => k ρ
  | .ct ρ => k ρ
  | .bk ρ => .ret (.nx ρ)
  | .rt d => .ret (.rt d)
  | .rs d k ns es => .ret (.rs d k ns es)
def vB (ρ : Env) : Env := ρ.map fun s => match s with
  | .own ds => .dat (.lst ds)
  | .dk kvs => .dkR kvs
  | .dn w ks ds => .dat (.dct w ks ds)
  | .slf _ C (n :: ns) ds => .dat (.ob C (n :: ns) ds)
  | .slf _ _ [] _ => .no
  | s => s
structure Bases where
  l : List (Hp × (Addr → Bool))
  s : Option Addr := none
def YL (Y : Addr → Bool) (L : List (Nat × Addr)) : Addr → Bool := fun a => Y a || L.any fun p => p.2 == a
structure QT where
  es : Array DictEntry
  ep : Nat
  xs : List Ent
  vs : List V
def DnQ (K : Fg) (Hm : Hp) (w : World) (ks : List NestedKey) (ds : List D) (q : QT) : Prop := DnE Hm w q.es q.xs q.vs ∧ ks = q.xs.map (·.1) ∧ Dns K Hm q.vs ds
theorem DnQ.up {K : Fg} {Hm Hm' : Hp} {w : World} {ks : List NestedKey} {ds : List D} {q : QT} (h : DnQ K Hm w ks ds q) (e : Same Hm Hm') : DnQ K Hm' w ks ds q := ⟨h.1.ext fun b ys ⟨o, po, q⟩ => ⟨o, po, e _ _ q⟩, h.2.1, h.2.2.up e⟩
theorem DnQ.upE {K : Fg} {W : Wd K} {Y : Addr → Bool} {H H' : Hp} {w : World} {ks : List NestedKey} {ds : List D} {q : QT} (h : DnQ K (mask W Y H) w ks ds q) (o : Ok W Y H) (e : Ext W H H') : DnQ K (mask W Y H') w ks ds q := DnQ.up h (mask_ext o e)
theorem DnQ.less {K : Fg} {W : Wd K} {Y Y' : Addr → Bool} {H : Hp} {w : World} {ks : List NestedKey} {ds : List D} {q : QT} (h : DnQ K (mask W Y H) w ks ds q) (k : ∀ a, Y' a = true → Y a = true) : DnQ K (mask W Y' H) w ks ds q := DnQ.up h (mask_anti k)
theorem DnQ.dct {K : Fg} {Hm : Hp} {w : World} {ks : List NestedKey} {ds : List D} {q : QT} {a : Addr} (h : DnQ K Hm w ks ds q) (e : Hm a = some (DnO a q.es q.ep)) : Dn K Hm (.ref a) (.dct w ks ds) := .dct e h.1 h.2.1 h.2.2
section
variable {K : Fg} {W : Wd K} {E : XK}
def SlR (W : Wd K) (Y : Addr → Bool) (H : Hp) (L : List (Nat × Addr)) (S : Option Addr) (σ : L2.St) (i : Nat) : Sl → Prop
  | .no => True
  | .dat d => ∃ v, σ[i]? = some (some v) ∧ Dm W Y H v d
  | .own ds => ∃ l xs, σ[i]? = some (some (.ref l)) ∧ (i, l) ∈ L ∧ H l = some (.lst xs) ∧ Dms W Y H xs ds
  | .dk kvs => ∃ l vs, σ[i]? = some (some (.ref l)) ∧ (i, l) ∈ L ∧ H l = some (.dK ((kvs.map (·.1)).zip vs)) ∧ Dms W Y H vs (kvs.map (·.2))
  | .dkR _ => False
  | .dn w ks ds => ∃ l q, σ[i]? = some (some (.ref l)) ∧ (i, l) ∈ L ∧ H l = some (DnO l q.es q.ep) ∧ DnQ K (mask W Y H) w ks ds q
  | .slf k C ns ds => ∃ x dx fs, σ[i]? = some (some (.ref x)) ∧ (∀ y, S = some y → i = 0 → x = y) ∧ (i, x) ∈ L ∧ H x = some (.ins C dx fs) ∧ fs.map (·.1) = ns ∧ (C = W.cls k ∧ (ns ≠ [] → W.ct ns = some C)) ∧ Dms W Y H (fs.map (·.2)) ds
  | .row => σ[i]? = some (some (.ref W.r))
structure SR (W : Wd K) (Y : Addr → Bool) (B : Bases) (σ : L2.St) (H : Hp) (ρ : Env) (L : List (Nat × Addr)) : Prop where
  ok : Ok W Y H
  bs : ∀ k ∈ B.l, (∀ a, W.X a = true → k.2 a = true) ∧ St k.2 k.1 H
  len : σ.length = ρ.length
  fre : ∀ p ∈ L, (∀ k ∈ B.l, k.1 p.2 = none ∨ k.2 p.2 = true) ∧ W.Fr p.2 ∧ Y p.2 = false ∧ ∃ o, H p.2 = some o ∧ cellO o = true
  nd : (L.map (·.2)).Nodup
  sl : ∀ i s, ρ[i]? = some s → SlR W (YL Y L) H L B.s σ i s
abbrev SRx (W : Wd K) (Y : Addr → Bool) (B : Bases) (σ : L2.St) (H : Hp) (ρ : Env) : Prop := ∃ L, SR W Y B σ H ρ L
def Bok (W : Wd K) (B : Bases) (H : Hp) : Prop := W.I H ∧ ∀ k ∈ B.l, St k.2 k.1 H
def ErrB (W : Wd K) (E : XK) (B : Bases) : Str → List D → Prop := fun c p => ∀ cls o H', Bok W B H' → IsE W c p cls o H' → E cls o H'
def FlP (W : Wd K) (Y : Addr → Bool) (B : Bases) (Dn : Ends) : Fl → Prop
  | .nx ρ => ∀ σ H, SRx W Y B σ H ρ → Dn.nx σ H
  | .bk ρ => ∀ σ H, SRx W Y B σ H ρ → Dn.bk σ H
  | .ct ρ => ∀ σ H, SRx W Y B σ H ρ → Dn.ct σ H
  | .rt d => ∀ v H, Bok W B H → Dm W Y H v d → Dn.rt v H
  | .rs d k ns es => ∀ v H x dx fs, (∀ y, B.s = some y → x = y) → Bok W B H → H x = some (.ins (W.cls k) dx fs) → fs.map (·.1) = ns → Dms W (also Y x) H (fs.map (·.2)) es → Dm W (also Y x) H v d → Dn.rt v H
def GS (W : Wd K) (E : XK) (ts : TS) (ms : Env → M Fl) : Prop := ∀ Y B σ H ρ Dn, SRx W Y B σ H ρ → (ms ρ).wp (FlP W Y B Dn) (ErrB W E B) → ts Dn σ H
section
variable {Y : Addr → Bool} {B : Bases} {σ : L2.St} {H H' : Hp} {ρ : Env} {L : List (Nat × Addr)}
theorem Dm.same' {K : Fg} {Hm Hm' : Hp} {v : V} {d : D} (h : Dn K Hm v d) (e : Same Hm Hm') : Dn K Hm' v d := h.up e
theorem YL_y {a : Addr} (h : Y a = true) : YL Y L a = true := by simp [YL, h]
theorem YL_l {p : Nat × Addr} (h : p ∈ L) : YL Y L p.2 = true := by
  have : (L.any fun q => q.2 == p.2) = true := List.any_eq_true.mpr ⟨p, h, by simp⟩
  simp [YL, this]
theorem YL_or {a : Addr} (h : YL Y L a = true) : Y a = true ∨ ∃ p ∈ L, p.2 = a := by
  simp only [YL, Bool.or_eq_true, List.any_eq_true, beq_iff_eq] at h
  rcases h with h | ⟨p, h1, h2⟩
  · exact .inl h
  · exact .inr ⟨p, h1, h2⟩
theorem SR.okL (s : SR W Y B σ H ρ L) : Ok W (YL Y L) H := ⟨s.ok.1, fun a h => YL_y (s.ok.2.1 a h), fun a h => by
  rcases YL_or h with h | ⟨p, hp, rfl⟩
  · exact s.ok.2.2 a h
  · obtain ⟨_, _, _, o, hx, ho⟩ := s.fre p hp
    exact ⟨_, hx, ho⟩⟩
theorem SR.bok (s : SR W Y B σ H ρ L) : Bok W B H := ⟨s.ok.1, fun k hk => (s.bs k hk).2⟩
theorem SR.bokE (s : SR W Y B σ H ρ L) (e : Ext W H H') : Bok W B H' := ⟨e.2, fun k hk => (s.bs k hk).2.trans (.ext e (s.bs k hk).1)⟩
theorem SR.lx (s : SR W Y B σ H ρ L) {p : Nat × Addr} (h : p ∈ L) : W.X p.2 = false := s.ok.x (s.fre p h).2.2.1
theorem SR.up (s : SR W Y B σ H ρ L) (e : Ext W H H') : SR W Y B σ H' ρ L where
  ok := s.ok.ext e
  bs := fun k hk => ⟨(s.bs k hk).1, (s.bs k hk).2.trans (.ext e (s.bs k hk).1)⟩
  len := s.len
  fre := fun p hp => by
    obtain ⟨h1, h2, h3, o, hx, ho⟩ := s.fre p hp
    exact ⟨h1, h2, h3, o, e.1 _ _ hx (s.lx hp), ho⟩
  nd := s.nd
  sl := fun i t ht => by
    have h := s.sl i t ht
    cases t with
    | no => trivial
    | dat d =>
      obtain ⟨v, h1, h2⟩ := h
      exact ⟨v, h1, h2.up s.okL e⟩
    | own ds =>
      obtain ⟨l, xs, h1, h2, h3, h4⟩ := h
      exact ⟨l, xs, h1, h2, e.1 _ _ h3 (s.lx h2), h4.up s.okL e⟩
    | dkR _ => exact h.elim
    | dk ds =>
      obtain ⟨l, xs, h1, h2, h3, h4⟩ := h
      exact ⟨l, xs, h1, h2, e.1 _ _ h3 (s.lx h2), h4.up s.okL e⟩
    | dn w0 ks0 ds =>
      obtain ⟨l, xs, h1, h2, h3, h4⟩ := h
      exact ⟨l, xs, h1, h2, e.1 _ _ h3 (s.lx h2), DnQ.upE h4 s.okL e⟩
    | slf k C ns ds =>
      obtain ⟨x, dx, fs, h1, hS, h2, h3, h4, h5, h6⟩ := h
      exact ⟨x, dx, fs, h1, hS, h2, e.1 _ _ h3 (s.lx h2), h4, h5, h6.up s.okL e⟩
    | row => exact h
theorem look_dat {ρ : Env} {i : Nat} {d : D} (h : look ρ i = some d) : ρ[i]? = some (.dat d) := by
  unfold look at h
  split at h
  · rename_i e; rw [e]; cases h; rfl
  · cases h
theorem SR.envA (s : SR W Y B σ H ρ L) : EnvR W (mask W (YL Y L) H) σ ρ := ⟨s.len, fun i d l => s.sl i _ (look_dat l), fun i l => s.sl i _ l, fun i kvs l => (s.sl i _ l).elim⟩
theorem SR.envB (s : SR W Y B σ H ρ L) : EnvR W (mask W Y H) σ (vB ρ) := ⟨by simp [vB, s.len], fun i d l => by
  have h := look_dat l
  unfold vB at h
  rw [List.getElem?_map] at h
  cases e : ρ[i]? with
  | none => rw [e] at h; cases h
  | some t =>
    rw [e] at h
    have q := s.sl i t e
    cases t with
    | no => cases h
    | dat d' =>
      cases h
      obtain ⟨v, h1, h2⟩ := q
      exact ⟨v, h1, h2.less fun a => YL_y⟩
    | own ds =>
      cases h
      obtain ⟨l, xs, h1, h2, h3, h4⟩ := q
      exact ⟨_, h1, .lst (mask_at h3 (s.fre _ h2).2.2.1 fun _ _ _ z => nomatch z) (h4.less fun a => YL_y)⟩
    | dkR _ => cases h
    | dk ds => cases h
    | dn w0 ks0 ds =>
      cases h
      obtain ⟨l, q, h1, h2, h3, h4⟩ := q
      exact ⟨_, h1, DnQ.dct (DnQ.less h4 fun a => YL_y) (mask_at h3 (s.fre _ h2).2.2.1 fun _ _ _ z => nomatch z)⟩
    | slf k C ns ds =>
      cases ns with
      | nil => cases h
      | cons n ns =>
      cases h
      obtain ⟨x, dx, fs, h1, hS, h2, h3, h4, h5, h6⟩ := q
      refine ⟨_, h1, .ob (mask_at h3 (s.fre _ h2).2.2.1 fun C' dx' fs' z => ?_) h4 (h6.less fun a => YL_y)⟩
      cases z
      rw [h4]; exact h5.2 (by simp)
    | row => exact (nomatch h), fun i l => by
  unfold vB at l
  rw [List.getElem?_map] at l
  cases e : ρ[i]? with
  | none => rw [e] at l; cases l
  | some t =>
    rw [e] at l
    cases t with
    | row => exact s.sl i _ e
    | slf k C ns ds => cases ns <;> cases l
    | _ => (cases l), fun i kvs l => by
  unfold vB at l
  rw [List.getElem?_map] at l
  cases e : ρ[i]? with
  | none => rw [e] at l; cases l
  | some t =>
    rw [e] at l
    cases t with
    | dk kvs' =>
      cases l
      obtain ⟨p, vs, h1, h2, h3, h4⟩ := s.sl i _ e
      exact ⟨p, vs, h1, mask_at h3 (s.fre _ h2).2.2.1 (fun _ _ _ z => nomatch z), h4.less fun a => YL_y⟩
    | dkR _ => exact (s.sl i _ e).elim
    | slf k C ns ds => cases ns <;> cases l
    | _ => cases l⟩
theorem getElem?_set' {ρ : Env} {i j : Nat} {t s : Sl} (h : (ρ.set i t)[j]? = some s) : (i = j ∧ i < ρ.length ∧ s = t) ∨ (i ≠ j ∧ ρ[j]? = some s) := by
  rw [List.getElem?_set] at h
  by_cases e : i = j
  · subst e
    by_cases hl : i < ρ.length
    · rw [if_pos rfl, if_pos hl] at h
      exact .inl ⟨rfl, hl, (Option.some.inj h).symm⟩
    · rw [if_pos rfl, if_neg hl] at h; cases h
  · rw [if_neg e] at h; exact .inr ⟨e, h⟩
theorem SR.set (s : SR W Y B σ H ρ L) (i : Nat) {v : V} {d : D} (hd : Dm W (YL Y L) H v d) : SR W Y B (σ.set i (some v)) H (ρ.set i (.dat d)) L where
  ok := s.ok
  bs := s.bs
  len := by simp [s.len]
  fre := s.fre
  nd := s.nd
  sl := fun j t ht => by
    rcases getElem?_set' ht with ⟨rfl, hl, rfl⟩ | ⟨hne, h⟩
    · exact ⟨v, by simp [s.len, hl], hd⟩
    · have q := s.sl j t h
      have e : (σ.set i (some v))[j]? = σ[j]? := by simp [List.getElem?_set, hne]
      cases t with
      | no => trivial
      | dat d' => obtain ⟨w, h1, h2⟩ := q; exact ⟨w, by rw [e]; exact h1, h2⟩
      | own ds => obtain ⟨l, xs, h1, h2⟩ := q; exact ⟨l, xs, by rw [e]; exact h1, h2⟩
      | dkR _ => exact q.elim
      | dk ds => obtain ⟨l, xs, h1, h2⟩ := q; exact ⟨l, xs, by rw [e]; exact h1, h2⟩
      | dn w0 ks0 ds => obtain ⟨l, xs, h1, h2⟩ := q; exact ⟨l, xs, by rw [e]; exact h1, h2⟩
      | slf k C ns ds => obtain ⟨x, dx, fs, h1, h2⟩ := q; exact ⟨x, dx, fs, by rw [e]; exact h1, h2⟩
      | row => exact e.trans q
theorem SR.sets {is : List Nat} {σ' : L2.St} {ρ' : Env} (s : SR W Y B σ H ρ L) (h : SetR K (mask W (YL Y L) H) is σ ρ σ' ρ') : SR W Y B σ' H ρ' L := by
  induction h with
  | refl => exact s
  | set _ _ hd ih => exact (ih s).set _ hd
theorem YL_also {i : Nat} {p : Addr} : YL Y ((i, p) :: L) = also (YL Y L) p := by
  funext a
  simp only [YL, also, List.any_cons]
  rw [show (p == a) = (a == p) from by simp [Bool.beq_eq_decide_eq, eq_comm]]
  cases (a == p) <;> cases Y a <;> simp
theorem SR.own (s : SR W Y B σ H ρ L) (i : Nat) {p : Addr} {xs : List V} {ds : List D} (e : Ext W H H') (hp : H p = none) (hx : H' p = some (.lst xs)) (hd : Dms W (also (YL Y L) p) H' xs ds) : SR W Y B (σ.set i (some (.ref p))) H' (ρ.set i (.own ds)) ((i, p) :: L) where
  ok := s.ok.ext e
  bs := fun k hk => ⟨(s.bs k hk).1, (s.bs k hk).2.trans (.ext e (s.bs k hk).1)⟩
  len := by simp [s.len]
  fre := fun q hq => by
    rcases List.mem_cons.mp hq with rfl | hq
    · refine ⟨fun k hk => ?_, W.new s.ok.1 hp, s.ok.fresh hp, _, hx, rfl⟩
      cases z : k.2 p with
      | true => exact .inr rfl
      | false =>
        refine .inl ?_
        cases y : k.1 p with
        | none => rfl
        | some o => rw [(s.bs k hk).2 p o y z] at hp; cases hp
    · obtain ⟨h1, h2, h3, ys, hy, ho⟩ := s.fre q hq
      exact ⟨h1, h2, h3, ys, e.1 _ _ hy (s.lx hq), ho⟩
  nd := by
    rw [List.map_cons, List.nodup_cons]
    refine ⟨fun z => ?_, s.nd⟩
    obtain ⟨q, hq, e⟩ := List.mem_map.mp z
    obtain ⟨_, _, _, ys, hy, _⟩ := s.fre q hq
    rw [show q.2 = p from e, hp] at hy
    cases hy
  sl := fun j t ht => by
    rw [YL_also]
    have go : ∀ {v : V} {d : D}, Dm W (YL Y L) H v d → Dm W (also (YL Y L) p) H' v d := fun h => Dm.same' h (mask_go (.ext e s.okL.2.1) fun a ha => by
      by_cases ea : a = p
      · subst ea; exact .inr hp
      · exact .inl (by simpa [also, ea] using ha))
    have gosq : ∀ {w : World} {ks : List NestedKey} {ds : List D} {q : QT}, DnQ K (mask W (YL Y L) H) w ks ds q → DnQ K (mask W (also (YL Y L) p) H') w ks ds q := fun h => DnQ.up h (mask_go (.ext e s.okL.2.1) fun a ha => by
      by_cases ea : a = p
      · subst ea; exact .inr hp
      · exact .inl (by simpa [also, ea] using ha))
    have gos : ∀ {v : List V} {d : List D}, Dms W (YL Y L) H v d → Dms W (also (YL Y L) p) H' v d := fun h => Dns.same (mask_go (.ext e s.okL.2.1) fun a ha => by
      by_cases ea : a = p
      · subst ea; exact .inr hp
      · exact .inl (by simpa [also, ea] using ha)) _ _ h
    rcases getElem?_set' ht with ⟨rfl, hl, rfl⟩ | ⟨hne, h⟩
    · exact ⟨p, xs, by simp [s.len, hl], by simp, hx, hd⟩
    · have q := s.sl j t h
      have e' : (σ.set i (some (.ref p)))[j]? = σ[j]? := by simp [List.getElem?_set, hne]
      cases t with
      | no => trivial
      | dat d' => obtain ⟨w, h1, h2⟩ := q; exact ⟨w, by rw [e']; exact h1, go h2⟩
      | own ds => obtain ⟨l, ys, h1, h2, h3, h4⟩ := q; exact ⟨l, ys, by rw [e']; exact h1, List.mem_cons_of_mem _ h2, e.1 _ _ h3 (s.lx h2), gos h4⟩
      | dkR _ => exact q.elim
      | dk ds => obtain ⟨l, ys, h1, h2, h3, h4⟩ := q; exact ⟨l, ys, by rw [e']; exact h1, List.mem_cons_of_mem _ h2, e.1 _ _ h3 (s.lx h2), gos h4⟩
      | dn w0 ks0 ds => obtain ⟨l, ys, h1, h2, h3, h4⟩ := q; exact ⟨l, ys, by rw [e']; exact h1, List.mem_cons_of_mem _ h2, e.1 _ _ h3 (s.lx h2), gosq h4⟩
      | slf k C ns ds => obtain ⟨x, dx, fs, h1, hS, h2, h3, h4, h5, h6⟩ := q; exact ⟨x, dx, fs, by rw [e']; exact h1, hS, List.mem_cons_of_mem _ h2, e.1 _ _ h3 (s.lx h2), h4, h5, gos h6⟩
      | row => exact e'.trans q
theorem nd_inj : ∀ {L : List (Nat × Addr)} {p q : Nat × Addr}, (L.map (·.2)).Nodup → p ∈ L → q ∈ L → p.2 = q.2 → p = q
  | [], _, _, _, h, _, _ => by cases h
  | r :: L, p, q, nd, hp, hq, e => by
    rw [List.map_cons, List.nodup_cons] at nd
    rcases List.mem_cons.mp hp with rfl | hp'
    · rcases List.mem_cons.mp hq with rfl | hq'
      · rfl
      · exact absurd (List.mem_map.mpr ⟨q, hq', e.symm⟩) nd.1
    · rcases List.mem_cons.mp hq with rfl | hq'
      · exact absurd (List.mem_map.mpr ⟨p, hp', e⟩) nd.1
      · exact nd_inj nd.2 hp' hq' e
theorem SR.putO (s : SR W Y B σ H ρ L) {i : Nat} {l : Addr} {o u : HO} {t : Sl} (hl : (i, l) ∈ L) (hx : H l = some o) (ho : cellO o = true) (hu : cellO u = true) (ht : SlR W (YL Y L) (upd H l u) L B.s σ i t) : SR W Y B σ (upd H l u) (ρ.set i t) L := by
  have mo : mask W (YL Y L) (upd H l u) = mask W (YL Y L) H := mask_off (YL_l hl)
  have I' : W.I (upd H l u) := W.off s.ok.1 (s.fre _ hl).2.1 hx ho
  refine ⟨⟨I', s.ok.2.1, fun a ha => ?_⟩, fun k hk => ⟨(s.bs k hk).1, fun b o hb z => ?_⟩, by simp [s.len], fun p hp => ?_, s.nd, fun j t' ht' => ?_⟩
  · have : a ≠ l := by
      rintro rfl
      rw [(s.fre _ hl).2.2.1] at ha; cases ha
    rw [upd_ne this]; exact s.ok.2.2 a ha
  · have : b ≠ l := by
      rintro rfl
      rcases (s.fre _ hl).1 k hk with h | h
      · rw [h] at hb; cases hb
      · rw [h] at z; cases z
    rw [upd_ne this]; exact (s.bs k hk).2 b o hb z
  · obtain ⟨h1, h2, h3, zs, hz, hc⟩ := s.fre p hp
    refine ⟨h1, h2, h3, ?_⟩
    by_cases e : p.2 = l
    · rw [e]; exact ⟨_, upd_same, hu⟩
    · rw [upd_ne e]; exact ⟨zs, hz, hc⟩
  · rcases getElem?_set' ht' with ⟨rfl, _, rfl⟩ | ⟨hne, h⟩
    · exact ht
    · have q := s.sl j t' h
      have ne : ∀ {l'}, (j, l') ∈ L → l' ≠ l := fun {l'} h2 => by
        rintro rfl
        have := nd_inj s.nd h2 hl rfl
        cases this
        exact hne rfl
      cases t' with
      | no => trivial
      | dat d' => obtain ⟨w, h1, h2⟩ := q; exact ⟨w, h1, by unfold Dm; rw [mo]; exact h2⟩
      | own ds' =>
        obtain ⟨l', zs, h1, h2, h3, h4⟩ := q
        exact ⟨l', zs, h1, h2, by rw [upd_ne (ne h2)]; exact h3, by unfold Dms; rw [mo]; exact h4⟩
      | dkR _ => exact q.elim
      | dk ds' =>
        obtain ⟨l', zs, h1, h2, h3, h4⟩ := q
        exact ⟨l', zs, h1, h2, by rw [upd_ne (ne h2)]; exact h3, by unfold Dms; rw [mo]; exact h4⟩
      | dn w0 ks0 ds' =>
        obtain ⟨l', zs, h1, h2, h3, h4⟩ := q
        exact ⟨l', zs, h1, h2, by rw [upd_ne (ne h2)]; exact h3, by rw [mo]; exact h4⟩
      | slf k C ns ds =>
        obtain ⟨x, dx, fs, h1, hS, h2, h3, h4, h5, h6⟩ := q
        exact ⟨x, dx, fs, h1, hS, h2, by rw [upd_ne (ne h2)]; exact h3, h4, h5, by unfold Dms; rw [mo]; exact h6⟩
      | row => exact q
theorem SR.put (s : SR W Y B σ H ρ L) {i : Nat} {l : Addr} {xs ys : List V} {ds es : List D} (hi : ρ[i]? = some (.own ds)) (hσ : σ[i]? = some (some (.ref l))) (hl : (i, l) ∈ L) (hx : H l = some (.lst xs)) (hd : Dms W (YL Y L) H ys es) : SR W Y B σ (upd H l (.lst ys)) (ρ.set i (.own es)) L :=
  s.putO hl hx rfl rfl ⟨l, ys, hσ, hl, upd_same, by unfold Dms; rw [mask_off (YL_l hl)]; exact hd⟩
def fz (i : Nat) (ρ : Env) : Env := match ρ[i]? with
  | some (.own ds) => ρ.set i (.dat (.lst ds))
  | some (.dn w ks ds) => ρ.set i (.dat (.dct w ks ds))
  | _ => ρ
theorem SR.fz (s : SR W Y B σ H ρ L) (i : Nat) : SRx W Y B σ H (fz i ρ) := by
  unfold Mi.fz
  cases hi : ρ[i]? with
  | none => exact ⟨L, s⟩
  | some t =>
    cases t with
    | no => exact ⟨L, s⟩
    | dat _ => exact ⟨L, s⟩
    | slf _ _ _ _ => exact ⟨L, s⟩
    | dkR _ => exact ⟨L, s⟩
    | dk _ => exact ⟨L, s⟩
    | row => exact ⟨L, s⟩
    | dn w0 ks0 ds =>
      obtain ⟨l, qq, h1, h2, h3, h4⟩ := s.sl i _ hi
      have less : ∀ a, YL Y (L.filter fun p => p.2 != l) a = true → YL Y L a = true := fun a ha => by
        rcases YL_or ha with h | ⟨p, hp, rfl⟩
        · exact YL_y h
        · exact YL_l (List.mem_filter.mp hp).1
      have off : YL Y (L.filter fun p => p.2 != l) l = false := by
        cases z : YL Y (L.filter fun p => p.2 != l) l with
        | false => rfl
        | true =>
          rcases YL_or z with h | ⟨p, hp, e⟩
          · rw [(s.fre _ h2).2.2.1] at h; cases h
          · have := (List.mem_filter.mp hp).2
            simp [e] at this
      refine ⟨L.filter fun p => p.2 != l, s.ok, s.bs, by simp [s.len], fun p hp => s.fre p (List.mem_filter.mp hp).1, (List.Sublist.map _ List.filter_sublist).nodup s.nd, fun j t ht => ?_⟩
      rcases getElem?_set' ht with ⟨rfl, _, rfl⟩ | ⟨hne, h⟩
      · exact ⟨_, h1, DnQ.dct (DnQ.less h4 less) (mask_at h3 off fun _ _ _ z => nomatch z)⟩
      · have q := s.sl j t h
        cases t with
        | no => trivial
        | dat d' => obtain ⟨w, h1, h2⟩ := q; exact ⟨w, h1, h2.less less⟩
        | own ds' =>
          obtain ⟨l', zs, g1, g2, g3, g4⟩ := q
          refine ⟨l', zs, g1, List.mem_filter.mpr ⟨g2, ?_⟩, g3, g4.less less⟩
          have : l' ≠ l := by
            rintro rfl
            have := nd_inj s.nd g2 h2 rfl
            cases this
            exact hne rfl
          simpa using this
        | dkR _ => exact q.elim
        | dk ds' =>
          obtain ⟨l', zs, g1, g2, g3, g4⟩ := q
          refine ⟨l', zs, g1, List.mem_filter.mpr ⟨g2, ?_⟩, g3, g4.less less⟩
          have : l' ≠ l := by
            rintro rfl
            have := nd_inj s.nd g2 h2 rfl
            cases this
            exact hne rfl
          simpa using this
        | dn w0 ks0 ds' =>
          obtain ⟨l', zs, g1, g2, g3, g4⟩ := q
          refine ⟨l', zs, g1, List.mem_filter.mpr ⟨g2, ?_⟩, g3, DnQ.less g4 less⟩
          have : l' ≠ l := by
            rintro rfl
            have := nd_inj s.nd g2 h2 rfl
            cases this
            exact hne rfl
          simpa using this
        | row => exact q
        | slf k C ns ds =>
          obtain ⟨x, dx, fs, g1, gS, g2, g3, g4, g5, g6⟩ := q
          refine ⟨x, dx, fs, g1, gS, List.mem_filter.mpr ⟨g2, ?_⟩, g3, g4, g5, g6.less less⟩
          have : x ≠ l := by
            rintro rfl
            have := nd_inj s.nd g2 h2 rfl
            cases this
            exact hne rfl
          simpa using this
    | own ds =>
      obtain ⟨l, xs, h1, h2, h3, h4⟩ := s.sl i _ hi
      have less : ∀ a, YL Y (L.filter fun p => p.2 != l) a = true → YL Y L a = true := fun a ha => by
        rcases YL_or ha with h | ⟨p, hp, rfl⟩
        · exact YL_y h
        · exact YL_l (List.mem_filter.mp hp).1
      have off : YL Y (L.filter fun p => p.2 != l) l = false := by
        cases z : YL Y (L.filter fun p => p.2 != l) l with
        | false => rfl
        | true =>
          rcases YL_or z with h | ⟨p, hp, e⟩
          · rw [(s.fre _ h2).2.2.1] at h; cases h
          · have := (List.mem_filter.mp hp).2
            simp [e] at this
      refine ⟨L.filter fun p => p.2 != l, s.ok, s.bs, by simp [s.len], fun p hp => s.fre p (List.mem_filter.mp hp).1, (List.Sublist.map _ List.filter_sublist).nodup s.nd, fun j t ht => ?_⟩
      rcases getElem?_set' ht with ⟨rfl, _, rfl⟩ | ⟨hne, h⟩
      · exact ⟨_, h1, .lst (mask_at h3 off fun _ _ _ z => nomatch z) (h4.less less)⟩
      · have q := s.sl j t h
        cases t with
        | no => trivial
        | dat d' => obtain ⟨w, h1, h2⟩ := q; exact ⟨w, h1, h2.less less⟩
        | own ds' =>
          obtain ⟨l', zs, g1, g2, g3, g4⟩ := q
          refine ⟨l', zs, g1, List.mem_filter.mpr ⟨g2, ?_⟩, g3, g4.less less⟩
          have : l' ≠ l := by
            rintro rfl
            have := nd_inj s.nd g2 h2 rfl
            cases this
            exact hne rfl
          simpa using this
        | dkR _ => exact q.elim
        | dk ds' =>
          obtain ⟨l', zs, g1, g2, g3, g4⟩ := q
          refine ⟨l', zs, g1, List.mem_filter.mpr ⟨g2, ?_⟩, g3, g4.less less⟩
          have : l' ≠ l := by
            rintro rfl
            have := nd_inj s.nd g2 h2 rfl
            cases this
            exact hne rfl
          simpa using this
        | dn w0 ks0 ds' =>
          obtain ⟨l', zs, g1, g2, g3, g4⟩ := q
          refine ⟨l', zs, g1, List.mem_filter.mpr ⟨g2, ?_⟩, g3, DnQ.less g4 less⟩
          have : l' ≠ l := by
            rintro rfl
            have := nd_inj s.nd g2 h2 rfl
            cases this
            exact hne rfl
          simpa using this
        | row => exact q
        | slf k C ns ds =>
          obtain ⟨x, dx, fs, g1, gS, g2, g3, g4, g5, g6⟩ := q
          refine ⟨x, dx, fs, g1, gS, List.mem_filter.mpr ⟨g2, ?_⟩, g3, g4, g5, g6.less less⟩
          have : x ≠ l := by
            rintro rfl
            have := nd_inj s.nd g2 h2 rfl
            cases this
            exact hne rfl
          simpa using this
end
end
end Mi

namespace Mi
open PySem L2 Cc
def ok1 (d : D) : Bool := d.fix && d.pl
def okL (ds : List D) : Bool := D.fixs ds && D.pls ds
def sNext : Env → M Fl := fun ρ => .ret (.nx ρ)
def sBreak : Env → M Fl := fun ρ => .ret (.bk ρ)
def sCont : Env → M Fl := fun ρ => .ret (.ct ρ)
def sSeq (a b : Env → M Fl) : Env → M Fl := fun ρ => (a ρ).bind fun f => f.next b
def sExpr (m : Env → M D) : Env → M Fl := fun ρ => (m (vB ρ)).bind fun _ => .ret (.nx ρ)
def sAsg (i : Nat) (m : Env → M D) : Env → M Fl := fun ρ => (m ρ).bind fun d => .ret (.nx (ρ.set i (.dat d)))
def sAsgB (i : Nat) (m : Env → M D) : Env → M Fl := fun ρ => (m (vB ρ)).bind fun d => if ok1 d then .ret (.nx (ρ.set i (.dat d))) else .bad
def sPat (p : Pat) (m : Env → M D) : Env → M Fl := fun ρ => (m ρ).bind fun d => match p d ρ with
  | some ρ' => .ret (.nx ρ')
  | none => .bad
def sPatB (p : Pat) (m : Env → M D) : Env → M Fl := fun ρ => (m (vB ρ)).bind fun d => if ok1 d then (match p d ρ with
  | some ρ' => .ret (.nx ρ')
  | none => .bad) else .bad
def sOwn (i : Nat) (m : Env → M (List D)) : Env → M Fl := fun ρ => (m ρ).bind fun ds => .ret (.nx (ρ.set i (.own ds)))
def sOwnB (i : Nat) (m : Env → M (List D)) : Env → M Fl := fun ρ => (m (vB ρ)).bind fun ds => if okL ds then .ret (.nx (ρ.set i (.own ds))) else .bad
def sPar (i j : Nat) (m : Env → M (List D)) : Env → M Fl := fun ρ => (m ρ).bind fun ds => match ds with
  | [d, e] => .ret (.nx ((ρ.set i (.dat d)).set j (.dat e)))
  | _ => .bad
def sRet (m : Env → M D) : Env → M Fl := fun ρ => (m (vB ρ)).bind fun d => .ret (.rt d)
def sRetN : Env → M Fl := fun _ => .ret (.rt .non)
def sIf (c : Env → M Bool) (a b : Env → M Fl) : Env → M Fl := fun ρ => (c (vB ρ)).bind fun k => if k then a ρ else b ρ
def forGo (p : Pat) (body : Env → M Fl) : List D → Env → M Fl
  | [], ρ => .ret (.nx ρ)
  | d :: ds, ρ => match p d ρ with
    | some ρ1 => (body ρ1).bind fun f => f.turn fun ρ2 => forGo p body ds ρ2
    | none => .bad
def sFor (mi : Env → M (List D)) (p : Pat) (body : Env → M Fl) : Env → M Fl := fun ρ => (mi ρ).bind fun ds => forGo p body ds ρ
def sForB (mi : Env → M (List D)) (p : Pat) (body : Env → M Fl) : Env → M Fl := fun ρ => (mi (vB ρ)).bind fun ds => if okL ds then forGo p body ds ρ else .bad
def whGo (c : Env → M Bool) (body : Env → M Fl) : Nat → Env → M Fl
  | 0, _ => .bad
  | n + 1, ρ => (c (vB ρ)).bind fun k => if k then (body ρ).bind fun f => f.turn fun ρ2 => whGo c body n ρ2 else .ret (.nx ρ)
def sApp (i : Nat) (m : Env → M D) : Env → M Fl := fun ρ => match ρ[i]? with
  | some (.own ds) => (m ρ).bind fun d => if ds.length < 100000 then .ret (.nx (ρ.set i (.own (ds ++ [d])))) else .bad
  | _ => .bad
def sAppB (i : Nat) (m : Env → M D) : Env → M Fl := fun ρ => match ρ[i]? with
  | some (.own ds) => (m (vB ρ)).bind fun d => if ds.length < 100000 ∧ ok1 d = true then .ret (.nx (ρ.set i (.own (ds ++ [d])))) else .bad
  | _ => .bad
def sExt (i : Nat) (m : Env → M D) : Env → M Fl := fun ρ => match ρ[i]? with
  | some (.own ds) => (m ρ).bind fun d => match d with
    | .lst es => if ds.length + es.length ≤ 100000 then .ret (.nx (ρ.set i (.own (ds ++ es)))) else .bad
    | _ => .bad
  | _ => .bad
def sExtB (i : Nat) (m : Env → M D) : Env → M Fl := fun ρ => match ρ[i]? with
  | some (.own ds) => (m (vB ρ)).bind fun d => match d with
    | .lst es => if ds.length + es.length ≤ 100000 ∧ okL es = true then .ret (.nx (ρ.set i (.own (ds ++ es)))) else .bad
    | _ => .bad
  | _ => .bad
def sSet (i : Nat) (mj m : Env → M D) : Env → M Fl := fun ρ => match ρ[i]? with
  | some (.own ds) => (m (vB ρ)).bind fun d => (mj (vB ρ)).bind fun j => match j with
    | .int k => match ixN ds.length k with
      | some n => if ok1 d = true then .ret (.nx (ρ.set i (.own (ds.set n d)))) else .bad
      | none => .bad
    | _ => .bad
  | _ => .bad
def sFz (i : Nat) (a : Env → M Fl) : Env → M Fl := fun ρ => a (fz i ρ)
section
variable {K : Fg} {W : Wd K} {E : XK} {te : TE} {m : Env → M D} {mn : Env → M (List D)} {tt : TT} {c : Env → M Bool} {ts tu : TS} {a b : Env → M Fl}
theorem ErrB.at' {Y : Addr → Bool} {B : Bases} {σ : L2.St} {H : Hp} {ρ : Env} {L : List (Nat × Addr)} (s : SR W Y B σ H ρ L) {c : Str} {p : List D} (h : ErrB W E B c p) : ErrP W E H c p := fun cls o H' e he => h cls o H' (s.bokE e) he
theorem gs_next : GS W E tNext sNext := fun Y B σ H ρ Dn s w => w σ H s
theorem gs_seq (h1 : GS W E ts a) (h2 : GS W E tu b) : GS W E (tSeq ts tu) (sSeq a b) := fun Y B σ H ρ Dn s w =>
  h1 Y B σ H ρ _ s (M.wp_mono (fun f hf => by
    cases f with
    | nx ρ' => exact fun σ' H' s' => h2 Y B σ' H' ρ' Dn s' hf
    | bk ρ' => exact hf
    | ct ρ' => exact hf
    | rs _ _ _ _ => exact hf
    | rt d => exact hf) (fun _ _ h => h) _ ((M.wp_bind _).mp w))
theorem GE.runA {α : Type} {Y : Addr → Bool} {B : Bases} {σ : L2.St} {H : Hp} {ρ : Env} {L : List (Nat × Addr)} {f : D → M α} {R : α → Prop} {Q : VK} (h : GE W E te m) (s : SR W Y B σ H ρ L) (w : ((m ρ).bind f).wp R (ErrB W E B))
    (k : ∀ d v H1, SR W Y B σ H1 ρ L → Dm W (YL Y L) H1 v d → (f d).wp R (ErrB W E B) → Q v H1) : te σ H Q :=
  h.seq s.okL s.envA w (fun _ _ h => h.at' s) fun d v H1 e1 o1 r1 hv w1 => k d v H1 (s.up e1) hv w1
theorem GE.runB {α : Type} {Y : Addr → Bool} {B : Bases} {σ : L2.St} {H : Hp} {ρ : Env} {L : List (Nat × Addr)} {f : D → M α} {R : α → Prop} {Q : VK} (h : GE W E te m) (s : SR W Y B σ H ρ L) (w : ((m (vB ρ)).bind f).wp R (ErrB W E B))
    (k : ∀ d v H1, SR W Y B σ H1 ρ L → Dm W Y H1 v d → (f d).wp R (ErrB W E B) → Q v H1) : te σ H Q :=
  h.seq s.ok s.envB w (fun _ _ h => h.at' s) fun d v H1 e1 o1 r1 hv w1 => k d v H1 (s.up e1) hv w1
theorem ok1_see {Y : Addr → Bool} {B : Bases} {σ : L2.St} {H : Hp} {ρ : Env} {L : List (Nat × Addr)} (s : SR W Y B σ H ρ L) {v : V} {d : D} (h : Dm W Y H v d) (k : ok1 d = true) : Dm W (YL Y L) H v d := by
  have k' : d.fix = true ∧ d.pl = true := by simpa [ok1] using k
  exact Dn.see s.okL d v k'.1 k'.2 h.un
theorem gs_expr (h : GE W E te m) : GS W E (tDrop te) (sExpr m) := fun Y B σ H ρ Dn ⟨L, s⟩ w => h.runB s w fun d v H1 s1 hv w1 => w1 σ H1 ⟨L, s1⟩
theorem gs_asg {i : Nat} (h : GE W E te m) : GS W E (tAsg te (gName i)) (sAsg i m) := fun Y B σ H ρ Dn ⟨L, s⟩ w => h.runA s w fun d v H1 s1 hv w1 => w1 _ H1 ⟨L, s1.set i hv⟩
theorem gs_asgB {i : Nat} (h : GE W E te m) : GS W E (tAsg te (gName i)) (sAsgB i m) := fun Y B σ H ρ Dn ⟨L, s⟩ w => h.runB s w fun d v H1 s1 hv w1 => by
  split at w1
  · rename_i k; exact w1 _ H1 ⟨L, s1.set i (ok1_see s1 hv k)⟩
  · exact w1.elim
theorem gs_pat {g : TG} {p : Pat} {is : List Nat} (h : GE W E te m) (hp : GP K g p is) : GS W E (tAsg te g) (sPat p m) := fun Y B σ H ρ Dn ⟨L, s⟩ w => h.runA s w fun d v H1 s1 hv w1 => by
  cases e : p d ρ with
  | none => rw [e] at w1; exact w1.elim
  | some ρ' =>
    rw [e] at w1
    exact hp _ H1 v d σ ρ ρ' _ (mask_le (W := W) (Y := YL Y L)) hv e fun σ' hs => w1 σ' H1 ⟨L, s1.sets hs⟩
theorem gs_own {i : Nat} (h : GN W E te mn) : GS W E (tAsg te (gName i)) (sOwn i mn) := fun Y B σ H ρ Dn ⟨L, s⟩ w =>
  h _ σ H ρ _ s.okL s.envA (M.wp_mono (fun ds (hd : FlP W Y B Dn (.nx (ρ.set i (.own ds)))) (p : Addr) (xs : List V) H' e hp hx hds => hd _ H' ⟨_, s.own i (p := p) e hp hx hds⟩) (fun _ _ h => h.at' s) _ ((M.wp_bind _).mp w))
theorem gs_par {i j : Nat} {ta : TA} (h : GA W E ta mn) : GS W E (tPar i j ta) (sPar i j mn) := fun Y B σ H ρ Dn ⟨L, s⟩ w =>
  h.seq s.okL s.envA w (fun _ _ h => h.at' s) fun ds vs H1 e1 o1 r1 hv w1 => by
    have s1 := s.up e1
    cases hv with
    | nil => exact w1.elim
    | cons h1 h2 =>
      cases h2 with
      | nil => exact w1.elim
      | cons h2 h3 =>
        cases h3 with
        | nil => exact ⟨_, _, rfl, w1 _ H1 ⟨L, (s1.set i h1).set j h2⟩⟩
        | cons _ _ => exact w1.elim
theorem gs_ret (h : GE W E te m) : GS W E (tRet te) (sRet m) := fun Y B σ H ρ Dn ⟨L, s⟩ w => h.runB s w fun d v H1 s1 hv w1 => w1 v H1 s1.bok hv
theorem gs_if (hc : GT W E tt c) (h1 : GS W E ts a) (h2 : GS W E tu b) : GS W E (tIfS tt ts tu) (sIf c a b) := fun Y B σ H ρ Dn ⟨L, s⟩ w =>
  hc.seq s.ok s.envB w (fun _ _ h => h.at' s) fun k H1 e1 o1 r1 w1 => by
    cases k with
    | true => exact (if_pos rfl).mpr (h1 Y B σ H1 ρ Dn ⟨L, s.up e1⟩ w1)
    | false => exact (if_neg Bool.false_ne_true).mpr (h2 Y B σ H1 ρ Dn ⟨L, s.up e1⟩ w1)
theorem SR.base {Y : Addr → Bool} {B : Bases} {σ : L2.St} {H : Hp} {ρ : Env} {L : List (Nat × Addr)} (s : SR W Y B σ H ρ L) : SR W Y ⟨(H, YL Y L) :: B.l, B.s⟩ σ H ρ L :=
  { s with
    bs := fun k hk => by
      rcases List.mem_cons.mp hk with rfl | hk
      · exact ⟨s.okL.2.1, fun _ _ e _ => e⟩
      · exact s.bs k hk
    fre := fun p hp => by
      obtain ⟨h1, h2⟩ := s.fre p hp
      refine ⟨fun k hk => ?_, h2⟩
      rcases List.mem_cons.mp hk with rfl | hk
      · exact .inr (YL_l hp)
      · exact h1 k hk }
theorem SR.unbase {Y : Addr → Bool} {B : Bases} {σ : L2.St} {H : Hp} {ρ : Env} {L : List (Nat × Addr)} {b : Hp × (Addr → Bool)} (s : SR W Y ⟨b :: B.l, B.s⟩ σ H ρ L) : SR W Y B σ H ρ L :=
  { s with bs := fun k hk => s.bs k (List.mem_cons_of_mem _ hk), fre := fun p hp => ⟨fun k hk => (s.fre p hp).1 k (List.mem_cons_of_mem _ hk), (s.fre p hp).2⟩ }
theorem Bok.tail {B : Bases} {b : Hp × (Addr → Bool)} {H : Hp} (h : Bok W ⟨b :: B.l, B.s⟩ H) : Bok W B H := ⟨h.1, fun k hk => h.2 k (List.mem_cons_of_mem _ hk)⟩
theorem for_run {Y : Addr → Bool} {B : Bases} {σ : L2.St} {H : Hp} {ρ : Env} {L : List (Nat × Addr)} {Dn : Ends} {g : TG} {p : Pat} {is : List Nat} {ds : List D} (hp : GP K g p is) (hb : GS W E ts b) (s : SR W Y B σ H ρ L) (w : (forGo p b ds ρ).wp (FlP W Y B Dn) (ErrB W E B))
    {J : It} {G : Hp → Prop} {Yw : Nat → Hp → V → Hp → Prop} {H2 : Hp} (e2 : Ext W H H2) (wk : Walk J ds.length G Yw) (hG : ∀ H', St (YL Y L) H2 H' → G H')
    (hY : ∀ i Ha x Hb Y', i < ds.length → St (YL Y L) H2 Ha → Ok W Y' Ha → (∀ a, Y' a = true → YL Y L a = true ∨ H2 a = none) → Yw i Ha x Hb → Same Ha Hb ∧ ∃ d, ds[i]? = some d ∧ Dm W Y' Hb x d) :
    ∃ Wm : Nat → Nat → L2.St → Hp → Prop, (∃ m, Wm 0 m σ H2) ∧ ∀ i m σ H, Wm i m σ H →
      (J.stop i H ∧ Dn.nx σ H) ∨ (J.go i H ∧ ∃ N : L2.St → Hp → Prop, (∀ σ' H', N σ' H' → ∃ m', m' < m ∧ Wm (i + 1) m' σ' H') ∧ ∀ x H', J.yld i H x H' → g x σ H' fun σ2 H2 => ts { Dn with nx := N, ct := N, bk := Dn.nx } σ2 H2) := by
  have s2 := (s.up e2).base
  let B2 : Bases := ⟨(H2, YL Y L) :: B.l, B.s⟩
  let Pv : Nat → L2.St → Hp → Prop := fun i σ' H' => ∃ ρ', SRx W Y B2 σ' H' ρ' ∧ (forGo p b (ds.drop i) ρ').wp (FlP W Y B Dn) (ErrB W E B)
  refine for_it wk Pv ⟨ρ, ⟨L, s2⟩, by simpa using w⟩ (fun i σ' H' _ ⟨ρ', ⟨L', s'⟩, _⟩ => hG H' (s'.bs _ List.mem_cons_self).2) (fun i x σ' Ha Hb hlt ⟨ρ', ⟨L', s'⟩, w'⟩ y => ?_) (fun σ' H' ⟨ρ', ⟨L', s'⟩, w'⟩ => ?_)
  · have st := (s'.bs _ List.mem_cons_self).2
    obtain ⟨eb, d, hd, hx⟩ := hY i Ha x Hb (YL Y L') hlt st s'.okL (fun a ha => by
      rcases YL_or ha with h | ⟨q, hq, rfl⟩
      · exact .inl (YL_y h)
      · rcases (s'.fre q hq).1 _ List.mem_cons_self with h | h
        · exact .inr h
        · exact .inl h) y
    have sb := s'.up (.of s'.ok.1 eb)
    have hdr : ds.drop i = d :: ds.drop (i + 1) := by
      obtain ⟨hl, hg⟩ := List.getElem?_eq_some_iff.mp hd
      rw [List.drop_eq_getElem_cons hl, hg]
    rw [hdr] at w'
    unfold forGo at w'
    cases hpd : p d ρ' with
    | none => rw [hpd] at w'; exact w'.elim
    | some ρ1 =>
      rw [hpd] at w'
      refine hp _ Hb x d σ' ρ' ρ1 _ (mask_le (W := W) (Y := YL Y L') (H := Hb)) hx hpd fun σ1 hs => ?_
      refine hb Y B2 σ1 Hb ρ1 _ ⟨L', sb.sets hs⟩ (M.wp_mono (fun f hf => ?_) (fun c q h cls o H' k he => h cls o H' k.tail he) _ ((M.wp_bind _).mp w'))
      cases f with
      | nx ρ2 => exact fun σ2 H3 s3 => ⟨ρ2, s3, hf⟩
      | ct ρ2 => exact fun σ2 H3 s3 => ⟨ρ2, s3, hf⟩
      | bk ρ2 => exact fun σ2 H3 ⟨L3, s3⟩ => hf σ2 H3 ⟨L3, s3.unbase⟩
      | rt d => exact fun v H3 k hv => hf v H3 k.tail hv
      | rs _ _ _ _ => exact fun v H3 x dx fs h1 k h2 hn h3 hv => hf v H3 x dx fs h1 k.tail h2 hn h3 hv
  · rw [List.drop_length] at w'
    exact w' σ' H' ⟨L', s'.unbase⟩
theorem gs_for {wi : TI} {g : TG} {p : Pat} {is : List Nat} {mi : Env → M (List D)} (hi : GI W E wi mi) (hp : GP K g p is) (hb : GS W E ts b) : GS W E (tFor wi g ts) (sFor mi p b) := fun Y B σ H ρ Dn ⟨L, s⟩ w =>
  hi.seq s.okL s.envA w (fun _ _ h => h.at' s) fun ds w1 J G Yw H2 e2 wk hG hY => for_run hp hb s w1 e2 wk hG hY
def GR (W : Wd K) (E : XK) (wi : TI) (mi : Env → M (List D)) : Prop := ∀ Y σ H ρ R, Ok W Y H → EnvR W (mask W Y H) σ ρ → (mi ρ).wp (fun ds => ∀ lo n H2, Ext W H H2 → ds = (List.range n).map (fun i => D.int (lo + (i : Nat))) → R (Itr lo n) H2) (ErrP W E H) → wi σ H R
theorem gs_while {n : Nat} (hc : GT W E tt c) (hb : GS W E ts b) : GS W E (tWhile tt ts) (whGo c b n) := fun Y B σ H ρ Dn s w => by
  refine ⟨fun k σ' H' => ∃ ρ', SRx W Y B σ' H' ρ' ∧ (whGo c b k ρ').wp (FlP W Y B Dn) (ErrB W E B), ⟨n, ρ, s, w⟩, ?_⟩
  rintro k σ' H' ⟨ρ', ⟨L, s⟩, w⟩
  cases k with
  | zero => exact w.elim
  | succ k =>
    unfold whGo at w
    refine hc.seq s.ok s.envB w (fun _ _ h => h.at' s) fun t H1 e1 o1 r1 w1 => ?_
    cases t with
    | false => exact (if_neg Bool.false_ne_true).mpr (w1 σ' H1 ⟨L, s.up e1⟩)
    | true =>
      refine (if_pos rfl).mpr ⟨fun σ2 H2 => ∃ ρ2, SRx W Y B σ2 H2 ρ2 ∧ (whGo c b k ρ2).wp (FlP W Y B Dn) (ErrB W E B), fun σ2 H2 h => ⟨k, by omega, h⟩, hb Y B σ' H1 ρ' _ ⟨L, s.up e1⟩ (M.wp_mono (fun f hf => ?_) (fun _ _ h => h) _ ((M.wp_bind _).mp w1))⟩
      cases f with
      | nx ρ2 => exact fun σ2 H3 s3 => ⟨ρ2, s3, hf⟩
      | ct ρ2 => exact fun σ2 H3 s3 => ⟨ρ2, s3, hf⟩
      | bk ρ2 => exact hf
      | rt d => exact hf
      | rs _ _ _ _ => exact hf
theorem SR.ownAt {Y : Addr → Bool} {B : Bases} {σ : L2.St} {H : Hp} {ρ : Env} {L : List (Nat × Addr)} (s : SR W Y B σ H ρ L) {i : Nat} {ds : List D} (h : ρ[i]? = some (.own ds)) : ∃ l xs, σ[i]? = some (some (.ref l)) ∧ (i, l) ∈ L ∧ H l = some (.lst xs) ∧ Dms W (YL Y L) H xs ds := s.sl i _ h
theorem gs_app {i : Nat} (h : GE W E te m) : GS W E (tDrop (tBM K "list" rAppend (tVar i) (tCons te tNil))) (sApp i m) := fun Y B σ H ρ Dn ⟨L, s⟩ w => by
  unfold sApp at w
  split at w
  case h_2 => exact w.elim
  rename_i ds hi
  obtain ⟨l, xs, h1, h2, h3, h4⟩ := s.ownAt hi
  refine ⟨.ref l, h1, .inl ⟨rfl, xs, SqL.of h3⟩, h.runA s w fun d v H1 s1 hv w1 => ?_⟩
  obtain ⟨l', xs', g1, g2, g3, g4⟩ := s1.ownAt hi
  rw [h1] at g1
  cases g1
  split at w1
  · rename_i hz
    have hl := g4.length
    exact ⟨l, xs', v, rfl, rfl, g3, by rw [sizeLine_eq]; omega, w1 σ _ ⟨L, s1.put hi h1 g2 g3 (g4.app (.cons hv .nil))⟩⟩
  · exact w1.elim
theorem gs_ext {i : Nat} (h : GE W E te m) : GS W E (tDrop (tBM K "list" rExtend (tVar i) (tCons te tNil))) (sExt i m) := fun Y B σ H ρ Dn ⟨L, s⟩ w => by
  unfold sExt at w
  split at w
  case h_2 => exact w.elim
  rename_i ds hi
  obtain ⟨l, xs, h1, h2, h3, h4⟩ := s.ownAt hi
  refine ⟨.ref l, h1, .inl ⟨rfl, xs, SqL.of h3⟩, h.runA s w fun d v H1 s1 hv w1 => ?_⟩
  obtain ⟨l', xs', g1, g2, g3, g4⟩ := s1.ownAt hi
  rw [h1] at g1
  cases g1
  cases hv with
  | @lst b zs es hb hz =>
    dsimp only at w1
    split at w1
    · have hl := g4.length
      have hl2 := hz.length
      exact ⟨l, b, xs', zs, rfl, rfl, g3, mask_le _ _ hb, by rw [sizeLine_eq]; omega, w1 σ _ ⟨L, s1.put hi h1 g2 g3 (g4.app hz)⟩⟩
    · exact w1.elim
  | _ => exact w1.elim
def fin : Fl → M D
  | .nx _ => .ret .non
  | .rt d => .ret d
  | _ => .bad
def defM (n np : Nat) (b : Env → M Fl) : List D → M D := fun ds => if ds.length = np then (b (ds.map .dat ++ List.replicate (n - np) .no)).bind fin else .bad
theorem start_sr {Y : Addr → Bool} {H : Hp} {vs : List V} {ds : List D} {N : List Str} (o : Ok W Y H) (h : Dms W Y H vs ds) (hn : ds.length ≤ N.length) : SR W Y ⟨[(H, W.X)], none⟩ (L2.start N vs) H (ds.map .dat ++ List.replicate (N.length - ds.length) .no) [] where
  ok := o
  bs := fun k hk => by
    rw [List.mem_singleton.mp hk]
    exact ⟨fun _ h => h, fun _ _ e _ => e⟩
  len := by
    have := h.length
    simp [L2.start, this]
  fre := fun p hp => nomatch hp
  nd := .nil
  sl := fun i t ht => by
    have hl := h.length
    by_cases hi : i < ds.length
    · rw [List.getElem?_append_left (by simpa using hi), List.getElem?_map, List.getElem?_eq_getElem hi] at ht
      cases ht
      obtain ⟨v, hv, hd⟩ := h.getD (List.getElem?_eq_getElem hi)
      refine ⟨v, ?_, Dm.less hd fun a ha => ?_⟩
      · have hiv : i < vs.length := by omega
        unfold L2.start
        rw [List.getElem?_append_left (by simpa using hiv), List.getElem?_map, hv]
        rfl
      · rcases YL_or ha with h | ⟨p, hp, _⟩
        · exact h
        · cases hp
    · rw [List.getElem?_append_right (by simpa using Nat.le_of_not_lt hi)] at ht
      have := List.mem_of_getElem? ht
      rw [(List.mem_replicate.mp this).2]
      trivial
theorem def_run {N ps : List Str} {Y : Addr → Bool} {H : Hp} {vs : List V} {ds : List D} {Q : VK} {Er : Str → List D → Prop} (h : GS W E ts a) (hN : ps.length ≤ N.length) (o : Ok W Y H) (hd : Dms W Y H vs ds) (w : (defM N.length ps.length a ds).wp (RetP W Y H Q) Er) (hE : ∀ c p, Er c p → ErrP W E H c p) : ts { nx := fun _ H' => Q .non H', rt := Q } (L2.start N vs) H := by
  unfold defM at w
  split at w
  · rename_i hl
    rw [← hl] at w
    refine h Y ⟨[(H, W.X)], none⟩ (L2.start N vs) H _ _ ⟨[], start_sr o hd (by omega)⟩ (M.wp_mono (fun f hf => ?_) (fun c p hc cls ob H' k he => hE c p hc cls ob H' ⟨k.2 (H, W.X) List.mem_cons_self, k.1⟩ he) _ ((M.wp_bind _).mp w))
    have ext : ∀ {H'}, Bok W ⟨[(H, W.X)], none⟩ H' → Ext W H H' := fun k => ⟨k.2 (H, W.X) List.mem_cons_self, k.1⟩
    cases f with
    | nx ρ' => exact fun σ' H' ⟨L, s⟩ => hf .non H' (ext s.bok) .non
    | rt d => exact fun v H' k hv => hf v H' (ext k) hv
    | bk _ => exact hf.elim
    | rs _ _ _ _ => exact hf.elim
    | ct _ => exact hf.elim
  · exact w.elim
theorem defM_len {n np : Nat} {ds : List D} {R : D → Prop} {Er} (w : (defM n np a ds).wp R Er) : ds.length = np := by
  unfold defM at w
  split at w
  · assumption
  · exact w.elim
end
section
variable {P : Program} {w : World} {K : Fg} {mg : Str → Option Value} {base : Heap} {W : Wd K}
theorem ok_defC {x qual : Str} {st : Stmt} {f : Addr} {fd : FuncData} {N ps : List Str} {k : Nat} {a : Env → M Fl} (F : Fun K x qual st f fd) (S : FnScope N ps (defScope st)) (hN : ps.length ≤ N.length)
    (hb : ∀ (cdv : Value) (A : Around) (outer : List PySem.Env) (s : Shared) (H : Hp) (E : XK), Room k (A.deeper (PyProof.Rows.envOfC qual (defScope st) s.heap.objs.size f cdv)) → ∃ t, PSs (cxOf CX0 P w K mg base N qual (defScope st) f cdv A outer s H E).nox (defBody st) t ∧ GS W Cc.E0 t a) :
    FnOk P w K mg base CX0 (k + 1) f fd ps (spC W (defM N.length ps.length a)) := by
  refine F.ok S (fun vs H Q E h => ?_) (fun cdv A outer s H vs Q E hr h => ?_)
  · obtain ⟨Y, ds, o, hd, w⟩ := h
    rw [hd.length]
    exact defM_len w
  · obtain ⟨Y, ds, o, hd, w⟩ := h
    obtain ⟨t, h1, h2⟩ := hb cdv A outer s H E hr
    exact ⟨t, h1, def_run h2 hN o hd w fun _ _ h => h.elim⟩
theorem ok_defM {x qual : Str} {st : Stmt} {f : Addr} {fd : FuncData} {N ps : List Str} {k : Nat} {a : Env → M Fl} (F : Fun K x qual st f fd) (S : FnScope N ps (defScope st)) (hN : ps.length ≤ N.length)
    (hb : ∀ (cdv : Value) (A : Around) (outer : List PySem.Env) (s : Shared) (H : Hp) (E : XK), Room k (A.deeper (PyProof.Rows.envOfC qual (defScope st) s.heap.objs.size f cdv)) → ∃ t, PSs (cxOf (L2.CX P w) P w K mg base N qual (defScope st) f cdv A outer s H E) (defBody st) t ∧ GS W E t a) :
    FnOk P w K mg base (L2.CX P w) (k + 1) f fd ps (spM W (defM N.length ps.length a)) := by
  refine F.okX S (fun vs H Q E h => ?_) (fun cdv A outer s H vs Q E hr h => ?_)
  · obtain ⟨Y, ds, o, hd, w⟩ := h
    rw [hd.length]
    exact defM_len w
  · obtain ⟨Y, ds, o, hd, w⟩ := h
    obtain ⟨t, h1, h2⟩ := hb cdv A outer s H E hr
    exact ⟨t, h1, def_run h2 hN o hd w fun _ _ h => h⟩
end
end Mi

namespace Cc
open PySem PySem.Spec L2 PyProof.Rows
section
variable {X : Cx}
def rSlP : V → Option Int → Option Int → Hp → VK → Prop := fun x lo hi H Q => ∃ a xs, x = .ref a ∧ PlT H a xs ∧
  (HT.sIx xs.length 0 lo = 0 ∧ HT.sIx xs.length xs.length hi = xs.length → Q (.ref a) H) ∧ (¬ (HT.sIx xs.length 0 lo = 0 ∧ HT.sIx xs.length xs.length hi = xs.length) → ∀ p o, H p = none → PlO o → Q (.ref p) (upd H p (.frz o (.tup (cutV xs lo hi)))))
theorem sl_tupP : SlR X rSlP := by
  intro pins s σ H x v vl vu lo hi sl Q I rx hs pl pu h
  obtain ⟨a, xs, rfl, hx, q1, q2⟩ := h
  cases rx
  obtain ⟨its, r, ht, hz⟩ := I.tuple (hx.sq (K := X.K))
  have hlen : its.toArray.size = xs.length := by rw [List.size_toArray]; exact r.length.symm
  refine ⟨"tuple", _, PyProof.Rows.slot_tuple_getitem.lookup, ht.typeIs, ?_⟩
  by_cases hw : HT.sIx xs.length 0 lo = 0 ∧ HT.sIx xs.length xs.length hi = xs.length
  · exact getItem_tuple_whole ht hs pl pu (by rw [hlen]; exact hw) ⟨.ref a, H, I, rfl, q1 hw⟩
  · refine HT.getItem_tuple_cut ht hs pl pu (by rw [hlen]; exact hw) ?_ (by rw [hlen]; exact hz)
    rw [hlen]
    refine ⟨.ref s.heap.objs.size, _, I.laid (t' := s.toks) (o := .frz { cls := .type "tuple", data := .seq ((its.drop (HT.sIx xs.length 0 lo)).take (HT.sIx xs.length xs.length hi - HT.sIx xs.length 0 lo)).toArray } (.tup (cutV xs lo hi))) (fun b ob q => Heap.get?_push_of_some _ q) (Nat.le_refl _) ⟨?_, ?_⟩, rfl, q2 hw _ _ (I.hok.fresh (Nat.le_refl _)) ⟨rfl, rfl⟩⟩
    · exact Heap.get?_push_size _ rfl
    · exact ⟨Nat.le_trans (cutV_length xs lo hi) hz, _, (r.drop (HT.sIx xs.length 0 lo)).take (HT.sIx xs.length xs.length hi - HT.sIx xs.length 0 lo), IsTup.new _ _⟩
def rTupP (K : Fg) : List V → Hp → VK → Prop := fun xs H Q => ∃ p ys, xs = [.ref p] ∧ ((SqL K H p ys ∧ ∀ l o, H l = none → PlO o → Q (.ref l) (upd H l (.frz o (.tup ys)))) ∨ (PlT H p ys ∧ Q (.ref p) H))
theorem call_tupP : CallR X (.type "tuple") (rTupP X.K) := by
  intro pins s σ H xs us Q I r h
  obtain ⟨p, ys, rfl, h⟩ := h
  obtain ⟨u, rfl, rx⟩ := vals1 r
  cases rx
  rcases h with ⟨hq, q⟩ | ⟨hq, q⟩
  · obtain ⟨its, r', pl, hz⟩ := I.list hq
    have hlen := r'.length
    refine call_tuple_list pl.isList (fun h' kp => ?_) (by simp only [List.size_toArray] <;> omega)
    have I1 : Inv X pins σ H { s with heap := h' } := I.kept (t' := s.toks) kp
    have I2 : Inv X pins σ (upd H h'.objs.size (.frz { cls := .type "tuple", data := .seq its.toArray } (.tup ys))) { s with heap := h'.push { cls := .type "tuple", data := .seq its.toArray } } :=
      I1.laid (t' := s.toks) (fun b o e => Heap.get?_push_of_some _ e) (Nat.le_refl _) ⟨Heap.get?_push_size _ rfl, hz, its, r', IsTup.new _ _⟩
    exact ⟨.ref h'.objs.size, _, I2, rfl, q _ _ (I1.hok.fresh (Nat.le_refl _)) ⟨rfl, rfl⟩⟩
  · obtain ⟨its, r', pl, hz⟩ := I.tuple (hq.sq (K := X.K))
    exact call_tuple_same pl ⟨.ref p, H, I, rfl, q⟩
theorem tupPK (K : Fg) (h : X.K = K := by rfl) : CallR X (.type "tuple") (rTupP K) := h ▸ call_tupP
def tTupRgP (te : L2.St → Hp → (Int → Int → Hp → Prop) → Prop) : TE := fun σ H Q => te σ H fun a b H1 => RgOk a b ∧ ∀ q o, H1 q = none → PlO o → Q (.ref q) (upd H1 q (.frz o (.tup (rgV a b))))
theorem pe_tupRgP {e : Expr} {te : L2.St → Hp → (Int → Int → Hp → Prop) → Prop} {p pos : Pos} (hc : X.calm = true) (hg : Gl X "tuple") (hm : X.mg "tuple" = none) (he : PRg X e te) (na : starEach [e] X.env = (false, eval e X.env) :: starEach [] X.env := by rfl) : PE X (.Call (.Name "tuple" p) [e] [] pos) (tTupRgP te) := by
  refine ⟨fun pins s σ H Q I h => ?_⟩
  refine Call_ (ld_blt I hg hm boot_tuple (PyProof.Rows.callWith_type1 (args_cons (thn (he pins s σ H _ I h) fun x s1 ⟨r, a, b, t, u, v, H1, ex, hr, I1, ok, q⟩ => args_nil ?_) na) na))
  subst ex
  obtain ⟨b1, b2, b3, b4, b5⟩ := ok
  refine call_tuple_range (n := (b - a).toNat) (I1.ok.hd hc) hr (small_one b1 b2 b3 b4) (rangeSize_nat a b) b5 fun h' tk acc hk hi => ?_
  have I2 : Inv X pins σ H1 { s1 with heap := h', toks := tk } := I1.kept hk
  refine ⟨.ref h'.objs.size, upd H1 h'.objs.size (.frz { cls := .type "tuple", data := .seq acc } (.tup (rgV a b))), I2.laid (t' := tk) (fun c o e => Heap.get?_push_of_some _ e) (Nat.le_refl _) ⟨Heap.get?_push_size _ rfl, ?_, acc.toList, vals_rg hi, ?_⟩, rfl, q _ _ (I2.hok.fresh (Nat.le_refl _)) ⟨rfl, rfl⟩⟩
  · rw [rgV_length, sizeLine_eq]; omega
  · rw [Array.toArray_toList]; exact IsTup.new _ _
end
end Cc

namespace Mi
open PySem L2 Cc RZ
def fI (g : Int → Int → D) : D → D → Option D
  | .int i, .int j => some (g i j)
  | _, _ => none
def fIc (c : Int → Int → Bool) (g : Int → Int → D) : D → D → Option D
  | .int i, .int j => if c i j then some (g i j) else none
  | _, _ => none
abbrev fAdd := fI fun i j => .int (i + j)
abbrev fSub := fI fun i j => .int (i - j)
def cMod (_ j : Int) : Bool := decide (0 < j)
abbrev fMod := fIc cMod fun i j => .int (i % j)
abbrev fLt := fI fun i j => .bl (decide (i < j))
abbrev fLe := fI fun i j => .bl (decide (i ≤ j))
abbrev fGt := fI fun i j => .bl (decide (j < i))
abbrev fGe := fI fun i j => .bl (decide (j ≤ i))
section
variable {K : Fg} {W : Wd K}
theorem fI_some {g : Int → Int → D} {d e z : D} (h : fI g d e = some z) : ∃ i j, d = .int i ∧ e = .int j ∧ z = g i j := by
  unfold fI at h
  split at h
  · cases h; exact ⟨_, _, rfl, rfl, rfl⟩
  · cases h
theorem r2_I {g : Int → Int → Int} : R2M W (rI0 fun i j => .int (g i j)) (fI fun i j => .int (g i j)) := .of fun d e z h => by
  obtain ⟨i, j, rfl, rfl, rfl⟩ := fI_some h
  exact ⟨r_int, rfl, rfl⟩
theorem r2_B {g : Int → Int → Bool} : R2M W (rI0 fun i j => .bl (g i j)) (fI fun i j => .bl (g i j)) := .of fun d e z h => by
  obtain ⟨i, j, rfl, rfl, rfl⟩ := fI_some h
  exact ⟨r_intB, rfl, rfl⟩
theorem r2_C {C : Int → Int → Prop} {c : Int → Int → Bool} {g : Int → Int → Int} (hc : ∀ i j, c i j = true → C i j) : R2M W (rI C fun i j => .int (g i j)) (fIc c fun i j => .int (g i j)) := .of fun d e z h => by
  unfold fIc at h
  split at h
  · split at h
    · rename_i k; cases h; exact ⟨r_intC (hc _ _ k), rfl, rfl⟩
    · cases h
  · cases h
theorem r2_add : R2M W (rI0 fun i j => .int (i + j)) fAdd := r2_I
theorem r2_sub : R2M W (rI0 fun i j => .int (i - j)) fSub := r2_I
theorem r2_mod : R2M W (rI (fun _ j => 0 < j) fun i j => .int (i % j)) fMod := r2_C fun i j h => by simpa [cMod] using h
def fNeg : D → Option D
  | .int i => some (.int (-i))
  | _ => none
theorem r1_neg : R1M W (rU fun i => .int (-i)) fNeg := .of fun d z h => by
  unfold fNeg at h
  split at h
  · cases h; exact ⟨r_neg, rfl, rfl⟩
  · cases h
def fS (g : Str → Str → D) : D → D → Option D
  | .str i, .str j => some (g i j)
  | _, _ => none
abbrev fLtS := fS fun i j => .bl (decide (i.cps.toList < j.cps.toList))
theorem r2_S {g : Str → Str → Bool} : R2M W (fun x y H Q => ∃ i j, x = .str i ∧ y = .str j ∧ Q (.bl (g i j)) H) (fS fun i j => .bl (g i j)) := .of fun d e z h => by
  unfold fS at h
  split at h
  · cases h
    exact ⟨fun x y H Q hx hy q => by cases hx; cases hy; exact ⟨_, _, rfl, rfl, q _ H (Same.refl _) (.bl _)⟩, rfl, rfl⟩
  · cases h
def sg1 (x : Str) : Option Nat := match x.cps.toList with
  | [c] => some c
  | _ => none
theorem sg1_some {x : Str} {c : Nat} (h : sg1 x = some c) : x = ⟨#[c]⟩ := by
  unfold sg1 at h
  split at h
  · rename_i e
    cases h
    cases x
    rename_i a
    have : a = #[c] := by
      apply Array.toList_inj.mp
      exact e
    rw [this]
  · cases h
def fInS (neg : Bool) : D → D → Option D
  | .str x, .str z => match sg1 x with
    | some c => some (.bl (if neg then !decide (c ∈ z.cps.toList) else decide (c ∈ z.cps.toList)))
    | none => none
  | _, _ => none
theorem r2_inS : R2M W (fun x y H Q => ∃ (c : Nat) (z : Str), x = .str ⟨#[c]⟩ ∧ y = .str z ∧ Q (.bl (decide (c ∈ z.cps.toList))) H) (fInS false) := .of fun d e z h => by
  unfold fInS at h
  split at h
  · split at h
    · rename_i c hc
      cases h
      rw [sg1_some hc]
      exact ⟨r_sign, rfl, rfl⟩
    · cases h
  · cases h
def fEq (d e : D) : Option D := if d.pl && e.pl && d.shp && e.shp then some (.bl (d.eqv e)) else none
def fNe (d e : D) : Option D := if d.pl && e.pl && d.shp && e.shp then some (.bl (!d.eqv e)) else none
theorem r2_eq : R2M W (rEqD K) fEq := .of fun d e z h => by
  unfold fEq at h
  split at h
  · rename_i k
    simp only [Bool.and_eq_true] at k
    cases h
    exact ⟨r_eq k.1.1.1 k.1.1.2 k.1.2 k.2, rfl, rfl⟩
  · cases h
theorem r2_ne : R2M W (rNeD K) fNe := .of fun d e z h => by
  unfold fNe at h
  split at h
  · rename_i k
    simp only [Bool.and_eq_true] at k
    cases h
    exact ⟨r_ne k.1.1.1 k.1.1.2 k.1.2 k.2, rfl, rfl⟩
  · cases h
def isN : D → Bool
  | .non => true
  | _ => false
def fNotN : D → D → Option D
  | d, .non => some (.bl (!isN d))
  | _, _ => none
theorem r2_notN : R2M W (fun x y H Q => y = .non ∧ Q (.bl (!decide (x = .non))) H) fNotN := .of fun d e z h => by
  unfold fNotN at h
  split at h
  · cases h
    refine ⟨fun x y H Q hx hy q => r_notN (K := K) x y H Q hx hy fun v H2 e2 hv => q v H2 e2 ?_, rfl, rfl⟩
    cases d <;> exact hv
  · cases h
def D.sc : D → Bool
  | .non => true
  | .bl _ => true
  | .int _ => true
  | .str _ => true
  | _ => false
def D.toV : D → V
  | .bl b => .bl b
  | .int i => .int i
  | .str x => .str x
  | _ => .non
theorem sc_v {H : Hp} {v : V} {d : D} (h : Dn K H v d) (k : Mi.D.sc d = true) : v = Mi.D.toV d ∧ flatV v = true := by
  cases h <;> first | exact ⟨rfl, rfl⟩ | cases k
theorem sc_vs {H : Hp} : ∀ {vs : List V} {ds : List D}, Dns K H vs ds → ds.all Mi.D.sc = true → vs = ds.map Mi.D.toV ∧ vs.all flatV = true
  | _, _, .nil, _ => ⟨rfl, rfl⟩
  | _, _, .cons h t, k => by
    simp only [List.all_cons, Bool.and_eq_true] at k
    obtain ⟨h1, h2⟩ := sc_v h k.1
    obtain ⟨t1, t2⟩ := sc_vs t k.2
    exact ⟨by rw [List.map_cons, ← h1, ← t1], by rw [List.all_cons, h2, t2]; rfl⟩
def items : D → Option (List D)
  | .lst ds => some ds
  | .tup ds => some ds
  | .ptup ds => some ds
  | _ => none
theorem items_some {H : Hp} {v : V} {d : D} {ds : List D} (h : Dn K H v d) (k : items d = some ds) : ∃ a xs, v = .ref a ∧ Dns K H xs ds ∧ (SqL K H a xs ∨ SqT K H a xs) := by
  cases h with
  | @lst a xs _ hs ha => cases k; exact ⟨a, xs, rfl, ha, .inl (SqL.of hs)⟩
  | @tup a xs _ hs ha => cases k; exact ⟨a, xs, rfl, ha, .inr hs⟩
  | @ptup a xs _ hs ha => cases k; exact ⟨a, xs, rfl, ha, .inr hs.sq⟩
  | _ => cases k
def fIn (neg : Bool) (d e : D) : Option D := match items e with
  | some ds => if Mi.D.sc d && ds.all Mi.D.sc then some (.bl (if neg then !inV (Mi.D.toV d) (ds.map Mi.D.toV) else inV (Mi.D.toV d) (ds.map Mi.D.toV))) else none
  | none => none
theorem r2_in {neg : Bool} : R2M W (rIn K neg) (fIn neg) := .of fun d e z h => by
  unfold fIn at h
  split at h
  · rename_i ds hi
    split at h
    · rename_i k
      simp only [Bool.and_eq_true] at k
      cases h
      refine ⟨fun x y H Q hx hy q => ?_, rfl, rfl⟩
      obtain ⟨a, xs, rfl, hd, hs⟩ := items_some hy hi
      obtain ⟨e1, f1⟩ := sc_v hx k.1
      obtain ⟨e2, f2⟩ := sc_vs hd k.2
      exact ⟨a, xs, rfl, hs, f1, f2, by rw [e1, e2]; exact q _ H (Same.refl _) (.bl _)⟩
    · cases h
  · cases h
def fIx : D → D → Option D
  | .lst ds, .int i => atI ds i
  | .tup ds, .int i => atI ds i
  | .ptup ds, .int i => atI ds i
  | .str w, .int i => if w.length ≤ 100000 then (match atI w.cps.toList i with
    | some c => some (.str ⟨#[c]⟩)
    | none => none) else none
  | _, _ => none
theorem at_dns {H : Hp} {xs : List V} {ds : List D} {i : Int} {z : D} (ha : Dns K H xs ds) (h : atI ds i = some z) : ∃ v, atI xs i = some v ∧ Dn K H v z := by
  have hl := ha.length
  unfold atI at h ⊢
  rw [hl]
  cases hj : ixN ds.length i with
  | none => rw [hj] at h; cases h
  | some j =>
    rw [hj] at h
    exact ha.getD (i := j) h
def fIxL : D → D → Option D
  | .lst ds, .int i => atI ds i
  | _, _ => none
def fIxT : D → D → Option D
  | .tup ds, .int i => atI ds i
  | .ptup ds, .int i => atI ds i
  | _, _ => none
theorem r2_ixL : R2M W (rIxL K) fIxL := fun Y H x y d e z Q o hx hy h q => by
  unfold fIxL at h
  split at h
  · cases hy
    cases hx with
    | @lst a xs _ hs ha =>
      obtain ⟨v, h1, h2⟩ := at_dns ha h
      exact ⟨a, xs, _, v, rfl, rfl, SqL.of (mask_le _ _ hs), h1, q v H (.refl o.1) h2⟩
  · cases h
theorem r2_ixT : R2M W (rIxT K) fIxT := fun Y H x y d e z Q o hx hy h q => by
  unfold fIxT at h
  split at h
  · cases hy
    cases hx with
    | @tup a xs _ hs ha =>
      obtain ⟨v, h1, h2⟩ := at_dns ha h
      exact ⟨a, xs, _, v, rfl, rfl, same_t mask_le hs, h1, q v H (.refl o.1) h2⟩
  · cases hy
    cases hx with
    | @ptup a xs _ hs ha =>
      obtain ⟨v, h1, h2⟩ := at_dns ha h
      exact ⟨a, xs, _, v, rfl, rfl, same_t mask_le hs.sq, h1, q v H (.refl o.1) h2⟩
  · cases h
theorem r2_ix : R2M W (rIx K) fIx := fun Y H x y d e z Q o hx hy h q => by
  unfold fIx at h
  split at h
  · exact .inl (r2_ixL Y H x y _ _ z Q o hx hy h q)
  · exact .inr (.inl (r2_ixT Y H x y _ _ z Q o hx hy h q))
  · exact .inr (.inl (r2_ixT Y H x y _ _ z Q o hx hy h q))
  · cases hy; cases hx
    split at h
    · rename_i hl
      split at h
      · rename_i c hc
        cases h
        exact .inr (.inr ⟨_, _, c, rfl, rfl, by rw [sizeLine_eq]; omega, hc, q _ H (.refl o.1) (.str _)⟩)
      · cases h
    · cases h
  · cases h
def fCatL : D → D → Option (List D)
  | .lst ds, .lst es => if ds.length + es.length ≤ 100000 then some (ds ++ es) else none
  | _, _ => none
theorem r2_catL : R2N W rCat fCatL := fun Y H x y d e z Q o hx hy h q => by
  unfold fCatL at h
  split at h
  · split at h
    · rename_i hl
      cases h
      cases hx with
      | @lst a xs _ hs ha =>
        cases hy with
        | @lst b ys _ hs2 hb =>
          have l1 := ha.length
          have l2 := hb.length
          exact ⟨a, b, xs, ys, rfl, rfl, mask_le _ _ hs, mask_le _ _ hs2, by rw [sizeLine_eq]; omega, fun p hp => q p _ _ (.of o.1 (Same.new hp)) hp upd_same (Dms.fresh (ha.app hb) o hp)⟩
    · cases h
  · cases h
def fCatT : D → D → Option D
  | .ptup ds, .ptup es => if ds.length + es.length ≤ 100000 then some (.ptup (ds ++ es)) else none
  | _, _ => none
theorem plT_le {Y : Addr → Bool} {H : Hp} {a : Addr} {xs : List V} (h : PlT (mask W Y H) a xs) : PlT H a xs := by
  obtain ⟨o, h1, h2⟩ := h
  exact ⟨o, h1, mask_le _ _ h2⟩
theorem new_pt {Y : Addr → Bool} {H : Hp} {p : Addr} {ob : Obj} {xs : List V} {ds : List D} (o : Ok W Y H) (hp : H p = none) (ho : PlO ob) (h : Dms W Y H xs ds) : Dm W Y (upd H p (.frz ob (.tup xs))) (.ref p) (.ptup ds) := .ptup ⟨ob, ho, mask_at upd_same (o.fresh hp) fun _ _ _ z => nomatch z⟩ (h.up o (.of o.1 (Same.new hp)))
theorem r2_catT : R2M W rCatP fCatT := fun Y H x y d e z Q o hx hy h q => by
  unfold fCatT at h
  split at h
  · split at h
    · rename_i hl
      cases h
      cases hx with
      | @ptup a xs ds hs ha =>
        cases hy with
        | @ptup b ys es hs2 hb =>
          have l1 := ha.length
          have l2 := hb.length
          refine ⟨a, b, xs, ys, rfl, rfl, plT_le hs, plT_le hs2, by rw [sizeLine_eq]; omega, fun e => ?_, fun _ e => ?_, fun _ _ p ob hp ho => q _ _ (.of o.1 (Same.new hp)) (new_pt o hp ho (ha.app hb))⟩
          · subst e
            cases ha
            exact q _ H (.refl o.1) (.ptup hs2 hb)
          · subst e
            cases hb
            rw [List.append_nil] at q
            exact q _ H (.refl o.1) (.ptup hs ha)
    · cases h
  · cases h
def fRepL : D → D → Option (List D)
  | .lst ds, .int k => if 0 ≤ k ∧ k ≤ 1000 ∧ ds.length ≤ 100 then some (List.replicate k.toNat ds).flatten else none
  | _, _ => none
theorem r2_repL : R2N W rRep fRepL := fun Y H x y d e z Q o hx hy h q => by
  unfold fRepL at h
  split at h
  · split at h
    · rename_i hl
      cases h
      cases hy
      cases hx with
      | @lst a xs ds hs ha =>
        have l1 := ha.length
        refine ⟨a, _, xs, rfl, rfl, mask_le _ _ hs, by omega, by omega, ?_, fun p hp => q p _ _ (.of o.1 (Same.new hp)) hp upd_same (Dms.fresh (Dns.rep ha _) o hp)⟩
        have : xs.length * Int.toNat ‹Int› ≤ 100 * 1000 := Nat.mul_le_mul (by omega) (by omega)
        rw [sizeLine_eq]; omega
    · cases h
  · cases h
end
end Mi

namespace Mi
open PySem L2 Cc RZ
section
variable {K : Fg} {W : Wd K} {E : XK}
def lenD : D → Option Nat
  | .lst ds => some ds.length
  | .tup ds => some ds.length
  | .ptup ds => some ds.length
  | .str x => some x.length
  | _ => none
def fLen : List D → Option D
  | [d] => match lenD d with
    | some n => if n ≤ 100000 then some (.int (n : Nat)) else none
    | none => none
  | _ => none
theorem rc_len : RCM W (Cc.rLen K) fLen := .of fun ds z h => by
  unfold fLen at h
  split at h
  · rename_i d
    split at h
    · rename_i n hn
      split at h
      · rename_i hz
        cases h
        refine ⟨fun vs H Q hv q => ?_, rfl, rfl⟩
        obtain ⟨v, rfl, hw⟩ := hv.un1
        refine ⟨v, n, rfl, ?_, q _ H (Same.refl _) (.int _)⟩
        cases hw with
        | str x => cases hn; exact ⟨by rw [sizeLine_eq]; omega, rfl⟩
        | lst hs ha => cases hn; exact .inl ⟨_, SqL.of hs, ha.length.symm⟩
        | tup hs ha => cases hn; exact .inr ⟨_, hs, ha.length.symm⟩
        | ptup hs ha => cases hn; exact .inr ⟨_, hs.sq, ha.length.symm⟩
        | _ => cases hn
      · cases h
    · cases h
  · cases h
def intsO : List D → Option (List Int)
  | [] => some []
  | .int i :: ds => match intsO ds with
    | some ns => some (i :: ns)
    | none => none
  | _ => none
theorem intsO_some : ∀ {ds : List D} {ns : List Int}, intsO ds = some ns → ds = ns.map D.int
  | [], ns, h => by cases h; rfl
  | d :: ds, ns, h => by
    unfold intsO at h
    split at h
    · rename_i e; cases e
    · rename_i i ds' e
      cases e
      split at h
      · rename_i ms hm
        cases h
        rw [intsO_some hm]; rfl
      · cases h
    · cases h
def blsO : List D → Option (List Bool)
  | [] => some []
  | .bl i :: ds => match blsO ds with
    | some ns => some (i :: ns)
    | none => none
  | _ => none
theorem blsO_some : ∀ {ds : List D} {ns : List Bool}, blsO ds = some ns → ds = ns.map D.bl
  | [], ns, h => by cases h; rfl
  | d :: ds, ns, h => by
    unfold blsO at h
    split at h
    · rename_i e; cases e
    · rename_i i ds' e
      cases e
      split at h
      · rename_i ms hm
        cases h
        rw [blsO_some hm]; rfl
      · cases h
    · cases h
theorem blsO_map (ns : List Bool) : blsO (ns.map D.bl) = some ns := by
  induction ns with
  | nil => rfl
  | cons n ns ih => simp [blsO, ih]
def fSum : List D → Option D
  | [.lst ds] => match intsO ds with
    | some ns => some (.int ns.sum)
    | none => none
  | _ => none
theorem rc_sum : RCM W (rSum K) fSum := .of fun ds z h => by
  unfold fSum at h
  split at h
  · split at h
    · rename_i ns hn
      cases h
      rw [intsO_some hn]
      exact ⟨Cc.rc_sum, rfl, rfl⟩
    · cases h
  · cases h
def fAll : List D → Option D
  | [.lst ds] => match blsO ds with
    | some ns => some (.bl (ns.all id))
    | none => none
  | _ => none
theorem rc_all : RCM W (rAll K) fAll := .of fun ds z h => by
  unfold fAll at h
  split at h
  · split at h
    · rename_i ns hn
      cases h
      rw [blsO_some hn]
      exact ⟨Cc.rc_all, rfl, rfl⟩
    · cases h
  · cases h
def fI2 (g : Int → Int → Int) : List D → Option D
  | [.int i, .int j] => some (.int (g i j))
  | _ => none
abbrev fMin2 := fI2 min
theorem rc_min2 : RCM W (fun xs H Q => ∃ i j, xs = [.int i, .int j] ∧ Q (.int (if j < i then j else i)) H) fMin2 := .of fun ds z h => by
  unfold fMin2 fI2 at h
  split at h
  · cases h; exact ⟨Cc.rc_min2, rfl, rfl⟩
  · cases h
def fInt : List D → Option D
  | [.int i] => some (.int i)
  | [.bl b] => some (.int (if b then 1 else 0))
  | _ => none
theorem rc_int : RCM W (fun xs H Q => (∃ i, xs = [.int i] ∧ Q (.int i) H) ∨ ∃ k, xs = [.bl k] ∧ Q (.int (if k then 1 else 0)) H) fInt := .of fun ds z h => by
  unfold fInt at h
  split at h
  · cases h; exact ⟨Cc.rc_int, rfl, rfl⟩
  · cases h; exact ⟨Cc.rc_intB, rfl, rfl⟩
  · cases h
def mIsT (n : String) (a : Env → M D) : Env → M D := fun ρ => (a ρ).bind fun d => if d.noob then .ret (.bl (d.isT n)) else .bad
theorem ge_isT {te : TE} {a : Env → M D} {n : String} (ha : GE W E te a) (hn : n = "int" ∨ n = "bool" ∨ n = "str" ∨ n = "list" ∨ n = "tuple" := by decide) : GE W E (tCB (rIsi K) (tCons te (tCons (tC (.ty n)) tNil))) (mIsT n a) := fun Y σ H ρ Q o e w =>
  ha.seq o e w (fun _ _ h => h) fun d x H1 e1 o1 r1 hx w1 => by
    split at w1
    · rename_i k
      exact ⟨x, .ty n, .type d.ty, .type n, _, rfl, .ty n, tyx_of k (Dm.un hx), kit_ty (kit_isT k n hn), w1 _ H1 e1 (.bl _)⟩
    · exact w1.elim
def fTup : List D → Option D
  | [.lst ds] => some (.ptup ds)
  | [.ptup ds] => some (.ptup ds)
  | _ => none
theorem rc_tup : RCM W (rTupP K) fTup := fun Y H vs ds z Q o hv h q => by
  unfold fTup at h
  split at h
  · cases h
    obtain ⟨v, rfl, hw⟩ := hv.un1
    cases hw with
    | @lst a xs _ hs ha => exact ⟨a, xs, rfl, .inl ⟨SqL.of (mask_le _ _ hs), fun l ob hl ho => q _ _ (.of o.1 (Same.new hl)) (new_pt o hl ho ha)⟩⟩
  · cases h
    obtain ⟨v, rfl, hw⟩ := hv.un1
    cases hw with
    | @ptup a xs _ hs ha => exact ⟨a, xs, rfl, .inr ⟨plT_le hs, q _ H (.refl o.1) (.ptup hs ha)⟩⟩
  · cases h
def fList : List D → Option (List D)
  | [d] => items d
  | _ => none
theorem rc_list : RCN W (rLst K) fList := fun Y H vs ds z Q o hv h q => by
  unfold fList at h
  split at h
  · obtain ⟨v, rfl, hw⟩ := hv.un1
    obtain ⟨a, xs, rfl, ha, hs⟩ := items_some hw h
    exact ⟨a, xs, rfl, hs.imp (fun h => same_l mask_le h) (fun h => same_t mask_le h), fun l hl => q l xs _ (.of o.1 (Same.new hl)) hl upd_same (Dms.fresh ha o hl)⟩
  · cases h
def mSlT (a : Env → M D) (lo hi : Env → M (Option Int)) : Env → M D := fun ρ => (a ρ).bind fun d => (lo ρ).bind fun l => (hi ρ).bind fun u => match d with
  | .ptup ds => .ret (.ptup (cutD ds l u))
  | _ => .bad
def mSlL (a : Env → M D) (lo hi : Env → M (Option Int)) : Env → M (List D) := fun ρ => (a ρ).bind fun d => (lo ρ).bind fun l => (hi ρ).bind fun u => match d with
  | .lst ds => .ret (cutD ds l u)
  | _ => .bad
theorem GO.seq {α : Type} {to : TO} {m : Env → M (Option Int)} {Y : Addr → Bool} {σ : L2.St} {H : Hp} {ρ : Env} {f : Option Int → M α} {R : α → Prop} {Er : Str → List D → Prop} {Q : Option Int → Hp → Prop} (h : GO W E to m) (o : Ok W Y H) (e : EnvR W (mask W Y H) σ ρ) (w : ((m ρ).bind f).wp R Er) (hE : ∀ c p, Er c p → ErrP W E H c p)
    (k : ∀ b H1, Ext W H H1 → Ok W Y H1 → EnvR W (mask W Y H1) σ ρ → (f b).wp R Er → Q b H1) : to σ H Q :=
  h Y σ H ρ Q o e (M.wp_mono (fun b hd H1 e1 => k b H1 e1 (o.ext e1) (e.up o e1) hd) hE _ ((M.wp_bind _).mp w))
theorem ge_slT {te : TE} {tl th : TO} {a : Env → M D} {lo hi : Env → M (Option Int)} (ha : GE W E te a) (hl : GO W E tl lo) (hh : GO W E th hi) : GE W E (tSl rSlP te tl th) (mSlT a lo hi) := fun Y σ H ρ Q o e w =>
  ha.seq o e w (fun _ _ h => h) fun d x H1 e1 o1 r1 hx w1 => hl.seq (Er := ErrP W E H) o1 r1 w1 (fun _ _ h => h.up e1) fun l H2 e2 o2 r2 w2 => hh.seq (Er := ErrP W E H) o2 r2 w2 (fun _ _ h => h.up (e1.trans e2)) fun u H3 e3 o3 r3 w3 => by
    have e13 := (e1.trans e2).trans e3
    have hx3 := (hx.up o1 e2).up o2 e3
    cases hx3 with
    | @ptup a xs ds hs hd =>
      refine ⟨a, xs, rfl, plT_le hs, fun hw => ?_, fun _ p ob hp ho => w3 _ _ (e13.trans (.of o3.1 (Same.new hp))) (new_pt o3 hp ho (cut_dns hd l u))⟩
      have he : cutD ds l u = ds := by
        unfold cutD
        rw [hd.length] at hw
        rw [hw.1, hw.2, List.drop_zero, Nat.sub_zero, List.take_length]
      have w3' : RetP W Y H Q (.ptup (cutD ds l u)) := w3
      rw [he] at w3'
      exact w3' _ H3 e13 (.ptup hs hd)
    | _ => exact w3.elim
theorem gn_slL {te : TE} {tl th : TO} {a : Env → M D} {lo hi : Env → M (Option Int)} (ha : GE W E te a) (hl : GO W E tl lo) (hh : GO W E th hi) : GN W E (tSl (rSlL K) te tl th) (mSlL a lo hi) := fun Y σ H ρ Q o e w =>
  ha.seq o e w (fun _ _ h => h) fun d x H1 e1 o1 r1 hx w1 => hl.seq (Er := ErrP W E H) o1 r1 w1 (fun _ _ h => h.up e1) fun l H2 e2 o2 r2 w2 => hh.seq (Er := ErrP W E H) o2 r2 w2 (fun _ _ h => h.up (e1.trans e2)) fun u H3 e3 o3 r3 w3 => by
    have e13 := (e1.trans e2).trans e3
    have hx3 := (hx.up o1 e2).up o2 e3
    cases hx3 with
    | @lst a xs ds hs hd => exact ⟨a, xs, rfl, SqL.of (mask_le _ _ hs), fun p hp => w3 p _ _ (e13.trans (.of o3.1 (Same.new hp))) (e13.free o.1 hp) upd_same (Dms.fresh (cut_dns hd l u) o3 hp)⟩
    | _ => exact w3.elim
def rgD (lo hi : Int) : List D := (List.range (hi - lo).toNat).map fun k => .int (lo + (k : Nat))
def rgOk (i j : Int) : Bool := decide (-1000000 ≤ i) && decide (i ≤ 1000000) && decide (-1000000 ≤ j) && decide (j ≤ 1000000)
theorem rg_ok {i j : Int} (h : rgOk i j = true) : RgOk i j := by
  simp only [rgOk, Bool.and_eq_true, decide_eq_true_eq] at h
  unfold RgOk
  omega
def rg1 (a : Env → M D) : Env → M (List D) := fun ρ => (a ρ).bind fun d => match d with
  | .int i => if rgOk 0 i then .ret (rgD 0 i) else .bad
  | _ => .bad
def rg2 (a b : Env → M D) : Env → M (List D) := fun ρ => (a ρ).bind fun d => (b ρ).bind fun e => match d, e with
  | .int i, .int j => if rgOk i j then .ret (rgD i j) else .bad
  | _, _ => .bad
def mPt (mi : Env → M (List D)) : Env → M D := fun ρ => (mi ρ).bind fun ds => .ret (.ptup ds)
theorem rgV_dns {H : Hp} (i j : Int) : Dns K H (rgV i j) (rgD i j) := Dns.of (fun k => .int _) _
theorem ge_tupRg2 {ta tb : TE} {a b : Env → M D} (ha : GE W E ta a) (hb : GE W E tb b) : GE W E (tTupRgP (tRg2 ta tb)) (mPt (rg2 a b)) := fun Y σ H ρ Q o e w => by
  unfold mPt rg2 at w
  rw [M.bind_assoc] at w
  refine ha.seq o e w (fun _ _ h => h) fun d x H1 e1 o1 r1 hx w1 => ?_
  rw [M.bind_assoc] at w1
  refine hb.seq (Er := ErrP W E H) o1 r1 w1 (fun _ _ h => h.up e1) fun d2 y H2 e2 o2 r2 hy w2 => ?_
  cases hx with
  | int i =>
    cases hy with
    | int j =>
      dsimp only at w2
      split at w2
      · rename_i k
        exact ⟨i, j, rfl, rfl, rg_ok k, fun p ob hp ho => w2 _ _ ((e1.trans e2).trans (.of o2.1 (Same.new hp))) (new_pt o2 hp ho (rgV_dns i j))⟩
      · exact w2.elim
    | _ => exact w2.elim
  | _ => exact w2.elim
theorem ge_tupRg1 {ta : TE} {a : Env → M D} (ha : GE W E ta a) : GE W E (tTupRgP (tRg1 ta)) (mPt (rg1 a)) := fun Y σ H ρ Q o e w => by
  unfold mPt rg1 at w
  rw [M.bind_assoc] at w
  refine ha.seq o e w (fun _ _ h => h) fun d x H1 e1 o1 r1 hx w1 => ?_
  cases hx with
  | int i =>
    dsimp only at w1
    split at w1
    · rename_i k
      exact ⟨i, rfl, rg_ok k, fun p ob hp ho => w1 _ _ (e1.trans (.of o1.1 (Same.new hp))) (new_pt o1 hp ho (rgV_dns 0 i))⟩
    · exact w1.elim
  | _ => exact w1.elim
theorem gr_range1 {ta : TA} {a : Env → M D} {te : TE} (ha : GE W E te a) (hta : ta = tCons te tNil := by rfl) : GR W E (iRng1 ta) (rg1 a) := fun Y σ H ρ R o e w => by
  subst hta
  refine ha.seq o e w (fun _ _ h => h) fun d x H1 e1 o1 r1 hx w1 => ?_
  cases hx with
  | int i =>
    dsimp only at w1
    split at w1
    · rename_i k
      simp only [rgOk, Bool.and_eq_true, decide_eq_true_eq] at k
      refine ⟨i, rfl, by omega, by omega, w1 0 i.toNat H1 e1 ?_⟩
      simp [rgD]
    · exact w1.elim
  | _ => exact w1.elim
theorem gi_range1 {te : TE} {a : Env → M D} (ha : GE W E te a) : GI W E (iRng1 (tCons te tNil)) (rg1 a) := fun Y σ H ρ R o e w => by
  refine gr_range1 ha rfl Y σ H ρ R o e (M.wp_mono (fun ds hd lo n H2 e2 he => ?_) (fun _ _ h => h) _ w)
  subst he
  refine hd (Itr lo n) (fun _ => True) (YFn fun i => .int (lo + i)) H2 e2 (by simpa using walk_range (lo := lo) (n := n)) (fun _ _ => trivial) fun i Ha x Hb Y' hi _ _ _ y => ?_
  obtain ⟨e', y⟩ := y
  subst e' y
  have hin : i < n := by simpa using hi
  exact ⟨.refl _, .int (lo + (i : Nat)), by simp [hin], .int _⟩
def iL (a : Env → M D) : Env → M (List D) := fun ρ => (a ρ).bind fun d => match d with
  | .lst ds => .ret ds
  | _ => .bad
def iT (a : Env → M D) : Env → M (List D) := fun ρ => (a ρ).bind fun d => match d with
  | .tup ds => .ret ds
  | .ptup ds => .ret ds
  | _ => .bad
def iS (a : Env → M D) : Env → M (List D) := fun ρ => (a ρ).bind fun d => match d with
  | .str x => .ret (signs x)
  | _ => .bad
theorem sqL_st {Y : Addr → Bool} {H H' : Hp} {a : Addr} {xs : List V} (h : mask W Y H a = some (.lst xs)) (s : St Y H H') : SqL K H' a xs := by
  have hy : Y a = false := by
    cases z : Y a with
    | false => rfl
    | true => unfold mask at h; rw [if_pos z] at h; cases h
  exact SqL.of (s a _ (mask_le _ _ h) hy)
theorem sqT_st {Y : Addr → Bool} {H H' : Hp} {a : Addr} {xs : List V} (h : SqT K (mask W Y H) a xs) (s : St Y H H') : SqT K H' a xs := same_t ((mask_st (W := W) s).trans mask_le) h
theorem gi_list {te : TE} {a : Env → M D} (ha : GE W E te a) : GI W E (iList K te) (iL a) := fun Y σ H ρ R o e w =>
  ha.seq o e w (fun _ _ h => h) fun d x H1 e1 o1 r1 hx w1 => by
    cases hx with
    | @lst a xs ds hs hd =>
      refine ⟨a, rfl, ⟨xs, SqL.of (mask_le _ _ hs)⟩, w1 _ (fun H' => SqL K H' a xs) (YAt xs) H1 e1 (by rw [← hd.length]; exact walk_list) (fun H' s => sqL_st hs s) fun i Ha x Hb Y' hi s oY hf y => ?_⟩
      obtain ⟨e', y⟩ := y
      subst e'
      obtain ⟨d, h1, h2⟩ := hd.get y
      exact ⟨.refl _, d, h1, h2.up (mask_go s hf)⟩
    | _ => exact w1.elim
theorem gi_tup {te : TE} {a : Env → M D} (ha : GE W E te a) : GI W E (iTup K te) (iT a) := fun Y σ H ρ R o e w =>
  ha.seq o e w (fun _ _ h => h) fun d x H1 e1 o1 r1 hx w1 => by
    have go : ∀ {a : Addr} {xs : List V} {ds : List D}, SqT K (mask W Y H1) a xs → Dms W Y H1 xs ds → RetIt W Y H R ds → ∃ a', V.ref a = .ref a' ∧ (∃ xs, SqT K H1 a' xs) ∧ R (Itt K a') H1 := fun {a xs ds} hs hd w1 => by
      refine ⟨a, rfl, ⟨xs, same_t mask_le hs⟩, w1 _ (fun H' => SqT K H' a xs) (YAt xs) H1 e1 (by rw [← hd.length]; exact walk_tup) (fun H' s => sqT_st hs s) fun i Ha x Hb Y' hi s oY hf y => ?_⟩
      obtain ⟨e', y⟩ := y
      subst e'
      obtain ⟨d, h1, h2⟩ := hd.get y
      exact ⟨.refl _, d, h1, Dn.up h2 (mask_go s hf)⟩
    cases hx with
    | tup hs hd => exact go hs hd w1
    | ptup hs hd => exact go hs.sq hd w1
    | _ => exact w1.elim
theorem gi_str {te : TE} {a : Env → M D} (ha : GE W E te a) : GI W E (iStr te) (iS a) := fun Y σ H ρ R o e w =>
  ha.seq o e w (fun _ _ h => h) fun d x H1 e1 o1 r1 hx w1 => by
    cases hx with
    | str z =>
      refine ⟨z, rfl, w1 _ _ _ H1 e1 (by simpa [signs] using walk_str (z := z)) (fun _ _ => trivial) fun i Ha w Hb Y' hi s oY hf y => ?_⟩
      obtain ⟨e', c, hc, hw⟩ := y
      subst e' hw
      refine ⟨.refl _, .str ⟨#[c]⟩, ?_, .str _⟩
      unfold signs
      rw [List.getElem?_map, Array.getElem?_toList, hc]
      rfl
    | _ => exact w1.elim
def enD (ds : List D) : List D := (List.range ds.length).map fun i => D.tup [.int (i : Nat), ds.getD i .non]
def iEnT (a : Env → M D) : Env → M (List D) := fun ρ => (a ρ).bind fun d => match d with
  | .tup ds => .ret (enD ds)
  | .ptup ds => .ret (enD ds)
  | _ => .bad
theorem pair_new {Y' : Addr → Bool} {Ha : Hp} {T : Addr} {x y : V} {d e : D} (oY : Ok W Y' Ha) (hT : Ha T = none) (hx : Dm W Y' Ha x d) (hy : Dm W Y' Ha y e) : Dm W Y' (upd Ha T (.tup [x, y])) (.ref T) (.tup [d, e]) := by
  have ex : Ext W Ha (upd Ha T (.tup [x, y])) := .of oY.1 (Same.new hT)
  exact .tup (.inl (.inl (mask_at upd_same (oY.fresh hT) fun _ _ _ z => nomatch z))) (.cons (hx.up oY ex) (.cons (hy.up oY ex) .nil))
theorem gi_enT {te : TE} {a : Env → M D} (ha : GE W E te a) : GI W E (CcE.iEnumT K (tCons te tNil)) (iEnT a) := fun Y σ H ρ R o e w =>
  ha.seq o e w (fun _ _ h => h) fun d x H1 e1 o1 r1 hx w1 => by
    have go : ∀ {a : Addr} {xs : List V} {ds : List D}, SqT K (mask W Y H1) a xs → Dms W Y H1 xs ds → RetIt W Y H R (enD ds) → ∃ a' ys, [V.ref a] = [.ref a'] ∧ SqT K H1 a' ys ∧ R (CcE.Itet K a') H1 := fun {a xs ds} hs hd w1 => by
      have hl := hd.length
      refine ⟨a, xs, rfl, same_t mask_le hs, w1 _ (fun H => SqT K H a xs) (YPair (fun i => some (.int (i : Nat))) (fun i => xs[i]?)) H1 e1 (by rw [show (enD ds).length = xs.length by simp [enD, hl]]; exact CcE.walk_et) (fun H' s => sqT_st hs s) fun i Ha x Hb Y' hi s oY hf y => ?_⟩
      obtain ⟨Tq, x1, x2, rfl, hT, rfl, g1, g2⟩ := y
      cases g1
      have hi' : i < ds.length := by simpa [enD] using hi
      obtain ⟨d, hd1, hd2⟩ := hd.get g2
      have ed : ds.getD i .non = d := by simp [List.getD, hd1]
      exact ⟨Same.new hT, .tup [.int (i : Nat), d], by simp [enD, hi']; exact (List.getElem?_eq_some_iff.mp hd1).2, pair_new oY hT (.int _) (Dn.up hd2 (mask_go s hf))⟩
    cases hx with
    | tup hs hd => exact go hs hd w1
    | ptup hs hd => exact go hs.sq hd w1
    | _ => exact w1.elim
def zpD (ds es : List D) : List D := (ds.zip es).map fun p => D.tup [p.1, p.2]
def iZp (a b : Env → M D) : Env → M (List D) := fun ρ => (a ρ).bind fun d => (b ρ).bind fun e => match d, e with
  | .lst ds, .lst es => .ret (zpD ds es)
  | .tup ds, .tup es => .ret (zpD ds es)
  | .ptup ds, .ptup es => .ret (zpD ds es)
  | .ptup ds, .tup es => .ret (zpD ds es)
  | .tup ds, .ptup es => .ret (zpD ds es)
  | _, _ => .bad
theorem gi_zip {ta tb : TE} {a b : Env → M D} (ha : GE W E ta a) (hb : GE W E tb b) : GI W E (iZipA K (tCons ta (tCons tb tNil))) (iZp a b) := fun Y σ H ρ R o e w =>
  ha.seq o e w (fun _ _ h => h) fun d x H1 e1 o1 r1 hx w1 => hb.seq (Er := ErrP W E H) o1 r1 w1 (fun _ _ h => h.up e1) fun d2 y H2 e2 o2 r2 hy w2 => by
    have hx2 := hx.up o1 e2
    have e12 := e1.trans e2
    have goT : ∀ {a b : Addr} {xs ys : List V} {ds es : List D}, SqT K (mask W Y H2) a xs → Dms W Y H2 xs ds → SqT K (mask W Y H2) b ys → Dms W Y H2 ys es → RetIt W Y H R (zpD ds es) → R (ItzT K a b) H2 := fun {a b xs ys ds es} hs hd ht he w1 => by
      have hn : (zpD ds es).length = min xs.length ys.length := by simp [zpD, hd.length, he.length]
      refine w1 _ (fun H => SqT K H a xs ∧ SqT K H b ys) (YPair (fun i => xs[i]?) (fun i => ys[i]?)) H2 e12 (walk_zipT hn) (fun H' s => ⟨sqT_st hs s, sqT_st ht s⟩) fun i Ha x Hb Y' hi s oY hf y => ?_
      obtain ⟨Tq, x1, x2, rfl, hT, rfl, g1, g2⟩ := y
      obtain ⟨d, hd1, hd2⟩ := hd.get g1
      obtain ⟨d', he1, he2⟩ := he.get g2
      have hz : (ds.zip es)[i]? = some (d, d') := List.getElem?_zip_eq_some.mpr ⟨hd1, he1⟩
      exact ⟨Same.new hT, .tup [d, d'], by simp only [zpD, List.getElem?_map, hz, Option.map_some], pair_new oY hT (Dn.up hd2 (mask_go s hf)) (Dn.up he2 (mask_go s hf))⟩
    have goL : ∀ {a b : Addr} {xs ys : List V} {ds es : List D}, mask W Y H2 a = some (.lst xs) → Dms W Y H2 xs ds → mask W Y H2 b = some (.lst ys) → Dms W Y H2 ys es → RetIt W Y H R (zpD ds es) → R (Itz K a b) H2 := fun {a b xs ys ds es} hs hd ht he w1 => by
      have hn : (zpD ds es).length = min xs.length ys.length := by simp [zpD, hd.length, he.length]
      refine w1 _ (fun H => SqL K H a xs ∧ SqL K H b ys) (YPair (fun i => xs[i]?) (fun i => ys[i]?)) H2 e12 (walk_zip (K := K) hn) (fun H' s => ⟨sqL_st hs s, sqL_st ht s⟩) fun i Ha x Hb Y' hi s oY hf y => ?_
      obtain ⟨Tq, x1, x2, rfl, hT, rfl, g1, g2⟩ := y
      obtain ⟨d, hd1, hd2⟩ := hd.get g1
      obtain ⟨d', he1, he2⟩ := he.get g2
      have hz : (ds.zip es)[i]? = some (d, d') := List.getElem?_zip_eq_some.mpr ⟨hd1, he1⟩
      exact ⟨Same.new hT, .tup [d, d'], by simp only [zpD, List.getElem?_map, hz, Option.map_some], pair_new oY hT (Dn.up hd2 (mask_go s hf)) (Dn.up he2 (mask_go s hf))⟩
    cases hx2 with
    | @lst a xs _ hs hd =>
      cases hy with
      | @lst b ys _ ht he => exact ⟨a, b, xs, ys, rfl, .inl ⟨SqL.of (mask_le _ _ hs), SqL.of (mask_le _ _ ht), goL hs hd ht he w2⟩⟩
      | _ => exact w2.elim
    | @tup a xs _ hs hd =>
      cases hy with
      | @tup b ys _ ht he => exact ⟨a, b, xs, ys, rfl, .inr ⟨same_t mask_le hs, same_t mask_le ht, goT hs hd ht he w2⟩⟩
      | @ptup b ys _ ht he => exact ⟨a, b, xs, ys, rfl, .inr ⟨same_t mask_le hs, same_t mask_le ht.sq, goT hs hd ht.sq he w2⟩⟩
      | _ => exact w2.elim
    | @ptup a xs _ hs hd =>
      cases hy with
      | @tup b ys _ ht he => exact ⟨a, b, xs, ys, rfl, .inr ⟨same_t mask_le hs.sq, same_t mask_le ht, goT hs.sq hd ht he w2⟩⟩
      | @ptup b ys _ ht he => exact ⟨a, b, xs, ys, rfl, .inr ⟨same_t mask_le hs.sq, same_t mask_le ht.sq, goT hs.sq hd ht.sq he w2⟩⟩
      | _ => exact w2.elim
    | _ => cases hy <;> exact w2.elim
end
end Mi

namespace Mi
open PySem L2 Cc
def fAt : List Str → List D → Str → Option D
  | n :: ns, d :: ds, f => if n = f then some d else fAt ns ds f
  | _, _, _ => none
def mFld (p : List Str → Bool) (f : Str) (a : Env → M D) : Env → M D := fun ρ => (a ρ).bind fun d => match d with
  | .ob _ ns ds => if p ns then M.ofO (fAt ns ds f) else .bad
  | _ => .bad
def mProp (p : List Str → Bool) (F : List D → M D) (a : Env → M D) : Env → M D := fun ρ => (a ρ).bind fun d => match d with
  | .ob C ns ds => if p ns then (F [.ob C ns ds]).calm else .bad
  | _ => .bad
def mMeth (p : List Str → Bool) (m : Str) (F : List D → M D) (a : Env → M D) (t : Env → M (List D)) : Env → M D := fun ρ => (a ρ).bind fun d => match d with
  | .ob C ns ds => if p ns && !ns.contains m then (t ρ).bind fun es => F (.ob C ns ds :: es) else .bad
  | _ => .bad
def asL : D → M D
  | .int k => if 0 ≤ k ∧ k < 1000000000 then .ret (.int k) else .bad
  | _ => .bad
def mLenI (p : List Str → Bool) (F : List D → M D) (a : Env → M D) : Env → M D := fun ρ => (a ρ).bind fun d => match d with
  | .ob C ns ds => if p ns then ((F [.ob C ns ds]).calm).bind asL else .bad
  | _ => .bad
def sFldS (k i : Nat) (p : List Str → Bool) (f : Str) (m : Env → M D) : Env → M Fl := fun ρ => match ρ[i]? with
  | some (.slf k' C ns ds) => (m (vB ρ)).bind fun d => if ok1 d && decide (k' = k) && !ns.contains f && decide (ns.length < 100) && p (ns ++ [f]) then .ret (.nx (ρ.set i (.slf k' C (ns ++ [f]) (ds ++ [d])))) else .bad
  | _ => .bad
def sErr (c : Str) : Env → M Fl := fun _ => .err c []
def shown : D → Bool
  | .str z => decide (z.length ≤ 1000)
  | .int i => decide (i.natAbs.log2 < 1920)
  | _ => false
def sErrF (c : Str) (m : Env → M D) : Env → M Fl := fun ρ => (m (vB ρ)).bind fun d => if shown d then .err c [d] else .bad
section
variable {K : Fg} {W : Wd K} {E : XK} {te tv : TE} {m a b : Env → M D} {ta : TA} {t : Env → M (List D)} {p : List Str → Bool} {F : List D → M D} {C : Addr}
theorem ob_at {Y : Addr → Bool} {H : Hp} {v : V} {C' : Addr} {ns : List Str} {ds : List D} (hp : ∀ ns C', p ns = true → W.ct ns = some C' → C' = C) (k : p ns = true) (h : Dm W Y H v (.ob C' ns ds)) : ∃ x dx fs, v = .ref x ∧ H x = some (.ins C dx fs) ∧ fs.map (·.1) = ns ∧ Dms W Y H (fs.map (·.2)) ds := by
  cases h with
  | @ob x C' dx fs ns ds ho hn hd =>
    have h1 := mask_le _ _ ho
    unfold mask at ho
    split at ho
    · cases ho
    · rw [h1] at ho
      by_cases c : W.ct (fs.map (·.1)) = some C'
      · rw [hn] at c
        have := hp ns C' k c
        subst this
        exact ⟨x, dx, fs, rfl, h1, hn, hd⟩
      · simp only [if_neg c] at ho; cases ho
theorem fAt_lookup {Hm : Hp} {f : Str} {d : D} : ∀ {fs : List (Str × V)} {ds : List D}, Dns K Hm (fs.map (·.2)) ds → fAt (fs.map (·.1)) ds f = some d → ∃ v, fs.lookup f = some v ∧ Dn K Hm v d
  | [], _, _, h => by simp [fAt] at h
  | (g, x) :: fs, ds, hd, h => by
    cases hd with
    | @cons _ _ e es h1 h2 =>
      simp only [List.map_cons, fAt] at h
      by_cases e' : g = f
      · subst e'
        rw [if_pos rfl] at h
        cases h
        exact ⟨x, by simp [List.lookup], h1⟩
      · rw [if_neg e'] at h
        obtain ⟨v, q1, q2⟩ := fAt_lookup h2 h
        have : (f == g) = false := by simpa using fun z => e' z.symm
        exact ⟨v, by simp [List.lookup, this, q1], q2⟩
theorem ge_fld {f : Str} (hp : ∀ ns C', p ns = true → W.ct ns = some C' → C' = C) (c : Cls K C) (n : NoAttr K C f) (ha : GE W E te a) : GE W E (tFld K te f) (mFld p f a) := fun Y σ H ρ Q o e w =>
  ha.seq o e w (fun _ _ h => h) fun d x H1 e1 o1 r1 hx w1 => by
    cases d with
    | ob C' ns ds =>
      dsimp only at w1
      split at w1
      · rename_i k
        obtain ⟨x, dx, fs, rfl, hx1, rfl, hd⟩ := ob_at hp k hx
        obtain ⟨z, hz, q⟩ := M.wp_ofO w1
        obtain ⟨v, h1, h2⟩ := fAt_lookup hd hz
        exact ⟨x, C, dx, fs, v, rfl, hx1, c, n, h1, q v H1 e1 h2⟩
      · exact w1.elim
    | _ => exact w1.elim
theorem ge_prop {E' : XK} (hp : ∀ ns C', p ns = true → W.ct ns = some C' → C' = C) (ha : GE W E te a) : GE W E (tProp C (spC W F) [] E' te) (mProp p F a) := fun Y σ H ρ Q o e w =>
  ha.seq o e w (fun _ _ h => h) fun d x H1 e1 o1 r1 hx w1 => by
    cases d with
    | ob C' ns ds =>
      dsimp only at w1
      split at w1
      · rename_i k
        obtain ⟨x, dx, fs, rfl, hx1, _, _⟩ := ob_at hp k hx
        exact ⟨x, dx, fs, rfl, hx1, Y, _, o1, .cons hx .nil, M.wp_mono (fun d hd => hd.up e1) (fun _ _ h => h) _ (M.wp_calm (E' := fun _ _ => False) _ w1)⟩
      · exact w1.elim
    | _ => exact w1.elim
theorem lookup_no {fs : List (Str × V)} {m : Str} (h : (!(fs.map (·.1)).contains m) = true) : fs.lookup m = none := by
  have h' : m ∉ fs.map (·.1) := by simpa using h
  exact lookup_none rfl h'
theorem ge_methM {m : Str} (hp : ∀ ns C', p ns = true → W.ct ns = some C' → C' = C) (ha : GE W E te a) (ht : GA W E ta t) : GE W E (tMeth C m (spM W F) [] E te ta) (mMeth p m F a t) := fun Y σ H ρ Q o e w =>
  ha.seq o e w (fun _ _ h => h) fun d x H1 e1 o1 r1 hx w1 => by
    cases d with
    | ob C' ns ds =>
      dsimp only at w1
      split at w1
      · rename_i k
        simp only [Bool.and_eq_true] at k
        have hx' := hx
        obtain ⟨x, dx, fs, rfl, hx1, rfl, _⟩ := ob_at hp k.1 hx
        refine ⟨x, dx, fs, rfl, hx1, lookup_no k.2, ht.seq (Er := ErrP W E H) o1 r1 w1 (fun _ _ h => h.up e1) fun es vs H2 e2 o2 r2 hv w2 => ⟨Y, _, o2, by rw [List.append_nil]; exact .cons (hx'.up o1 e2) hv, wp_up w2 (e1.trans e2) fun d hd => hd.up (e1.trans e2)⟩⟩
      · exact w1.elim
    | _ => exact w1.elim
theorem asL_wp {d : D} {R : D → Prop} {Er} (h : (asL d).wp R Er) : ∃ k : Int, d = .int k ∧ 0 ≤ k ∧ k < 1000000000 ∧ R (.int k) := by
  cases d with
  | int k =>
    unfold asL at h
    dsimp only at h
    split at h
    · rename_i c; exact ⟨k, rfl, c.1, c.2, h⟩
    · exact h.elim
  | _ => exact h.elim
theorem ge_lenI (hp : ∀ ns C', p ns = true → W.ct ns = some C' → C' = C) (ha : GE W E te a) : GE W E (tCB (rLenI C (spC W F)) (tCons te tNil)) (mLenI p F a) := fun Y σ H ρ Q o e w =>
  ha.seq o e w (fun _ _ h => h) fun d x H1 e1 o1 r1 hx w1 => by
    cases d with
    | ob C' ns ds =>
      dsimp only at w1
      split at w1
      · rename_i k
        have hx' := hx
        obtain ⟨x, dx, fs, rfl, hx1, _, _⟩ := ob_at hp k hx
        refine ⟨x, dx, fs, rfl, hx1, Y, _, o1, .cons hx' .nil, M.wp_mono (fun d hd v H2 e2 hv => ?_) (fun _ _ h => h) _ (M.wp_calm (E := fun c p => ErrP W E H c p) (E' := fun _ _ => False) _ ((M.wp_bind _).mp w1))⟩
        obtain ⟨k, rfl, k0, k1, hq⟩ := asL_wp hd
        cases hv
        exact ⟨k, rfl, k0, by omega, hq _ H2 (e1.trans e2) (.int k)⟩
      · exact w1.elim
    | _ => exact w1.elim
def spI (W : Wd K) (C : Addr) (F : List D → M D) : Sp := fun vs H Q E => ∃ (Y : Addr → Bool) (H1 : Hp) (x dx : Addr) (avs : List V) (ds : List D), vs = .ref x :: avs ∧ H1 x = none ∧ H1 dx = none ∧ dx ≠ x ∧ H = upd (upd H1 dx (.own x)) x (.ins C dx []) ∧ Ok W Y H1 ∧ Dms W Y H1 avs ds ∧
  (F ds).wp (fun d => ∀ ns es, d = .ob C ns es → W.ct ns = some C → ∀ H2 dx fs, Ext W H1 H2 → H2 x = some (.ins C dx fs) → fs.map (·.1) = ns → Dms W (also Y x) H2 (fs.map (·.2)) es → Q .non H2) (ErrP W E H1)
theorem ge_make (ht : GA W E ta t) : GE W E (tMake C (spI W C F) [] E ta) (mCall F t) := fun Y σ H ρ Q o e w =>
  ht.seq o e w (fun _ _ h => h) fun ds vs H1 e1 o1 r1 hv w1 x dx hx hdx hne => ⟨Y, H1, x, dx, vs, ds, by rw [List.append_nil], hx, hdx, hne, rfl, o1, hv, wp_up w1 e1 fun d hd ns es h1 h2 H2 dx2 fs e2 h3 h4 h5 => by
    subst h1
    exact ⟨rfl, hd _ H2 (e1.trans e2) (.ob (mask_at h3 (o1.fresh hx) fun C' dx' fs' z => by cases z; rw [h4]; exact h2) h4 (Dms.less h5 also_r))⟩⟩
theorem gs_fld {i k : Nat} {f : Str} (hp : ∀ ns, p ns = true → W.ct ns = some C) (hC : W.cls k = C) (c : Cls K C) (n : NoAttr K C f) (h : GE W E te m) : GS W E (sFld K (tVar i) te f) (sFldS k i p f m) := fun Y B σ H ρ Dn ⟨L, s⟩ w => by
  unfold sFldS at w
  split at w
  case h_2 => exact w.elim
  rename_i k' C' ns ds hi
  refine h.runB s w fun d v H1 s1 hv w1 => ?_
  split at w1
  case isFalse => exact w1.elim
  rename_i kk
  simp only [Bool.and_eq_true, decide_eq_true_eq] at kk
  obtain ⟨⟨⟨⟨k1, k2⟩, k3⟩, k4⟩, k5⟩ := kk
  obtain ⟨x, dx, fs, g1, gS, g2, g3, g4, g5, g6⟩ := s1.sl i _ hi
  subst k2
  have eC : C' = C := g5.1.trans hC
  subst eC
  have hnf : f ∉ fs.map (·.1) := by rw [g4]; simpa using k3
  have hlen : fs.length = ns.length := by rw [← g4]; simp
  refine ⟨.ref x, g1, x, C', dx, fs, rfl, g3, c, n, by omega, w1 σ _ ⟨L, s1.putO g2 g3 rfl rfl ⟨x, dx, putF f v fs, g1, gS, g2, upd_same, ?_, ⟨g5.1, fun _ => hp _ k5⟩, ?_⟩⟩⟩
  · rw [putF_new hnf, List.map_append, g4]; rfl
  · have mo : mask W (YL Y L) (upd H1 x (.ins C' dx (putF f v fs))) = mask W (YL Y L) H1 := mask_off (YL_l g2)
    unfold Dms
    rw [mo, putF_new hnf, List.map_append]
    exact Dns.app g6 (.cons (ok1_see s1 hv k1) .nil)
theorem gs_err {c : Str} {A : Addr} {X : WX} (hc : W.ea c = some A) (hX : ∀ cls d σ H, E cls d H → X cls d σ H) : GS W E (tRaiseT A X) (sErr c) := fun Y B σ H ρ Dn ⟨L, s⟩ w =>
  hX _ _ _ _ (w _ _ H s.bok ⟨A, hc, rfl, .inl ⟨rfl, rfl⟩⟩)
theorem gs_errF {c fld : Str} {A : Addr} {X : WX} (hc : W.ea c = some A) (hf : W.ef c = [fld]) (hX : ∀ cls d σ H, E cls d H → X cls d σ H) (h : GE W E te m) : GS W E (tRaiseF A fld X (tCons te tNil)) (sErrF c m) := fun Y B σ H ρ Dn ⟨L, s⟩ w =>
  h.runB s w fun d v H1 s1 hv w1 => by
    split at w1
    · rename_i k
      refine ⟨v, rfl, ?_, fun dd hdd => hX _ _ _ _ ?_⟩
      · cases hv with
        | str z => exact .inl ⟨z, rfl, by simpa [shown] using k⟩
        | int i => exact .inr ⟨i, rfl, by simpa [shown] using k⟩
        | _ => cases k
      · have eH : Ext W H1 (upd H1 dd (.xd [(fld, v)])) := .of s1.ok.1 (Same.new hdd)
        refine w1 _ _ _ (s1.bokE eH) ⟨A, hc, rfl, .inr ⟨by simp, dd, [v], rfl, by simp [hf], by rw [hf]; exact upd_same, ?_⟩⟩
        cases hv with
        | str z => exact .cons (.str z) .nil
        | int i => exact .cons (.int i) .nil
        | _ => cases k
    · exact w1.elim
end
section
variable {P : Program} {w : World} {K : Fg} {mg : Str → Option Value} {base : Heap} {W : Wd K} {C : Addr}
def finI (k : Nat) (ρ : Env) : M D := match ρ[(0 : Nat)]? with
  | some (.slf k' C ns ds) => if ns.isEmpty || k' != k then .bad else .ret (.ob C ns ds)
  | _ => .bad
def defI (k : Nat) (C : Addr) (n np : Nat) (b : Env → M Fl) : List D → M D := fun ds => if ds.length + 1 = np then (b (.slf k C [] [] :: (ds.map .dat ++ List.replicate (n - np) .no))).bind (fun f => match f with
  | .nx ρ => finI k ρ
  | _ => .bad) else .bad
theorem defI_len {k n np : Nat} {b : Env → M Fl} {ds : List D} {R : D → Prop} {Er} (w : (defI k C n np b ds).wp R Er) : ds.length + 1 = np := by
  unfold defI at w
  split at w
  · assumption
  · exact w.elim
theorem ok_defI {x qual : Str} {st : Stmt} {f : Addr} {fd : FuncData} {N ps : List Str} {lv k : Nat} {a : Env → M Fl} (F : Fun K x qual st f fd) (S : FnScope N ps (defScope st)) (hN : ps.length ≤ N.length) (hC : W.cls k = C)
    (hb : ∀ (cdv : Value) (A : Around) (outer : List PySem.Env) (s : Shared) (H : Hp) (E : XK), Room lv (A.deeper (PyProof.Rows.envOfC qual (defScope st) s.heap.objs.size f cdv)) → ∃ t, PSs (cxOf (L2.CX P w) P w K mg base N qual (defScope st) f cdv A outer s H E) (defBody st) t ∧ GS W E t a) :
    FnOk P w K mg base (L2.CX P w) (lv + 1) f fd ps (spI W C (defI k C N.length ps.length a)) := by
  refine F.okX S (fun vs H Q E h => ?_) (fun cdv A outer s H vs Q E hr h => ?_)
  · obtain ⟨Y, H1, y, dx, avs, ds, rfl, _, _, _, _, _, hd, w⟩ := h
    rw [List.length_cons, hd.length]
    exact defI_len w
  · obtain ⟨Y, H1, y, dx, avs, ds, rfl, hy, hdx, hne, rfl, o1, hd, w⟩ := h
    obtain ⟨t, h1, h2⟩ := hb cdv A outer s _ E hr
    refine ⟨t, h1, ?_⟩
    have hl := defI_len w
    unfold defI at w
    rw [if_pos hl] at w
    have e0 : Same H1 (upd (upd H1 dx (.own y)) y (.ins C dx [])) := (Same.new hdx).trans (Same.new (by rw [upd_ne hne.symm]; exact hy))
    have hx1 : (upd (upd H1 dx (.own y)) y (.ins C dx [])) y = some (.ins C dx []) := upd_same
    generalize upd (upd H1 dx (.own y)) y (.ins C dx []) = H0 at e0 hx1 ⊢
    have ex : Ext W H1 H0 := .of o1.1 e0
    have hlen := hd.length
    have sr : SR W Y ⟨[(H1, W.X)], some y⟩ (L2.start N (.ref y :: avs)) H0 (.slf k C [] [] :: (ds.map .dat ++ List.replicate (N.length - ps.length) .no)) [(0, y)] := {
      ok := o1.ext ex
      bs := fun k hk => by
        rw [List.mem_singleton.mp hk]
        exact ⟨fun _ h => h, fun b o hb _ => e0 b o hb⟩
      len := by
        simp [L2.start, hlen]
        omega
      fre := fun p hp => by
        rw [List.mem_singleton.mp hp]
        refine ⟨fun k hk => ?_, W.new o1.1 hy, o1.fresh hy, _, hx1, rfl⟩
        rw [List.mem_singleton.mp hk]
        exact .inl hy
      nd := by simp
      sl := fun i t' ht => by
        cases i with
        | zero =>
          cases ht
          exact ⟨y, dx, [], by simp [L2.start], fun z hz _ => by cases hz; rfl, by simp, hx1, rfl, ⟨hC.symm, fun z => absurd rfl z⟩, .nil⟩
        | succ i =>
          rw [List.getElem?_cons_succ] at ht
          by_cases hi : i < ds.length
          · rw [List.getElem?_append_left (by simpa using hi), List.getElem?_map, List.getElem?_eq_getElem hi] at ht
            cases ht
            obtain ⟨v, hv, hdv⟩ := hd.getD (List.getElem?_eq_getElem hi)
            refine ⟨v, ?_, Dn.up hdv (mask_go (.of e0) fun a ha => ?_)⟩
            · have hiv : i < avs.length := by omega
              unfold L2.start
              rw [List.getElem?_append_left (by simpa using hiv), List.map_cons, List.getElem?_cons_succ, List.getElem?_map, hv]
              rfl
            · rcases YL_or ha with h | ⟨p, hp, e⟩
              · exact .inl h
              · rw [List.mem_singleton.mp hp] at e
                subst e
                exact .inr hy
          · rw [List.getElem?_append_right (by simpa using Nat.le_of_not_lt hi)] at ht
            have := List.mem_of_getElem? ht
            rw [(List.mem_replicate.mp this).2]
            trivial }
    refine h2 Y _ _ H0 _ _ ⟨_, sr⟩ (M.wp_mono (fun fl hf => ?_) (fun c p hc cls ob H' k he => hc cls ob H' ⟨k.2 (H1, W.X) List.mem_cons_self, k.1⟩ he) _ ((M.wp_bind _).mp w))
    have ext : ∀ {H'}, Bok W ⟨[(H1, W.X)], some y⟩ H' → Ext W H1 H' := fun k => ⟨k.2 (H1, W.X) List.mem_cons_self, k.1⟩
    cases fl with
    | nx ρ' =>
      intro σ' H' ⟨L, s'⟩
      replace hf : (finI k ρ').wp _ _ := hf
      unfold finI at hf
      split at hf
      · rename_i k' C' ns es h0
        split at hf
        · exact hf.elim
        · rename_i hne'
          simp only [Bool.or_eq_true, not_or, bne_iff_ne, ne_eq, Decidable.not_not] at hne'
          obtain ⟨x', dx', fs, g1, gS, g2, g3, g4, g5, g6⟩ := s'.sl 0 _ h0
          have gy := gS y rfl rfl
          subst gy
          have eC : C' = C := by rw [g5.1, hne'.2, hC]
          subst eC
          exact hf ns es rfl (g5.2 fun z => by rw [z] at hne'; exact hne'.1 rfl) H' dx' fs (ext s'.bok) g3 g4 (Dms.less g6 fun a ha => by
          by_cases ea : a = x'
          · subst ea; exact YL_l g2
          · exact YL_y (by simpa [also, ea] using ha))
      · exact hf.elim
    | rt d => exact hf.elim
    | bk _ => exact hf.elim
    | rs _ _ _ _ => exact hf.elim
    | ct _ => exact hf.elim
end
end Mi

namespace Mi
open PySem L2 Cc
def Ind (K : Fg) (S : Addr × List Int) (r : Addr) : Prop := S.1 ≠ r ∨ ∀ H', SqL K H' S.1 (S.2.map V.int)
def Row (K : Fg) (S : Addr × List Int) (H : Hp) (r : Addr) : Prop := ∃ (pos rng rest : Int), H r = some (.lst [.ref S.1, .int pos, .int rng, .int rest]) ∧ SqL K H S.1 (S.2.map V.int) ∧ Ind K S r ∧ S.2.length ≤ 63 ∧ 0 ≤ pos
section
variable {K : Fg} {S : Addr × List Int} {H H' : Hp} {r p : Addr}
theorem ind_new (h : SqL K H S.1 (S.2.map V.int)) (hp : H p = none) : Ind K S p := by
  rcases h with (h | ⟨o, h⟩) | h
  · exact .inl (ne_of_none h hp)
  · exact .inl (ne_of_none h hp)
  · exact .inr fun H' => .inr h
theorem Row.up (h : Row K S H r) (e : Same H H') : Row K S H' r := by
  obtain ⟨pos, rng, rest, h1, h2, h3, h4⟩ := h
  exact ⟨pos, rng, rest, e _ _ h1, same_l e h2, h3, h4⟩
theorem lkeepO {o : HO} (h : SqL K H S.1 (S.2.map V.int)) (hne : Ind K S r) : SqL K (upd H r o) S.1 (S.2.map V.int) := by
  rcases hne with hne | hne
  case inr => exact hne _
  rcases h with (h | ⟨o, h⟩) | h
  · exact .inl (.inl (by rw [upd_ne hne]; exact h))
  · exact .inl (.inr ⟨o, by rw [upd_ne hne]; exact h⟩)
  · exact .inr h
theorem lkeep {ys : List V} (h : SqL K H S.1 (S.2.map V.int)) (hne : Ind K S r) : SqL K (upd H r (.lst ys)) S.1 (S.2.map V.int) := lkeepO h hne
end
def spTaken (K : Fg) : Sp := fun vs H Q _ => ∃ (S : Addr × List Int) (r : Addr) (n : Int), vs = [.ref r, .int n] ∧ Row K S H r ∧ 0 < n ∧ n < 1073741824 ∧ ∀ k H', 0 ≤ k → k < n → But [r] H H' → Row K S H' r → Q (.int k) H'
def rowW (K : Fg) (ct : List Str → Option Addr) (cls : Nat → Addr) (ea : Str → Option Addr) (ef : Str → List Str) (S : Addr × List Int) (r : Addr) : Wd K where
  ct := ct
  cls := cls
  ea := ea
  ef := ef
  r := r
  X := fun a => a == r
  I := fun H => Row K S H r
  Fr := fun a => a ≠ r ∧ Ind K S a
  cell := fun {H a} h x => by
    have e : a = r := by simpa using x
    subst e
    obtain ⟨_, _, _, h1, _⟩ := h
    exact ⟨_, h1, rfl⟩
  up := fun {H H'} h e => h.up e
  new := fun {H a} h e => by
    obtain ⟨_, _, _, h1, h2, _⟩ := h
    exact ⟨(ne_of_none h1 e).symm, ind_new h2 e⟩
  off := fun {H a o u} h f _ _ => by
    obtain ⟨pos, rng, rest, h1, h2, h3, h4⟩ := h
    exact ⟨pos, rng, rest, by rw [upd_ne (Ne.symm f.1)]; exact h1, lkeepO h2 f.2, h3, h4⟩
structure RowOk {K : Fg} (W : Wd K) : Prop where
  ex : ∃ S : Addr × List Int, (∀ H, W.I H → Row K S H W.r) ∧ ∀ H H', W.I H → But [W.r] H H' → Row K S H' W.r → Ext W H H'
def isRow (ρ : Env) (i : Nat) : Bool := match ρ[i]? with
  | some .row => true
  | _ => false
def mDraw (i : Nat) (m : Env → M D) : Env → M D := fun ρ => if isRow ρ i then (m ρ).bind fun d => match d with
  | .int n => .draw n fun k => .ret (.int k)
  | _ => .bad else .bad
section
variable {K : Fg} {W : Wd K} {E E' : XK} {tn : TE} {m : Env → M D} {ta : TA} {t : Env → M (List D)} {F : List D → M D}
theorem isRow_at {ρ : Env} {i : Nat} (h : isRow ρ i = true) : ρ[i]? = some .row := by
  unfold isRow at h
  split at h
  · assumption
  · cases h
theorem ge_draw (R : RowOk W) {i : Nat} (hm : GE W E tn m) : GE W E (tCall (spTaken K) [] E' (tCons (tVar i) (tCons tn tNil))) (mDraw i m) := fun Y σ H ρ Q o e w => by
  unfold mDraw at w
  split at w
  case isFalse => exact w.elim
  rename_i hr
  have h0 := e.2.2.1 i (isRow_at hr)
  refine ⟨_, h0, hm.seq o e w (fun _ _ h => h) fun d x H1 e1 o1 r1 hx w1 => ?_⟩
  cases hx with
  | int n =>
    obtain ⟨⟨n1, n2⟩, hk⟩ := w1
    obtain ⟨S, h1, h2⟩ := R.ex
    exact ⟨S, W.r, n, rfl, h1 _ o1.1, n1, n2, fun k H' k0 k1 b hR => hk k k0 k1 _ H' (e1.trans (h2 _ _ o1.1 b hR)) (.int k)⟩
  | _ => exact w1.elim
def mCallR (i : Nat) (F : List D → M D) (a : Env → M (List D)) : Env → M D := fun ρ => if isRow ρ i then (a ρ).bind fun ds => (F ds).calm else .bad
def defR (n np : Nat) (b : Env → M Fl) : List D → M D := fun ds => if ds.length + 1 = np then (b (.row :: (ds.map .dat ++ List.replicate (n - np) .no))).bind fin else .bad
end
end Mi

namespace Mi
open PySem L2 Cc PySem.W
def mOpN (f : D → D → Option (List D)) (a b : Env → M D) : Env → M (List D) := fun ρ => (a ρ).bind fun x => (b ρ).bind fun y => M.ofO (f x y)
def sAug (i : Nat) (g : Int → Int → Int) (m : Env → M D) : Env → M Fl := fun ρ => match look ρ i with
  | some (.int a) => (m (vB ρ)).bind fun d => match d with
    | .int b => .ret (.nx (ρ.set i (.dat (.int (g a b)))))
    | _ => .bad
  | _ => .bad
def sAugL (i : Nat) (g : Int → Int → Int) (mj m : Env → M D) : Env → M Fl := fun ρ => match ρ[i]? with
  | some (.own ds) => (mj (vB ρ)).bind fun j => match j with
    | .int k => match atI ds k with
      | some (.int a) => (m (vB ρ)).bind fun d => match d, ixN ds.length k with
        | .int b, some n => .ret (.nx (ρ.set i (.own (ds.set n (.int (g a b))))))
        | _, _ => .bad
      | _ => .bad
    | _ => .bad
  | _ => .bad
def sPar3 (i j l : Nat) (m : Env → M (List D)) : Env → M Fl := fun ρ => (m ρ).bind fun ds => match ds with
  | [d, e, f] => .ret (.nx (((ρ.set i (.dat d)).set j (.dat e)).set l (.dat f)))
  | _ => .bad
section
variable {K : Fg} {W : Wd K} {E : XK} {te tl ts : TE} {m a b c : Env → M D}
theorem gn_opN {r : R2} {f : D → D → Option (List D)} {ta tb : TE} (ha : GE W E ta a) (hb : GE W E tb b) (hr : R2N W r f) : GN W E (tOp r ta tb) (mOpN f a b) := gn_op ha hb hr
def notNone : PyData → Bool
  | .none => false
  | _ => true
def alikeB (xs : List PyData) : Bool := (xs.all fun x => xs.all fun y => alike x y) && xs.all notNone
theorem alikeB_iff {xs : List PyData} (h : alikeB xs = true) : AlikeAll xs := by
  simp only [alikeB, Bool.and_eq_true, List.all_eq_true] at h
  exact ⟨fun x hx y hy => h.1 x hx y hy, fun x hx e => by have := h.2 x hx; rw [e] at this; cases this⟩
end
end Mi

namespace Mi
open PySem L2 Cc PySem.W
section
variable {X : Cx} {x : Str} {C : Addr} {p pos pos2 : Pos} {e : Expr} {te : TE}
def tRaiseE (C : Addr) (W : WX) (te : TE) : TS := fun _ σ H => te σ H fun _ H1 => W (.ref C) none σ H1
theorem ps_raiseE {W : WX} (hc : X.calm = true) (tk : Takes X W) (T : ErrT X.K X.mg x C) (he : PE X e te) (hg : Gl X x := by rfl) (hs : starEach [e] X.env = (false, eval e X.env) :: starEach [] X.env := by rfl) (hdb : (x == ("__debug__" : Str)) = false := by decide) :
    PS X (.Raise (some (.Call (.Name x p) [e] [] pos)) none pos2) (tRaiseE C W te) :=
  ps_raise hc tk (SkE.pmk_own1 F.excBase_ValueError T.q T.gC T.kC (raises_own T.exC T.tyC) hg he hs hdb)
end
def sErrE (c : Str) (m : Env → M D) : Env → M Fl := fun ρ => (m (vB ρ)).bind fun _ => .err c []
def mFmt (a : Env → M D) : Env → M D := fun ρ => (a ρ).bind fun d => match d with
  | .str y => if y.length ≤ 100000 then .ret (.str y) else .bad
  | .int i => if i.natAbs.log2 < 1920 then .ret (.str (toString i)) else .bad
  | _ => .bad
def jsGo : List (Env → M D) → Str → Env → M D
  | [], acc, _ => .ret (.str acc)
  | m :: ms, acc, ρ => (m ρ).bind fun d => match d with
    | .str y => if (acc ++ y).length ≤ 100000 then jsGo ms (acc ++ y) ρ else .bad
    | _ => .bad
def mJs (ms : List (Env → M D)) : Env → M D := fun ρ => jsGo ms Str.empty ρ
section
variable {K : Fg} {W : Wd K} {E : XK} {te : TE} {m a : Env → M D}
theorem gs_errE {c : Str} {A : Addr} {X : WX} (hc : W.ea c = some A) (hX : ∀ cls d σ H, E cls d H → X cls d σ H) (h : GE W E te m) : GS W E (tRaiseE A X te) (sErrE c m) := fun Y B σ H ρ Dn ⟨L, s⟩ w =>
  h.runB s w fun d v H1 s1 hv w1 => hX _ _ _ _ (w1 _ _ H1 s1.bok ⟨A, hc, rfl, .inl ⟨rfl, rfl⟩⟩)
theorem ge_fmt (ha : GE W E te a) : GE W E (tFmt te) (mFmt a) := fun Y σ H ρ Q o e w =>
  ha.seq o e w (fun _ _ h => h) fun d x H1 e1 o1 r1 hx w1 => by
    cases hx with
    | str y =>
      dsimp only at w1
      split at w1
      · exact .inl ⟨y, rfl, by rw [sizeLine_eq]; omega, w1 _ H1 e1 (.str y)⟩
      · exact w1.elim
    | int i =>
      dsimp only at w1
      split at w1
      · rename_i k; exact .inr ⟨i, rfl, k, w1 _ H1 e1 (.str _)⟩
      · exact w1.elim
    | _ => exact w1.elim
inductive GJ (W : Wd K) (E : XK) : List TE → List (Env → M D) → Prop where
  | nil : GJ W E [] []
  | cons {t : TE} {m : Env → M D} {ts : List TE} {ms : List (Env → M D)} (h : GE W E t m) (r : GJ W E ts ms) : GJ W E (t :: ts) (m :: ms)
theorem gj_run {ts : List TE} {ms : List (Env → M D)} (h : GJ W E ts ms) : ∀ (acc : Str) (Y : Addr → Bool) (σ : L2.St) (H : Hp) (ρ : Env) (Q : Str → Hp → Prop), Ok W Y H → EnvR W (mask W Y H) σ ρ → (jsGo ms acc ρ).wp (fun d => ∀ z H', d = .str z → Ext W H H' → Q z H') (ErrP W E H) → tJs ts acc σ H Q := by
  induction h with
  | nil => exact fun acc Y σ H ρ Q o e w => w acc H rfl (.refl o.1)
  | cons h r ih =>
    intro acc Y σ H ρ Q o e w
    refine h.seq o e w (fun _ _ h => h) fun d x H1 e1 o1 r1 hx w1 => ?_
    cases hx with
    | str y =>
      dsimp only at w1
      split at w1
      · rename_i k
        exact ⟨y, rfl, by rw [sizeLine_eq]; omega, ih (acc ++ y) Y σ H1 ρ Q o1 r1 (wp_up w1 e1 fun d hd z H2 hz e2 => hd z H2 hz (e1.trans e2))⟩
      · exact w1.elim
    | _ => exact w1.elim
theorem ge_js {ts : List TE} {ms : List (Env → M D)} (h : GJ W E ts ms) : GE W E (fun σ H Q => tJs ts Str.empty σ H fun out H1 => Q (.str out) H1) (mJs ms) := fun Y σ H ρ Q o e w =>
  gj_run h Str.empty Y σ H ρ _ o e (M.wp_mono (fun d hd z H' hz e' => by subst hz; exact hd _ H' e' (.str z)) (fun _ _ h => h) _ w)
def idxV (y : V) : List V → Nat → Option Nat
  | [], _ => none
  | x :: xs, k => if eqV x y then some k else idxV y xs (k + 1)
theorem idxV_some {y : V} : ∀ {xs : List V} {k j : Nat}, idxV y xs k = some j → ∃ i z, j = k + i ∧ xs[i]? = some z ∧ eqV z y = true ∧ ∀ m z', m < i → xs[m]? = some z' → eqV z' y = false
  | [], _, _, h => by cases h
  | x :: xs, k, j, h => by
    unfold idxV at h
    split at h
    · rename_i e; cases h; exact ⟨0, x, rfl, rfl, e, fun m z' hm => absurd hm (by omega)⟩
    · rename_i e
      obtain ⟨i, z, h1, h2, h3, h4⟩ := idxV_some h
      refine ⟨i + 1, z, by omega, by simpa using h2, h3, fun m z' hm hz => ?_⟩
      cases m with
      | zero => simp at hz; subst hz; simpa using e
      | succ m => exact h4 m z' (by omega) (by simpa using hz)
def mTIdx (a b : Env → M D) : Env → M D := fun ρ => (a ρ).bind fun d => match d with
  | .ptup ds => (b ρ).bind fun e => if Mi.D.sc e && ds.all Mi.D.sc then (match idxV (Mi.D.toV e) (ds.map Mi.D.toV) 0 with
    | some j => .ret (.int (j : Nat))
    | none => .bad) else .bad
  | _ => .bad
theorem ge_tidx {tb : TE} {b : Env → M D} (ha : GE W E te a) (hb : GE W E tb b) : GE W E (tBMP (rIdxT K) te (tCons tb tNil)) (mTIdx a b) := fun Y σ H ρ Q o e w =>
  ha.seq o e w (fun _ _ h => h) fun d x H1 e1 o1 r1 hx w1 => by
    have hx0 := hx
    cases hx with
    | @ptup p xs ds hs hd =>
      refine ⟨⟨p, xs, rfl, plT_le hs⟩, hb.seq (Er := ErrP W E H) o1 r1 w1 (fun _ _ h => h.up e1) fun d2 y H2 e2 o2 r2 hy w2 => ?_⟩
      have hx2 := Dm.up hx0 o1 e2
      cases hx2 with
      | @ptup _ xs2 _ hs2 hd2 =>
        split at w2
        case isFalse => exact w2.elim
        rename_i k
        simp only [Bool.and_eq_true] at k
        obtain ⟨q1, q2⟩ := sc_v hy k.1
        obtain ⟨q3, q4⟩ := sc_vs hd2 k.2
        split at w2
        case h_2 => exact w2.elim
        rename_i j hj
        rw [← q1, ← q3] at hj
        obtain ⟨i, z, rfl, h2, h3, h4⟩ := idxV_some hj
        rw [Nat.zero_add] at w2
        exact ⟨p, xs2, y, z, i, rfl, rfl, (plT_le hs2).sq, q2, q4, h2, h3, h4, w2 _ H2 (e1.trans e2) (.int _)⟩
    | _ => exact w1.elim
end
end Mi

namespace CcS
open PySem PySem.Spec L2 PyProof.Rows
section
variable {prog : Program} {w : World} {A : Around} {E : Value → Shared → Prop} {s : Shared}
theorem collect_tup {l : Addr} {vs : List Value} {Q : List Value → Shared → Prop} (hl : IsTup s.heap l vs.toArray)
    (h : Q vs { s with heap := (s.heap.push (seqObj "list" #[] 0)).update s.heap.objs.size (Obj.mapSeq (· ++ vs.toArray)) }) (hsz : vs.length ≤ sizeLine := by size_fits) :
    wpAny (model prog w) A (collect (.ref l)) Q E s := by
  obtain ⟨o, ho, hc, n, hd⟩ := id hl
  unfold collect
  refine wpAny_bind (wpAny_runValue (codeAny_builtin entry_proto_collect' ?_))
  show wpAny _ _ (do again (.builtin "list.__iadd__" ⟨[← newList [], .ref l], []⟩)) _ _ s
  refine wpAny_bind (wpAny_newList (wpAny_pure ⟨Code.quiet_builtin _ (by decide +kernel), codeAny_builtin entry_list_iadd' ?_⟩))
  show wpAny _ _ (Builtin.List.listExtendWith (.ref s.heap.objs.size) (.ref l) (.ref s.heap.objs.size)) _ _ { s with heap := s.heap.push (seqObj "list" #[] 0) }
  unfold Builtin.List.listExtendWith
  have ho' : (s.heap.push (seqObj "list" #[] 0)).get? l = some o := Heap.get?_push_of_some _ ho
  refine wpAny_bind (wpAny_typeOf (T := "tuple") ⟨o, ho', hc⟩ ?_)
  have ht : (Value.type "tuple" == Value.type "tuple") = true := by rfl
  rw [if_pos (by rw [ht]; simp)]
  refine wpAny_bind (listItems_at ho' hd ?_)
  refine wpAny_bind (listItems_at (xs := #[]) (n := 0) (Heap.get?_push_size _ rfl) rfl ?_)
  rw [if_neg (by simp)]
  refine wpAny_bind (listUpdate_at (xs := #[]) (n := 0) (Heap.get?_push_size _ rfl) rfl ?_ (Nat.zero_le _) (by show (#[] ++ vs.toArray).size ≤ sizeLine + 1; simp only [Array.size_append, List.size_toArray, List.length_nil]; omega))
  refine wpAny_pure ?_
  show wpAny (model prog w) A (do
      let o ← load s.heap.objs.size
      match o.data with
      | .seq xs _ => pure xs.toList
      | _ => unsupported "internal:collect") Q E { s with heap := (s.heap.push (seqObj "list" #[] 0)).update s.heap.objs.size (Obj.mapSeq (· ++ vs.toArray)) }
  refine wpAny_bind (wpAny_load (get?_update_seq (Heap.get?_push_size _ rfl) _) ?_)
  show wpAny _ _ (pure ((#[] : Array Value) ++ vs.toArray).toList) Q E _
  rw [show ((#[] : Array Value) ++ vs.toArray).toList = vs by simp]
  exact wpAny_pure h


end
end CcS
namespace CcS
open PySem PySem.W PySem.Calls PyProof.Rows
section
variable {prog : Program} {w : World} {A : Around} {E : Value → Shared → Prop} {s : Shared} {β : Type} {vs : List Value} {bs : List β} {enc : β → PyData} {R : Value → β → Prop}
theorem sorted_of_sortT {l : Addr} {vs : List Value} {kw : List (Str × Value)} {Q : Value → Shared → Prop} (hl : PyProof.Rows.IsTup s.heap l vs.toArray) (hL : vs.length ≤ sizeLine) (ha1 : argsOk "sorted" ⟨[.ref l], kw⟩) (ha2 : ∀ x, argsOk "list.sort" ⟨[.ref x], kw⟩)
    (body : ∀ E' : Value → Shared → Prop, wpAny (model prog w) A.in1.in1 (Builtin.«list.sort» ⟨[.ref (s.heap.objs.size + 1)], kw⟩) (fun f s' => f = .done (.ret .none) ∧ Q (.ref (s.heap.objs.size + 1)) s') E' { s with heap := copyHeap s.heap vs }) :
    wpAny (model prog w) A (call (.builtin "sorted") [.ref l] kw) Q E s := by
  refine call_function_entry_kw kind_sorted plain_sorted entry_sorted ha1 ?_
  unfold Builtin.«sorted»
  refine wpAny_bind (m := checkCount "sorted" 1 1 _) (wpAny_pure ?_)
  refine wpAny_bind (CcS.collect_tup hl ?_ hL)
  refine wpAny_bind (wpAny_newList ?_ hL)
  have hsz : ((s.heap.push (seqObj "list" #[] 0)).update s.heap.objs.size (Obj.mapSeq (· ++ vs.toArray))).objs.size = s.heap.objs.size + 1 := by
    rw [Heap.size_update, size_push']
  show wpAny _ _ _ _ _ { s with heap := copyHeap s.heap vs }
  rw [hsz]
  refine wpAny_bind (wpAny_holding (wpAny_call_entry_kw slot_list_sort ⟨_, copyHeap_at s.heap vs, rfl⟩ entry_list_sort ?body (ha2 _)))
  case body =>
    show wpAny (model prog w) A.in1.in1 (Builtin.«list.sort» ⟨[.ref (s.heap.objs.size + 1)], kw⟩) _ _ _
    refine wpAny_mono (body _) (fun f s' hf => ?_) fun _ _ e => e
    obtain ⟨rfl, hq⟩ := hf
    exact ⟨_, rfl, wpAny_pure ⟨_, rfl, hq⟩⟩


theorem sorted_tup {l : Addr} {Q : Value → Shared → Prop} (hl : PyProof.Rows.IsTup s.heap l vs.toArray) (e : EachIs R vs bs) (er : EachIs (fun v b => ∃ as, Reads s.heap v (enc b) as) vs bs) (hal : AllAlike (bs.map enc)) (hk : Sortable (bs.map enc)) (hL : bs.length ≤ sizeLine)
    (hu : ∀ b, b ∈ bs → A.units + 2 + (enc b).depth < cLine) (h : ∀ out, out.length = bs.length → EachIs R out (bs.mergeSort (dataLe false enc)) → Q (.ref (s.heap.objs.size + 1)) { s with heap := sortedAll s.heap vs (List.toArray out) }) :
    wpAny (model prog w) A (call (.builtin "sorted") [.ref l]) Q E s := by
  have er' : EachIs (fun v b => ∃ as, Reads (sortingHeap (copyHeap s.heap vs) (s.heap.objs.size + 1) vs) v (enc b) as) vs bs := er.mono fun _ _ ⟨as, r⟩ => ⟨as, PyProof.Rows.Reads.keeps (fun _ _ => sorting_copy_old) r⟩
  exact sorted_of_sortT hl (by rw [e.length]; exact hL) (args_sorted1 _) (fun _ => args_list_sort _) fun _ => list_sort_vals (s := { s with heap := copyHeap s.heap vs }) (copyHeap_at s.heap vs) (SortsAt.data (s := { s with heap := sortingHeap (copyHeap s.heap vs) (s.heap.objs.size + 1) vs }) (each_map (R := fun v d => ∃ as, Reads (sortingHeap (copyHeap s.heap vs) (s.heap.objs.size + 1) vs) v d as) enc er') hal hk (bound_map hu)) (by rw [e.length]; exact hL) ⟨rfl, h _ (by rw [sortVals_length false rfl]; exact e.length) (sortVals_data false e er' hal)⟩
end
end CcS
namespace CcS
open PySem PySem.Spec L2 Cc PyProof.Rows PySem.W
section
variable {X : Cx}
def rSortD (K : PySem.W.Frag) : List V → Hp → VK → Prop := fun vs H Q => ∃ (a : Addr) (bs : List (V × D)), vs = [.ref a] ∧ (SqL K H a (bs.map (·.1)) ∨ SqT K H a (bs.map (·.1))) ∧ (∀ b ∈ bs, Dp K H b.1 b.2.py) ∧ AllAlike (bs.map (·.2.py)) ∧ Sortable (bs.map (·.2.py)) ∧ (∀ b ∈ bs, b.2.py.depth ≤ 60) ∧ bs.length ≤ sizeLine ∧
  ∀ p, H p = none → Q (.ref p) (upd H p (.lst ((bs.mergeSort (dataLe false fun b => b.2.py)).map (·.1))))
theorem each_rel {its : List Value} : ∀ {bs : List (V × D)}, Vals (bs.map (·.1)) its → EachIs (fun v (b : V × D) => RelV b.1 v) its bs
  | [], r => by cases r; exact .nil
  | b :: bs, r => by
    cases r with
    | cons h t => exact .cons h (each_rel t)
theorem each_back {out : List Value} : ∀ {bs : List (V × D)}, EachIs (fun v (b : V × D) => RelV b.1 v) out bs → Vals (bs.map (·.1)) out
  | [], r => by cases r; exact .nil
  | b :: bs, r => by
    cases r with
    | cons h t => exact .cons h (each_back t)
theorem each_reads {pins : List (Addr × Obj)} {s : Shared} {σ : L2.St} {H : Hp} (I : Inv X pins σ H s) {its : List Value} : ∀ {bs : List (V × D)}, Vals (bs.map (·.1)) its → (∀ b ∈ bs, Dp X.K H b.1 b.2.py) → EachIs (fun v (b : V × D) => ∃ as, Reads s.heap v b.2.py as) its bs
  | [], r, _ => by cases r; exact .nil
  | b :: bs, r, hd => by
    cases r with
    | cons h t => exact .cons (Dp.reads I b.2.py b.1 _ (hd b (by simp)) h) (each_reads I t fun c hc => hd c (List.mem_cons_of_mem _ hc))
theorem call_sortD (hu : X.A.units + 65 < cLine) : CallR X (.builtin "sorted") (rSortD X.K) := by
  intro pins s σ H vs us Q I r h
  obtain ⟨a, bs, rfl, hs, hd, hal, hk, hz, hL, q⟩ := h
  obtain rfl := Vals.ref1 r
  have fin : ∀ (its : List Value), Vals (bs.map (·.1)) its → ∀ out : List Value, out.length = bs.length → EachIs (fun v (b : V × D) => RelV b.1 v) out (bs.mergeSort (dataLe false fun b => b.2.py)) → EP X pins σ Q (.ref (s.heap.objs.size + 1)) { s with heap := sortedAll s.heap its (List.toArray out) } := fun its rv out hl he => by
    obtain ⟨ep, he'⟩ := PyProof.Rows.sortedAll_at s.heap its (List.toArray out)
    have hv := each_back he
    refine ⟨.ref _, upd H (s.heap.objs.size + 1) (.lst ((bs.mergeSort (dataLe false fun b => b.2.py)).map (·.1))), I.laid (t' := s.toks) (fun _ _ => PyProof.Rows.sortedAll_old) (Nat.le_succ _) ⟨?_, out, ep, hv, he'⟩, rfl, q _ (I.hok.fresh (Nat.le_succ _))⟩
    rw [hv.length, hl]; exact hL
  have hub : ∀ b : V × D, b ∈ bs → X.A.units + 2 + b.2.py.depth < cLine := fun b hb => by have := hz b hb; omega
  rcases hs with hs | hs
  · obtain ⟨its, rv, hl, hlen⟩ := I.list hs
    exact sorted_data (enc := fun b : V × D => b.2.py) hl.isList (each_rel rv) (each_reads I rv hd) hal hk hL hub (fin its rv)
  · obtain ⟨its, rv, hl, hlen⟩ := I.tuple hs
    exact sorted_tup (enc := fun b : V × D => b.2.py) hl (each_rel rv) (each_reads I rv hd) hal hk hL hub (fin its rv)
theorem sortD {K : Fg} (hu : X.A.units + 65 < cLine) (h : X.K = K := by rfl) : CallR X (.builtin "sorted") (rSortD K) := h ▸ call_sortD hu
end
end CcS

namespace Mi
open PySem L2 Cc PySem.W
section
variable {K : Fg} {W : Wd K} {E : XK} {Y : Addr → Bool} {B : Bases} {σ : L2.St} {H H' : Hp} {ρ : Env} {L : List (Nat × Addr)}
theorem SR.hold (s : SR W Y B σ H ρ L) (i : Nat) {p : Addr} {xs : List V} (e : Ext W H H') (hp : H p = none) (hx : H' p = some (.lst xs)) : SR W Y B σ H' ρ ((i, p) :: L) where
  ok := s.ok.ext e
  bs := fun k hk => ⟨(s.bs k hk).1, (s.bs k hk).2.trans (.ext e (s.bs k hk).1)⟩
  len := s.len
  fre := fun q hq => by
    rcases List.mem_cons.mp hq with rfl | hq
    · refine ⟨fun k hk => ?_, W.new s.ok.1 hp, s.ok.fresh hp, _, hx, rfl⟩
      cases z : k.2 p with
      | true => exact .inr rfl
      | false =>
        refine .inl ?_
        cases y : k.1 p with
        | none => rfl
        | some o => rw [(s.bs k hk).2 p o y z] at hp; cases hp
    · obtain ⟨h1, h2, h3, ys, hy, ho⟩ := s.fre q hq
      exact ⟨h1, h2, h3, ys, e.1 _ _ hy (s.lx hq), ho⟩
  nd := by
    rw [List.map_cons, List.nodup_cons]
    refine ⟨fun z => ?_, s.nd⟩
    obtain ⟨q, hq, e⟩ := List.mem_map.mp z
    obtain ⟨_, _, _, ys, hy, _⟩ := s.fre q hq
    rw [show q.2 = p from e, hp] at hy
    cases hy
  sl := fun j t h => by
    rw [YL_also]
    have hs : Same (mask W (YL Y L) H) (mask W (also (YL Y L) p) H') := mask_go (.ext e s.okL.2.1) fun a ha => by
      by_cases ea : a = p
      · subst ea; exact .inr hp
      · exact .inl (by simpa [also, ea] using ha)
    have q := s.sl j t h
    cases t with
    | no => trivial
    | dat d' => obtain ⟨w, h1, h2⟩ := q; exact ⟨w, h1, Dn.up h2 hs⟩
    | own ds => obtain ⟨l, ys, h1, h2, h3, h4⟩ := q; exact ⟨l, ys, h1, List.mem_cons_of_mem _ h2, e.1 _ _ h3 (s.lx h2), Dns.up h4 hs⟩
    | dkR _ => exact q.elim
    | dk ds => obtain ⟨l, ys, h1, h2, h3, h4⟩ := q; exact ⟨l, ys, h1, List.mem_cons_of_mem _ h2, e.1 _ _ h3 (s.lx h2), Dns.up h4 hs⟩
    | dn w0 ks0 ds => obtain ⟨l, ys, h1, h2, h3, h4⟩ := q; exact ⟨l, ys, h1, List.mem_cons_of_mem _ h2, e.1 _ _ h3 (s.lx h2), DnQ.up h4 hs⟩
    | slf k C ns ds => obtain ⟨x, dx, fs, h1, hS, h2, h3, h4, h5, h6⟩ := q; exact ⟨x, dx, fs, h1, hS, List.mem_cons_of_mem _ h2, e.1 _ _ h3 (s.lx h2), h4, h5, Dns.up h6 hs⟩
    | row => exact q
theorem SR.take (s : SR W Y B σ H ρ L) {i : Nat} {p : Addr} {xs : List V} {ds : List D} (hi : (i, p) ∈ L) (hx : H p = some (.lst xs)) (hd : Dms W (YL Y L) H xs ds) : SR W Y B (σ.set i (some (.ref p))) H (ρ.set i (.own ds)) L where
  ok := s.ok
  bs := s.bs
  len := by simp [s.len]
  fre := s.fre
  nd := s.nd
  sl := fun j t ht => by
    rcases getElem?_set' ht with ⟨rfl, hl, rfl⟩ | ⟨hne, h⟩
    · exact ⟨p, xs, by simp [s.len, hl], hi, hx, hd⟩
    · have q := s.sl j t h
      have e : (σ.set i (some (.ref p)))[j]? = σ[j]? := by simp [List.getElem?_set, hne]
      cases t with
      | no => trivial
      | dat d' => obtain ⟨w, h1, h2⟩ := q; exact ⟨w, by rw [e]; exact h1, h2⟩
      | own ds => obtain ⟨l, xs, h1, h2⟩ := q; exact ⟨l, xs, by rw [e]; exact h1, h2⟩
      | dkR _ => exact q.elim
      | dk ds => obtain ⟨l, xs, h1, h2⟩ := q; exact ⟨l, xs, by rw [e]; exact h1, h2⟩
      | dn w0 ks0 ds => obtain ⟨l, xs, h1, h2⟩ := q; exact ⟨l, xs, by rw [e]; exact h1, h2⟩
      | slf k C ns ds => obtain ⟨x, dx, fs, h1, h2⟩ := q; exact ⟨x, dx, fs, by rw [e]; exact h1, h2⟩
      | row => exact e.trans q
def VR (W : Wd K) (Y : Addr → Bool) (H : Hp) (L : List (Nat × Addr)) (i : Nat) (v : V) : Sl → Prop
  | .dat d => Dm W (YL Y L) H v d
  | .own ds => ∃ p xs, v = .ref p ∧ (i, p) ∈ L ∧ H p = some (.lst xs) ∧ Dms W (YL Y L) H xs ds
  | _ => False
theorem VR.up {i : Nat} {v : V} {t : Sl} (h : VR W Y H L i v t) (s : SR W Y B σ H ρ L) (e : Ext W H H') : VR W Y H' L i v t := by
  cases t with
  | dat d => exact Dm.up h s.okL e
  | own ds => obtain ⟨p, xs, h1, h2, h3, h4⟩ := h; exact ⟨p, xs, h1, h2, e.1 _ _ h3 (s.lx h2), h4.up s.okL e⟩
  | _ => exact h.elim
theorem VR.hold {i j : Nat} {v : V} {t : Sl} {p : Addr} (h : VR W Y H L i v t) (s : SR W Y B σ H ρ L) (e : Ext W H H') (hp : H p = none) : VR W Y H' ((j, p) :: L) i v t := by
  have hs : Same (mask W (YL Y L) H) (mask W (YL Y ((j, p) :: L)) H') := by
    rw [YL_also]
    exact mask_go (.ext e s.okL.2.1) fun a ha => by
      by_cases ea : a = p
      · subst ea; exact .inr hp
      · exact .inl (by simpa [also, ea] using ha)
  cases t with
  | dat d => exact Dn.up h hs
  | own ds => obtain ⟨q, xs, h1, h2, h3, h4⟩ := h; exact ⟨q, xs, h1, List.mem_cons_of_mem _ h2, e.1 _ _ h3 (s.lx h2), Dns.up h4 hs⟩
  | _ => exact h.elim
inductive VRs (W : Wd K) (Y : Addr → Bool) (H : Hp) (L : List (Nat × Addr)) : List Nat → List V → List Sl → Prop where
  | nil : VRs W Y H L [] [] []
  | cons {i : Nat} {is : List Nat} {v : V} {vs : List V} {t : Sl} {ts : List Sl} : VR W Y H L i v t → VRs W Y H L is vs ts → VRs W Y H L (i :: is) (v :: vs) (t :: ts)
theorem VRs.up {is : List Nat} {vs : List V} {ts : List Sl} (h : VRs W Y H L is vs ts) (s : SR W Y B σ H ρ L) (e : Ext W H H') : VRs W Y H' L is vs ts := by
  induction h with
  | nil => exact .nil
  | cons h _ ih => exact .cons (h.up s e) ih
inductive Ag where
  | n (m : Env → M (List D))
  | d (m : Env → M D)
def agGo : List Ag → Env → M (List Sl)
  | [], _ => .ret []
  | .d m :: r, ρ => (m ρ).bind fun x => (agGo r ρ).bind fun ts => .ret (.dat x :: ts)
  | .n m :: r, ρ => (m ρ).bind fun xs => (agGo r ρ).bind fun ts => .ret (.own xs :: ts)
inductive GX (W : Wd K) (E : XK) : TA → List Ag → Prop where
  | nil : GX W E tNil []
  | d {te : TE} {ta : TA} {m : Env → M D} {r : List Ag} : GE W E te m → GX W E ta r → GX W E (tCons te ta) (.d m :: r)
  | n {te : TE} {ta : TA} {m : Env → M (List D)} {r : List Ag} : GN W E te m → GX W E ta r → GX W E (tCons te ta) (.n m :: r)
theorem gx_run {ta : TA} {ags : List Ag} (h : GX W E ta ags) : ∀ (is : List Nat) (H : Hp) (L : List (Nat × Addr)) (R : List Sl → Prop) (Q : List V → Hp → Prop), is.length = ags.length → SR W Y B σ H ρ L → (agGo ags ρ).wp R (ErrB W E B) →
    (∀ ts vs H' L', R ts → SR W Y B σ H' ρ L' → VRs W Y H' L' is vs ts → (∀ i v t, VR W Y H L i v t → VR W Y H' L' i v t) → Q vs H') → ta σ H Q := by
  induction h with
  | nil =>
    intro is H L R Q hl s w k
    cases is with
    | nil => exact k [] [] H L w s .nil fun _ _ _ h => h
    | cons _ _ => cases hl
  | @d te ta m r hm hr ih =>
    intro is H L R Q hl s w k
    cases is with
    | nil => cases hl
    | cons i is =>
      refine hm.seq s.okL s.envA w (fun _ _ h => h.at' s) fun d v H1 e1 o1 r1 hv w1 => ?_
      have s1 := s.up e1
      exact ih is H1 L (fun ts => R (.dat d :: ts)) _ (Nat.succ.inj hl) s1 ((M.wp_bind _).mp w1) fun ts vs H' L' hR s' hvs up => k (.dat d :: ts) (v :: vs) H' L' hR s' (.cons (up i v (.dat d) hv) hvs) fun j x t h => up j x t (h.up s e1)
  | @n te ta m r hm hr ih =>
    intro is H L R Q hl s w k
    cases is with
    | nil => cases hl
    | cons i is =>
      refine hm _ σ H ρ _ s.okL s.envA (M.wp_mono (fun ds hd p xs H1 e1 hp hx hds => ?_) (fun _ _ h => h.at' s) _ ((M.wp_bind _).mp w))
      have s1 := s.hold i (p := p) e1 hp hx
      have e2 : VR W Y H1 ((i, p) :: L) i (.ref p) (.own ds) := ⟨p, xs, rfl, List.mem_cons_self, hx, by rw [YL_also]; exact hds⟩
      exact ih is H1 ((i, p) :: L) (fun ts => R (.own ds :: ts)) _ (Nat.succ.inj hl) s1 ((M.wp_bind _).mp hd) fun ts vs H' L' hR s' hvs up => k (.own ds :: ts) (.ref p :: vs) H' L' hR s' (.cons (up i _ _ e2) hvs) fun j x t h => up j x t (h.hold s e1 hp)
theorem SR.putV (s : SR W Y B σ H ρ L) {i : Nat} {v : V} {t : Sl} (h : VR W Y H L i v t) : SR W Y B (σ.set i (some v)) H (ρ.set i t) L := by
  cases t with
  | dat d => exact s.set i h
  | own ds =>
    obtain ⟨p, xs, rfl, h2, h3, h4⟩ := h
    exact s.take h2 h3 h4
  | _ => exact h.elim
end
def sParX (i j : Nat) (ags : List Ag) : Env → M Fl := fun ρ => (agGo ags ρ).bind fun ts => match ts with
  | [t, u] => .ret (.nx ((ρ.set i t).set j u))
  | _ => .bad
def sParX3 (i j l : Nat) (ags : List Ag) : Env → M Fl := fun ρ => (agGo ags ρ).bind fun ts => match ts with
  | [t, u, x] => .ret (.nx (((ρ.set i t).set j u).set l x))
  | _ => .bad
section
variable {K : Fg} {W : Wd K} {E : XK}
def rowPy : PyData → Bool
  | .tuple (_ :: _) => true
  | _ => false
def noRow : PyData → Bool
  | .none => false
  | .tuple _ => false
  | _ => true
def sortOk (xs : List PyData) : Bool := (xs.all fun x => xs.all fun y => alike x y) && (xs.all rowPy || xs.all noRow) && xs.all (fun x => decide (x.depth ≤ 60)) && decide (xs.length ≤ 100000)
def fSortD : List D → Option (List D)
  | [d] => match items d with
    | some ds => if D.pls ds && sortOk (D.pys ds) then some (ds.mergeSort (PySem.W.dataLe false D.py)) else none
    | none => none
  | _ => none
theorem dms_zip {Y : Addr → Bool} {H : Hp} : ∀ {xs : List V} {ds : List D}, Dms W Y H xs ds → (xs.zip ds).map (·.1) = xs ∧ (xs.zip ds).map (·.2) = ds ∧ ∀ b ∈ xs.zip ds, Dm W Y H b.1 b.2
  | _, _, .nil => ⟨rfl, rfl, fun _ h => nomatch h⟩
  | _, _, .cons h t => by
    obtain ⟨h1, h2, h3⟩ := dms_zip t
    refine ⟨by simp [h1], by simp [h2], fun b hb => ?_⟩
    rcases List.mem_cons.mp hb with rfl | hb
    · exact h
    · exact h3 b hb
theorem dms_of {Y : Addr → Bool} {H : Hp} : ∀ bs : List (V × D), (∀ b ∈ bs, Dm W Y H b.1 b.2) → Dms W Y H (bs.map (·.1)) (bs.map (·.2))
  | [], _ => .nil
  | b :: bs, h => .cons (h b (by simp)) (dms_of bs fun c hc => h c (List.mem_cons_of_mem _ hc))
theorem pls_mem : ∀ {ds : List D}, D.pls ds = true → ∀ d ∈ ds, d.pl = true
  | [], _, _, h => nomatch h
  | e :: ds, k, d, h => by
    have k' : e.pl = true ∧ D.pls ds = true := by simpa [D.pls] using k
    rcases List.mem_cons.mp h with rfl | h
    · exact k'.1
    · exact pls_mem k'.2 d h
theorem rc_sortD : RCN W (CcS.rSortD K) fSortD := fun Y H vs ds z Q o hv h q => by
  unfold fSortD at h
  split at h
  case h_2 => cases h
  split at h
  case h_2 => cases h
  rename_i ds0 hi
  split at h
  case isFalse => cases h
  rename_i k
  cases h
  obtain ⟨v, rfl, hw⟩ := hv.un1
  obtain ⟨a, xs, rfl, ha, hs⟩ := items_some hw hi
  obtain ⟨z1, z2, z3⟩ := dms_zip ha
  simp only [Bool.and_eq_true, sortOk, decide_eq_true_eq] at k
  obtain ⟨kp, ⟨⟨k1, k2⟩, k3⟩, k4⟩ := k
  have em : (xs.zip ds0).map (fun b => b.2.py) = D.pys ds0 := by
    rw [D.pys_map, ← z2, List.map_map]
    congr 1
    rw [z2]
  refine ⟨a, xs.zip ds0, rfl, (by rw [z1]; exact hs.imp (fun h => same_l mask_le h) (fun h => same_t mask_le h)), fun (b : V × D) hb => ?_, ?_, ?_, ?_, ?_, fun p hp => ?_⟩
  · have hm : b.2 ∈ ds0 := by rw [← z2]; exact List.mem_map.mpr ⟨b, hb, rfl⟩
    exact Dn.dp _ _ (pls_mem kp _ hm) (Dm.un (z3 b hb))
  · rw [em]
    simp only [List.all_eq_true] at k1
    exact fun x hx y hy => k1 x hx y hy
  · rw [em]
    simp only [Bool.or_eq_true, List.all_eq_true] at k2
    rcases k2 with k2 | k2
    · exact .inl fun d hd => by
        have := k2 d hd
        unfold rowPy at this
        split at this
        · exact ⟨_, _, rfl⟩
        · cases this
    · exact .inr fun d hd => by
        have := k2 d hd
        unfold noRow at this
        split at this
        · cases this
        · cases this
        · rename_i h1 h2; exact ⟨fun e => h1 e, fun xs e => h2 xs e⟩
  · intro b hb
    simp only [List.all_eq_true, decide_eq_true_eq] at k3
    exact k3 _ (by rw [← em]; exact List.mem_map.mpr ⟨b, hb, rfl⟩)
  · rw [← em, List.length_map] at k4
    rw [sizeLine_eq]; omega
  · have pm := List.mergeSort_perm (xs.zip ds0) (PySem.W.dataLe false fun b => b.2.py)
    have hd := dms_of (W := W) (Y := Y) (H := H) ((xs.zip ds0).mergeSort (PySem.W.dataLe false fun b => b.2.py)) fun b hb => z3 b (pm.mem_iff.mp hb)
    have e2 : ((xs.zip ds0).mergeSort (PySem.W.dataLe false fun b => b.2.py)).map (·.2) = ds0.mergeSort (PySem.W.dataLe false D.py) := by
      conv => rhs; rw [← z2]
      exact List.map_mergeSort fun _ _ _ _ => rfl
    rw [e2] at hd
    exact q p _ _ (.of o.1 (Same.new hp)) hp upd_same (Dms.fresh hd o hp)
end
end Mi

namespace Mi
open PySem L2 Cc PySem.W
theorem pss_any {ι : Type} {X : Cx} {st : List Stmt} {t : ι → TS} (h : ∀ i, PSs X st (t i)) : PSs X st (fun D σ H => ∃ i, t i D σ H) := ⟨fun pins s σ H D I ⟨i, hw⟩ => (h i).run pins s σ H D I hw⟩
section
variable {P : Program} {w : World} {K : Fg} {mg : Str → Option Value} {base : Heap} {W : Wd K}
theorem fn_calm {k : Nat} {f : Addr} {fd : FuncData} {ps : List Str} {G : List D → M D} (F : FnOk P w K mg base (L2.CX P w) k f fd ps (spM W G)) : FnOk P w K mg base CX0 k f fd ps (spC W G) := by
  have up : ∀ vs H Q E, spC W G vs H Q E → spM W G vs H Q (fun _ _ _ => False) := fun vs H Q E ⟨Y, ds, o, hd, h⟩ => ⟨Y, ds, o, hd, M.wp_mono (fun _ h => h) (fun _ _ h => h.elim) _ h⟩
  refine ⟨fun vs H Q E h => F.len vs H Q _ (up vs H Q E h), fun A outer s H args us vs Q E hr he hb hv h => ?_⟩
  refine codeAny_mono (F.run A outer s H args us vs Q _ hr he hb hv (up vs H Q E h)) fun r s' q => ?_
  unfold CR at q ⊢
  split at q
  · exact q
  · exact q
  · obtain ⟨_, _, _, _, _, _, _, _, _, _, _, _, z⟩ := q
    exact z.elim
theorem cal_calm {n : Nat} {x : Str} {ps : List Str} {G : List D → M D} (C : Cal P w K mg base (L2.CX P w) n x ps (spM W G)) : Cal P w K mg base CX0 n x ps (spC W G) := by
  obtain ⟨f, fd, F, h⟩ := C
  exact ⟨f, fd, fn_calm F, h⟩
end
def spLaw (K : Fg) : Sp := fun vs H Q _ => ∃ (a : Addr) (ns : List Int), vs = [.ref a] ∧ SqL K H a (ns.map V.int) ∧ ns.length ≤ 63 ∧ ∀ H', Q (.bl true) H'
def lawM (n : Nat) (a : Env → M Fl) : M D := (a (.no :: .row :: List.replicate (n - 2) .no)).bind fin
abbrev tRow : TS := tAsg (tLst (tCons (tVar 0) (tCons (tC (.int 0)) (tCons (tC (.int 0)) (tCons (tC (.int 0)) tNil))))) (gName 1)
theorem ok_law {P : Program} {w : World} {K : Fg} {mg : Str → Option Value} {base : Heap} {st : Stmt} {f : Addr} {fd : FuncData} {N : List Str} {k : Nat} {a : Env → M Fl} {ct : List Str → Option Addr} {cls : Nat → Addr} {ea : Str → Option Addr} {ef : Str → List Str} (F : Fun K "law" "law" st f fd) (S : FnScope N ["_law_script"] (defScope st)) (hN : 2 ≤ N.length)
    (hb : ∀ (cdv : Value) (A : Around) (outer : List PySem.Env) (s : Shared) (H : Hp) (E : XK), Room k (A.deeper (PyProof.Rows.envOfC "law" (defScope st) s.heap.objs.size f cdv)) → ∃ t : (Addr × List Int) × Addr → TS, PSs (cxOf CX0 P w K mg base N "law" (defScope st) f cdv A outer s H E).nox (defBody st) (tSeq tRow fun D σ H => ∃ i, t i D σ H) ∧ ∀ i, GS (rowW K ct cls ea ef i.1 i.2) Cc.E0 (t i) a)
    (hw : (lawM N.length a).wp (fun d => d = .bl true) (fun _ _ => False)) : FnOk P w K mg base CX0 (k + 1) f fd ["_law_script"] (spLaw K) := by
  refine F.ok S (fun vs H Q E h => ?_) (fun cdv A outer s H vs Q E hr h => ?_)
  · obtain ⟨b, ns, rfl, _⟩ := h
    rfl
  · obtain ⟨b, ns, rfl, hS, hlen, hq⟩ := h
    obtain ⟨t, h1, h2⟩ := hb cdv A outer s H E hr
    refine ⟨_, h1, .ref b, rfl, by simp [sizeLine_eq], fun r hr0 => ?_⟩
    have e1 := Same.new (o := .lst [.ref b, .int 0, .int 0, .int 0]) hr0
    have hrow : Row K (b, ns) (upd H r (.lst [.ref b, .int 0, .int 0, .int 0])) r := ⟨0, 0, 0, upd_same, same_l e1 hS, ind_new hS hr0, hlen, by omega⟩
    have hcell : (upd H r (.lst [.ref b, .int 0, .int 0, .int 0])) r = some (.lst [.ref b, .int 0, .int 0, .int 0]) := upd_same
    generalize upd H r (.lst [.ref b, .int 0, .int 0, .int 0]) = H1 at hrow hcell ⊢
    refine ⟨((b, ns), r), ?_⟩
    let W := rowW K ct cls ea ef (b, ns) r
    have sr : SR W W.X ⟨[(H1, W.X)], none⟩ ((L2.start N [.ref b]).set 1 (some (.ref r))) H1 (.no :: .row :: List.replicate (N.length - 2) .no) [] := {
      ok := ⟨hrow, fun _ h => h, fun c hc => by
        have : c = r := by simpa [W, rowW] using hc
        subst this
        exact ⟨_, hcell, rfl⟩⟩
      bs := fun k hk => by
        rw [List.mem_singleton.mp hk]
        exact ⟨fun _ h => h, fun _ _ e _ => e⟩
      len := by simp [L2.start]; omega
      fre := fun p hp => nomatch hp
      nd := .nil
      sl := fun i t' ht => by
        match i with
        | 0 => cases ht; trivial
        | 1 =>
          cases ht
          show ((L2.start N [.ref b]).set 1 (some (.ref r)))[1]? = some (some (V.ref r))
          rw [List.getElem?_set_self]
          simp [L2.start]; omega
        | i + 2 =>
          rw [List.getElem?_cons_succ, List.getElem?_cons_succ] at ht
          rw [(List.mem_replicate.mp (List.mem_of_getElem? ht)).2]
          trivial }
    refine h2 ((b, ns), r) W.X ⟨[(H1, W.X)], none⟩ _ H1 _ _ ⟨[], sr⟩ (M.wp_mono (fun fl hf => ?_) (fun c p hc => hc.elim) _ ((M.wp_bind _).mp hw))
    cases fl with
    | nx ρ' => exact absurd (show D.non = D.bl true from hf) (by simp)
    | rt d =>
      obtain rfl : d = .bl true := hf
      exact fun v H' _ hv => by cases hv; exact hq H'
    | bk _ => exact hf.elim
    | rs _ _ _ _ => exact hf.elim
    | ct _ => exact hf.elim
end Mi

namespace CcS
open PySem PySem.Spec L2 Cc PyProof.Rows PySem.W
section
variable {X : Cx}
end
end CcS

namespace Mi
open PySem L2 Cc PySem.W
section
variable {K : Fg} {W : Wd K} {E : XK} {te : TE} {m : Env → M D}
end
end Mi

namespace Mi
open PySem L2 Cc PySem.W
section
variable {K : Fg} {W : Wd K} {E : XK}
end
end Mi

namespace CcS
open PySem PySem.Spec L2 Cc PyProof.Rows PySem.W
section
variable {X : Cx}
end
end CcS

namespace Cc
open PySem L2 PyProof.Rows
end Cc

namespace Mi
open PySem L2 Cc PySem.W RZ
structure IsiC (K : Fg) (C : Addr) : Prop where
  h1 : PySem.W.findIn K (.ref C) "__class__" = some (some (.builtin "object.__class__"))
  h2 : PySem.W.specialIn K (.builtin "object.__class__") "__get__" = some (some (.builtin "getset_descriptor.__get__"))
  h3 : PySem.W.takesIn K (.builtin "object.__class__") = some true
  h4 : PySem.W.mroIn K C (.type "object") = some true
section
variable {K : Fg} {W : Wd K} {E : XK} {te tv : TE} {m a b : Env → M D} {ta : TA} {t : Env → M (List D)} {p : List Str → Bool} {F : List D → M D} {C : Addr}
end
end Mi

namespace Cc
open PySem L2 PySem.Spec PyProof.Rows
def endsN : Option Nat → Ends → Ends
  | none, D => D
  | some i, D => { nx := fun σ H => D.nx (σ.set i none) H, rt := D.rt, bk := fun σ H => D.bk (σ.set i none) H, ct := fun σ H => D.ct (σ.set i none) H }
def slotN (a : Addr) : Option Nat → L2.St → L2.St
  | none, σ => σ
  | some i, σ => σ.set i (some (.ref a))
abbrev SuiteT := Addr → Value → Option Addr → TS
def wClauses (K : Fg) (Wo : WX) (D : Ends) : List (Value × Option Nat × SuiteT) → WX
  | [] => Wo
  | q :: r => fun cls d σ H => ∃ b, PySem.W.exmOne K cls q.1 = some b ∧ (b = true → ∀ a, H a = none → q.2.2 a cls d (endsN q.2.1 D) (slotN a q.2.1 σ) H) ∧ (b = false → wClauses K Wo D r cls d σ H)
inductive ClausesOk (X : Cx) : List ExceptHandler → List (Value × Option Nat × SuiteT) → Prop
  | nil : ClausesOk X [] []
  | plain {x : Str} {c : Value} {ts : SuiteT} {b : Stmt} {rest : List Stmt} {p q : Pos} {hd : List ExceptHandler} {l : List (Value × Option Nat × SuiteT)} (nm : Names X x c)
      (su : ∀ (a : Addr) (oe : Obj) (cls : Value) (d : Option Addr) (pn : List (Addr × Obj)), Zc cls d oe → (∃ vs, oe.data = .fields vs) → PSs (X.suite a ((a, oe) :: pn)) (b :: rest) (ts a cls d)) (r : ClausesOk X hd l) : ClausesOk X (.ExceptHandler (some (.Name x p)) none (b :: rest) q :: hd) ((c, none, ts) :: l)
  | named {x n : Str} {c : Value} {i : Nat} {ts : SuiteT} {b : Stmt} {rest : List Stmt} {p q : Pos} {hd : List ExceptHandler} {l : List (Value × Option Nat × SuiteT)} (nm : Names X x c) (nd : X.N.Nodup) (hi : X.N[i]? = some n) (hl : X.env.kindOf n = some .local)
      (su : ∀ (a : Addr) (oe : Obj) (cls : Value) (d : Option Addr) (pn : List (Addr × Obj)), Zc cls d oe → (∃ vs, oe.data = .fields vs) → PSs (X.suite a ((a, oe) :: pn)) (b :: rest) (ts a cls d)) (r : ClausesOk X hd l) : ClausesOk X (.ExceptHandler (some (.Name x p)) (some n) (b :: rest) q :: hd) ((c, some i, ts) :: l)
section
variable {X : Cx} {pins : List (Addr × Obj)} {D : Ends}
structure Landed (X : Cx) (pins : List (Addr × Obj)) (B : Heap) (a : Addr) (cls : Value) (d : Option Addr) (σ : L2.St) (H : Hp) (sI : Shared) (s : Shared) (h : Heap) : Prop where
  fl : HandSPX.FlyingZ B (X.env :: X.outer) a (Zc cls d) h
  J : Inv X pins σ H sI
  nb : ∀ b o, sI.heap.get? b = some o → b ∉ frs X.stack → B.get? b = some o
  up : sI.heap.UpToSlots h
  na : H a = none
  os : s.os = sI.os
  ag : AllBare s.gens
theorem Landed.inv {B : Heap} {a : Addr} {cls : Value} {d : Option Addr} {σ : L2.St} {H : Hp} {sI s : Shared} {h : Heap} (l : Landed X pins B a cls d σ H sI s h) : Inv X pins σ H { s with heap := h } := l.J.landed l.nb l.fl.1 l.up l.os l.ag
theorem Landed.suite {B : Heap} {a : Addr} {cls : Value} {d : Option Addr} {σ : L2.St} {H : Hp} {sI s : Shared} {h : Heap} (l : Landed X pins B a cls d σ H sI s h) (fr : X.env.frame = some X.env.locals) :
    ∃ oe vs, h.get? a = some oe ∧ Zc cls d oe ∧ oe.data = .fields vs ∧ Inv (X.suite a ((a, oe) :: (X.pn ++ pins))) [] σ H { s with heap := h } := by
  obtain ⟨oe, vs, e1, e2, e3⟩ := l.fl.there
  have out : a ∉ frs (X.env :: X.outer) := fun m => by
    obtain ⟨_, o2, q, nf⟩ := l.fl.2.2.1.mem m
    rw [e1] at q
    cases q
    exact nf _ e3
  have o1 : a ≠ X.env.locals := fun z => out (List.mem_filterMap.mpr ⟨X.env, List.mem_cons_self, by rw [fr, z]⟩)
  have o2 : a ∉ X.fs := fun m => by
    obtain ⟨e, me, q⟩ := List.mem_filterMap.mp m
    exact out (List.mem_filterMap.mpr ⟨e, List.mem_cons_of_mem _ me, q⟩)
  exact ⟨oe, vs, e1, e2, e3, l.inv.suite e1 e3 l.na o1 o2⟩
theorem clause_name {a : Addr} {oe : Obj} {c : Value} {x : Str} {p : Pos} {σ : L2.St} {H : Hp} {s : Shared} {pn : List (Addr × Obj)} {R F : Value → Shared → Prop} (nm : Names X x c) (S : Inv (X.suite a ((a, oe) :: pn)) [] σ H s) (k : R c s) :
    wpAny (model X.prog X.w) (X.A.mark (some (.ref a))) (eval (.Name x p) X.env) R F s := by
  obtain ⟨g, db, m | ⟨m, v, nn⟩⟩ := nm
  · exact ld_glob (X := X.suite a ((a, oe) :: pn)) S g m k db
  · exact ld_blt (X := X.suite a ((a, oe) :: pn)) S g m v k nn db
theorem clauses_run {Wo : WX} (st : X.stack = X.env :: X.outer) (fr : X.env.frame = some X.env.locals) (ok : X.Ok) (tk : Takes X Wo) {B : Heap} {a : Addr} {cls : Value} {d : Option Addr} {σ : L2.St} {H : Hp} {sI s : Shared} {h : Heap} (ld : Landed X pins B a cls d σ H sI s h) :
    ∀ {hd : List ExceptHandler} {l : List (Value × Option Nat × SuiteT)}, ClausesOk X hd l → wClauses X.K Wo D l cls d σ H → wpAny (model X.prog X.w) X.A (handleBy (.ref a) X.env hd) (SP X pins D) X.xe { s with heap := h } := by
  obtain ⟨oe0, vs0, g0, z0, f0, S0⟩ := ld.suite fr
  have isC : PySem.W.Looks (model X.prog X.w) h (typeOf (.ref a)) cls := fun A R F s' k q => wpAny_typeOf_ref (k _ _ g0) (by rw [z0.1]; exact q)
  intro hd l C
  induction C with
  | nil =>
    intro w
    refine wpAny_handleBy_nil ?_
    have fl' := ld.fl
    obtain ⟨_, _, _, oe, vs, T, _, _, ge, ze, de, h1, _⟩ := fl'
    have thrown : wpAny (model X.prog X.w) X.A (setFlight (.ref a) X.env.frame) (fun _ s4 => wpAny (model X.prog X.w) X.A (throw (.ref a) : Sem Flow) (SP X pins D) X.xe s4) X.xe { s with heap := h } := by
      rw [fr]
      exact HandSPX.setFlight_upZ ld.fl fun h4 hh up4 => wpAny_throw (tk _ _ ⟨a, B, sI, pins, σ, H, cls, d, rfl, ld.J, ld.nb, ld.up.trans up4, .inr (.inr (by rw [st]; exact hh)), ld.na, ld.os, ld.ag, w⟩)
    unfold PySem.passOn
    refine wpAny_bind (wpAny_field ge de h1 ?_)
    rw [if_neg (show ¬ ((Value.ref T == Value.none) = true) by simp)]
    first
      | exact wpAny_bind (wpAny_pure (wpAny_bind thrown))
      | exact wpAny_bind thrown
  | @plain x c ts b rest p q hd' l' nm su r ih =>
    intro ⟨k, e1, yes, no⟩
    refine wpAny_handleBy_cons (codeAny_handlers_test (clause_name nm S0 ((PySem.W.exm_one (M := model X.prog X.w) ld.inv.kIn isC e1).here ?_))) (by intro z; cases z)
    cases k with
    | false => exact ih (no rfl)
    | true =>
      refine codeAny_handlers_suite (HandSPX.lands_againZ ld.fl fun h4 f4 u4 => ?_)
      have ld4 : Landed X pins B a cls d σ H sI s h4 := ⟨f4, ld.J, ld.nb, ld.up.trans u4, ld.na, ld.os, ld.ag⟩
      obtain ⟨oe, vs, _, z4, d4, S4⟩ := ld4.suite fr
      refine wpAny_mono ((su a oe cls d (X.pn ++ pins) z4 ⟨_, d4⟩).run [] _ _ H _ S4 (yes rfl a ld.na)) (fun f s6 e6 => ?_) (fun _ _ z => z.elim)
      cases f with
      | ret u => obtain ⟨v, σ6, H6, S6, r6, q6⟩ := e6; exact ⟨v, σ6, H6, S6.unsuite ok, r6, q6⟩
      | next => obtain ⟨σ6, H6, S6, q6⟩ := e6; exact ⟨σ6, H6, S6.unsuite ok, q6⟩
      | brk => obtain ⟨σ6, H6, S6, q6⟩ := e6; exact ⟨σ6, H6, S6.unsuite ok, q6⟩
      | cont => obtain ⟨σ6, H6, S6, q6⟩ := e6; exact ⟨σ6, H6, S6.unsuite ok, q6⟩
  | @named x n c i ts b rest p q hd' l' nm nd hi hl su r ih =>
    intro ⟨k, e1, yes, no⟩
    refine wpAny_handleBy_cons (codeAny_handlers_test (clause_name nm S0 ((PySem.W.exm_one (M := model X.prog X.w) ld.inv.kIn isC e1).here ?_))) (by intro z; cases z)
    cases k with
    | false => exact ih (no rfl)
    | true =>
      refine codeAny_handlers_suite_as (HandSPX.lands_againZ ld.fl fun h4 f4 u4 => ?_)
      have ld4 : Landed X pins B a cls d σ H sI s h4 := ⟨f4, ld.J, ld.nb, ld.up.trans u4, ld.na, ld.os, ld.ag⟩
      obtain ⟨oe, vs, _, z4, d4, S4⟩ := ld4.suite fr
      refine store_ok (X := X.suite a ((a, oe) :: (X.pn ++ pins))) (v := .ref a) S4 nd hi (.inl hl) rfl (fun s5 S5 => ?_) (.inr hl)
      refine wpAny_mono ((su a oe cls d (X.pn ++ pins) z4 ⟨_, d4⟩).run [] s5 _ H _ S5 (yes rfl a ld.na)) (fun f s6 e6 => ?_) (fun _ _ z => z.elim)
      cases f with
      | ret u => obtain ⟨v, σ6, H6, S6, r6, q6⟩ := e6; exact gone_ok (S6.unsuite ok) nd hi hl fun s7 J7 => ⟨v, _, H6, J7, r6, q6⟩
      | next => obtain ⟨σ6, H6, S6, q6⟩ := e6; exact gone_ok (S6.unsuite ok) nd hi hl fun s7 J7 => ⟨_, H6, J7, q6⟩
      | brk => obtain ⟨σ6, H6, S6, q6⟩ := e6; exact gone_ok (S6.unsuite ok) nd hi hl fun s7 J7 => ⟨_, H6, J7, q6⟩
      | cont => obtain ⟨σ6, H6, S6, q6⟩ := e6; exact gone_ok (S6.unsuite ok) nd hi hl fun s7 J7 => ⟨_, H6, J7, q6⟩
theorem ps_tryN {body : List Stmt} {c0 : ExceptHandler} {cs : List ExceptHandler} {l : List (Value × Option Nat × SuiteT)} {pos : Pos} {tb : XK → TS} {Wo : WX} (st : X.stack = X.env :: X.outer) (fr : X.env.frame = some X.env.locals) (tk : Takes X Wo)
    (hb : ∀ (E : XK) (pn : List (Addr × Obj)) (xe : Value → Shared → Prop), Takes (X.tr pn xe) (fun e d _ H => E e d H) → PSs (X.tr pn xe) body (tb E)) (C : ClausesOk X (c0 :: cs) l) :
    PS X (.Try body (c0 :: cs) [] [] pos) (fun D σ H => ∃ E : XK, (∀ e d σ' H', σ'.length = X.N.length → E e d H' → wClauses X.K Wo D l e d σ' H') ∧ tb E D σ H) := by
  refine ⟨fun pins s σ H D I ⟨E, hE, h⟩ => wpAny_Try_except ?_⟩
  have ok := I.ok
  have hA : X.A.frames = some (X.env :: X.outer) := by rw [ok.frames, st]
  let xe : Value → Shared → Prop := fun e s1 => wpAny (model X.prog X.w) X.A (noteFrame e X.env) (fun _ s2 => wpAny (model X.prog X.w) X.A (setFlight e none) (fun _ s3 => wpAny (model X.prog X.w) X.A (handleBy e X.env (c0 :: cs)) (SP X pins D) X.xe s3) X.xe s2) X.xe s1
  refine wpAny_mono ((hb E (X.pn ++ pins) xe (fun u s' xx => ?_)).run [] s σ H D (I.toTry _) h) (fun f s1 e1 => ?_) (fun e s1 he => he)
  · obtain ⟨a, B, sI, pins', σ', H', cls, d, rfl, J', nb, up, sky, na, os, ag, w⟩ := xx
    have J : Inv X pins σ' H' sI := J'.ofTry ok
    show wpAny (model X.prog X.w) X.A (noteFrame (.ref a) X.env) _ _ _
    exact Sky.land Zc.steady hA fr (by rw [← st]; exact sky) fun h3 f3 u3 => clauses_run st fr ok tk ⟨f3, J, nb, up.trans u3, na, os, ag⟩ C (hE cls d σ' H' J.len w)
  · cases f with
    | ret u => obtain ⟨v, σ', H', J, r, q⟩ := e1; exact ⟨v, σ', H', J.ofTry ok, r, q⟩
    | next => obtain ⟨σ', H', J, q⟩ := e1; exact wpAny_execs_nil ⟨σ', H', J.ofTry ok, q⟩
    | brk => obtain ⟨σ', H', J, q⟩ := e1; exact ⟨σ', H', J.ofTry ok, q⟩
    | cont => obtain ⟨σ', H', J, q⟩ := e1; exact ⟨σ', H', J.ofTry ok, q⟩
end
end Cc

namespace Mi
open PySem L2 Cc
namespace M
variable {α : Type}
def handle : M α → (Str → List D → M α) → M α
  | .ret a, _ => .ret a
  | .err c p, h => h c p
  | .bad, _ => .bad
  | .draw n k, h => .draw n fun i => (k i).handle h
@[simp] theorem handle_ret {a : α} {h : Str → List D → M α} : (M.ret a).handle h = M.ret a := rfl
@[simp] theorem handle_err {c : Str} {p : List D} {h : Str → List D → M α} : (M.err c p : M α).handle h = h c p := rfl
@[simp] theorem handle_bad {h : Str → List D → M α} : (M.bad : M α).handle h = M.bad := rfl
theorem wp_handle {Q : α → Prop} {E} {h : Str → List D → M α} : ∀ m : M α, (m.handle h).wp Q E ↔ m.wp Q (fun c p => (h c p).wp Q E)
  | .ret _ => Iff.rfl
  | .err _ _ => Iff.rfl
  | .bad => Iff.rfl
  | .draw n k => by
    show (M.draw n fun i => (k i).handle h).wp Q E ↔ _
    simp only [wp_draw]
    exact and_congr_right fun _ => forall_congr' fun i => forall_congr' fun _ => forall_congr' fun _ => wp_handle (k i)
end M
def hitC (x c : Str) : Bool := decide (x = "StoreError") || decide (x = c)
def rtOnly : Fl → M Fl
  | .rt d => .ret (.rt d)
  | _ => .bad
def sEnv (n : Nat) : Option Nat → Env
  | none => List.replicate n .no
  | some i => (List.replicate n .no).set i .row
abbrev Clm := Str × Option Nat × (List D → Env → M Fl)
def clGo (n : Nat) (c : Str) (p : List D) : List Clm → M Fl
  | [] => .err c p
  | q :: r => if hitC q.1 c then ((q.2.2 p (sEnv n q.2.1)).bind rtOnly).calm else clGo n c p r
def sTry (n : Nat) (names : List Str) (b : Env → M Fl) (cl : List Clm) : Env → M Fl := fun ρ => (b ρ).handle fun c p => if names.contains c then clGo n c p cl else .bad
def plainB : D → Bool
  | .non => true
  | .bl _ => true
  | .int _ => true
  | .str _ => true
  | _ => false
def mXf (i j : Nat) (p : List D) : Env → M D := fun ρ => if isRow ρ i then (M.ofO p[j]?).bind fun d => if plainB d then .ret d else .bad else .bad
section
variable {K : Fg} {W : Wd K} {E : XK}
def exW (W : Wd K) (a : Addr) (o : Option Addr) (fs : List (Str × V)) : Wd K where
  ct := W.ct
  cls := W.cls
  r := a
  ea := W.ea
  ef := W.ef
  X := W.X
  I := fun H => W.I H ∧ ∀ dd, o = some dd → H dd = some (.xd fs)
  Fr := fun b => W.Fr b ∧ ∀ dd, o = some dd → b ≠ dd
  cell := fun h x => W.cell h.1 x
  up := fun h e => ⟨W.up h.1 e, fun dd z => e _ _ (h.2 dd z)⟩
  new := fun h e => ⟨W.new h.1 e, fun dd z q => by subst q; rw [h.2 _ z] at e; cases e⟩
  off := fun h f q c => ⟨W.off h.1 f.1 q c, fun dd z => by rw [upd_ne fun q => f.2 dd z q.symm]; exact h.2 dd z⟩
structure ErrAt (K : Fg) (W : Wd K) (c : Str) (A : Addr) (o : Option Addr) (p : List D) (vs : List V) : Prop where
  ea : W.ea c = some A
  is : (p = [] ∧ o = none) ∨ ((∃ dd, o = some dd) ∧ (W.ef c).length = vs.length ∧ Dns K (fun _ => none) vs p)
inductive ClR (W : Wd K) (names : List Str) : List (Value × Option Nat × SuiteT) → List Clm → Prop
  | nil : ClR W names [] []
  | cons {c : Value} {x : Str} {io : Option Nat} {ts : SuiteT} {s : List D → Env → M Fl} {l : List (Value × Option Nat × SuiteT)} {m : List Clm} (hx : ∀ c' ∈ names, ∀ A, W.ea c' = some A → PySem.W.exmOne K (.ref A) c = some (hitC x c'))
      (hs : ∀ (a A : Addr) (c' : Str) (o : Option Addr) (p : List D) (vs : List V), ErrAt K W c' A o p vs → hitC x c' = true → GS (exW W a o ((W.ef c').zip vs)) Cc.E0 (ts a (.ref A) o) (s p)) (r : ClR W names l m) : ClR W names ((c, io, ts) :: l) ((x, io, s) :: m)
theorem none_see {Hm : Hp} : ∀ {d : D} {v : V}, Dn K (fun _ => none) v d → (∀ a, d ≠ .adr a) → (∀ ds, d ≠ .tup ds) → Dn K Hm v d := fun {d v} h n n2 => by
  cases h with
  | non => exact .non
  | bl b => exact .bl b
  | int i => exact .int i
  | str x => exact .str x
  | lst h _ => cases h
  | tup h _ => exact absurd rfl (n2 _)
  | ptup h _ => obtain ⟨_, _, h⟩ := h; cases h
  | ob h _ _ => cases h
  | adr a => exact absurd rfl (n _)
  | dct h _ _ _ => cases h
  | dks h _ _ => cases h
theorem sEnv_len {n : Nat} {io : Option Nat} : (sEnv n io).length = n := by cases io <;> simp [sEnv]
theorem slotN_len {a : Addr} {io : Option Nat} {σ : L2.St} : (slotN a io σ).length = σ.length := by cases io <;> simp [slotN]
theorem suite_sr {Y : Addr → Bool} {B : Bases} {σ0 σ : L2.St} {H0 H : Hp} {ρ : Env} {L : List (Nat × Addr)} (s : SR W Y B σ0 H0 ρ L) {n : Nat} (hn : σ.length = n) (hb : Bok W B H) (ok : Ok W Y H) {a : Addr} {o : Option Addr} {fs : List (Str × V)} (hx : ∀ dd, o = some dd → H dd = some (.xd fs)) (io : Option Nat) :
    SR (exW W a o fs) Y B (slotN a io σ) H (sEnv n io) [] where
  ok := ⟨⟨ok.1, hx⟩, ok.2⟩
  bs := fun k hk => ⟨(s.bs k hk).1, hb.2 k hk⟩
  len := by rw [slotN_len, sEnv_len, hn]
  fre := fun p hp => nomatch hp
  nd := .nil
  sl := fun j t ht => by
    cases io with
    | none =>
      rw [(List.mem_replicate.mp (List.mem_of_getElem? ht)).2]
      trivial
    | some i =>
      rcases getElem?_set' ht with ⟨rfl, hl, rfl⟩ | ⟨_, h⟩
      · have hl' : i < σ.length := by rw [hn]; simpa using hl
        show (σ.set i (some (.ref a)))[i]? = _
        rw [List.getElem?_set_self hl']
        rfl
      · rw [(List.mem_replicate.mp (List.mem_of_getElem? h)).2]
        trivial
theorem clauses_wish {n : Nat} {names : List Str} {Wo : WX} {l : List (Value × Option Nat × SuiteT)} {m : List Clm} (hX : ∀ cls d σ H, E cls d H → Wo cls d σ H) (hl : ClR W names l m) {Y : Addr → Bool} {B : Bases} {σ σ' : L2.St} {H H' : Hp} {ρ : Env} {L : List (Nat × Addr)} {Dn : Ends} (s : SR W Y B σ H ρ L) (hn : σ'.length = n) {c : Str} {p : List D} {A : Addr} {o : Option Addr} (hmem : c ∈ names) (hbk : Bok W B H') (ok : Ok W Y H') (hA : W.ea c = some A)
    (hf : (p = [] ∧ o = none) ∨ (p ≠ [] ∧ ∃ dd vs, o = some dd ∧ (W.ef c).length = vs.length ∧ H' dd = some (.xd ((W.ef c).zip vs)) ∧ Dns K (fun _ => none) vs p)) (g : (clGo n c p m).wp (FlP W Y B Dn) (ErrB W E B)) : wClauses K Wo Dn l (.ref A) o σ' H' := by
  induction hl with
  | nil => exact hX _ _ _ _ (g _ _ _ hbk ⟨A, hA, rfl, hf⟩)
  | @cons cv x io ts sf l m hx hs r ih =>
    refine ⟨hitC x c, hx c hmem A hA, fun hh a na => ?_, fun hh => ih (by unfold clGo at g; rw [if_neg (by simp [hh])] at g; exact g)⟩
    unfold clGo at g
    rw [if_pos hh] at g
    obtain ⟨vs, hx2, E2⟩ : ∃ vs : List V, (∀ dd, o = some dd → H' dd = some (.xd ((W.ef c).zip vs))) ∧ ErrAt K W c A o p vs := by
      rcases hf with ⟨hp, ho⟩ | ⟨_, dd, vs, ho, h1, h2, h3⟩
      · exact ⟨[], (fun dd z => by rw [ho] at z; cases z), ⟨hA, .inl ⟨hp, ho⟩⟩⟩
      · exact ⟨vs, (fun dd' z => by rw [ho] at z; cases z; exact h2), ⟨hA, .inr ⟨⟨dd, ho⟩, h1, h3⟩⟩⟩
    refine hs a A c o p vs E2 hh Y B _ H' _ _ ⟨[], suite_sr s hn hbk ok hx2 io⟩ (M.wp_mono (fun f hf => ?_) (fun _ _ h => h.elim) _ ((M.wp_bind _).mp (M.wp_calm (E' := fun _ _ => False) _ g)))
    cases f with
    | rt d =>
      have hf' : FlP W Y B Dn (.rt d) := hf
      intro v H2 hk hv
      have : (endsN io Dn).rt v H2 = Dn.rt v H2 := by cases io <;> rfl
      rw [this]
      exact hf' v H2 ⟨hk.1.1, hk.2⟩ hv
    | nx _ => exact hf.elim
    | bk _ => exact hf.elim
    | rs _ _ _ _ => exact hf.elim
    | ct _ => exact hf.elim

theorem gs_try {n : Nat} {names : List Str} {t : XK → TS} {b : Env → M Fl} {Wo : WX} {l : List (Value × Option Nat × SuiteT)} {m : List Clm} (hX : ∀ cls d σ H, E cls d H → Wo cls d σ H) (hb : ∀ E', GS W E' (t E') b) (hl : ClR W names l m) :
    GS W E (fun D σ H => ∃ E' : XK, (∀ e d σ' H', σ'.length = n → E' e d H' → wClauses K Wo D l e d σ' H') ∧ t E' D σ H) (sTry n names b m) := fun Y B σ H ρ Dn ⟨L, s⟩ w => by
  let Z : Addr → Bool := fun a => W.X a || L.any fun p => p.2 == a
  let B' : Bases := ⟨(H, Z) :: B.l, B.s⟩
  have s' : SR W Y B' σ H ρ L :=
    { s with
      bs := fun k hk => by
        rcases List.mem_cons.mp hk with rfl | hk
        · exact ⟨fun a h => by simp [Z, h], fun _ _ e _ => e⟩
        · exact s.bs k hk
      fre := fun p hp => by
        obtain ⟨h1, h2⟩ := s.fre p hp
        refine ⟨fun k hk => ?_, h2⟩
        rcases List.mem_cons.mp hk with rfl | hk
        · have : (L.any fun q => q.2 == p.2) = true := List.any_eq_true.mpr ⟨p, hp, by simp⟩
          exact .inr (by simp [Z, this])
        · exact h1 k hk }
  let G : Str → List D → Prop := fun c p => (if names.contains c then clGo n c p m else .bad : M Fl).wp (FlP W Y B Dn) (ErrB W E B)
  have w' : (b ρ).wp (FlP W Y B Dn) G := (M.wp_handle _).mp w
  refine ⟨fun cls o H' => ∃ c p, Bok W B H' ∧ Ok W Y H' ∧ IsE W c p cls o H' ∧ G c p, fun cls o σ' H' hn ⟨c, p, hbk, ok, he, g⟩ => ?_, hb _ Y B' σ H ρ Dn ⟨L, s'⟩ (M.wp_mono (fun f hf => ?_) (fun c p hc cls o H' hbk he => ?_) _ w')⟩
  · obtain ⟨A, hA, rfl, hf⟩ := he
    by_cases hm : names.contains c = true
    · have hmem : c ∈ names := by simpa using hm
      simp only [G, hm, if_true] at g
      exact clauses_wish hX hl s hn hmem hbk ok hA hf g
    · simp only [G, hm, if_false] at g
      exact g.elim
  · cases f with
    | nx ρ' => exact fun σ' H' ⟨L', s2⟩ => hf σ' H' ⟨L', s2.unbase⟩
    | bk ρ' => exact fun σ' H' ⟨L', s2⟩ => hf σ' H' ⟨L', s2.unbase⟩
    | ct ρ' => exact fun σ' H' ⟨L', s2⟩ => hf σ' H' ⟨L', s2.unbase⟩
    | rt d => exact fun v H' hk hv => hf v H' hk.tail hv
    | rs _ _ _ _ => exact fun v H' x dx fs h1 hk h2 hn h3 hv => hf v H' x dx fs h1 hk.tail h2 hn h3 hv
  · refine ⟨c, p, hbk.tail, ⟨hbk.1, s.ok.2.1, fun a ha => ?_⟩, he, hc⟩
    cases x : W.X a with
    | true => exact W.cell hbk.1 x
    | false =>
      obtain ⟨u, hu, hcell⟩ := s.ok.2.2 a ha
      refine ⟨u, hbk.2 (H, Z) List.mem_cons_self a u hu ?_, hcell⟩
      show Z a = false
      cases z : Z a with
      | false => rfl
      | true =>
        simp only [Z, x, Bool.false_or, List.any_eq_true, beq_iff_eq] at z
        obtain ⟨q, hq, rfl⟩ := z
        rw [(s.fre q hq).2.2.1] at ha
        cases ha
theorem hitC_eq {x c : Str} (h : hitC x c = true) (hx : x ≠ "StoreError") : x = c := by
  simpa [hitC, hx] using h
theorem zip_lookup {f : Str} {v : V} : ∀ {fs : List Str} {vs : List V} {j : Nat}, fs.Nodup → fs[j]? = some f → vs[j]? = some v → (fs.zip vs).lookup f = some v
  | [], _, _, _, h, _ => by simp at h
  | _ :: _, [], _, _, _, h => by simp at h
  | g :: fs, u :: vs, 0, _, h1, h2 => by
    simp at h1 h2
    subst h1; subst h2
    simp [List.lookup]
  | g :: fs, u :: vs, j + 1, nd, h1, h2 => by
    rw [List.nodup_cons] at nd
    have h1' : fs[j]? = some f := by simpa using h1
    have hne : f ≠ g := fun z => nd.1 (by rw [← z]; exact List.mem_of_getElem? h1')
    have e : (f == g) = false := by simpa using hne
    rw [List.zip_cons_cons]
    simp only [List.lookup, e]
    exact zip_lookup nd.2 h1' (by simpa using h2)
theorem ge_xg {x f c : Str} {i j : Nat} {fs : List Str} {a A C : Addr} {o : Option Addr} {p : List D} {vs : List V} (h : ErrAt K W c A o p vs) (hc : hitC x c = true) (ea : W.ea x = some C) (ef : W.ef x = fs) (r : XfC K C) (no : PySem.W.findIn K (.ref C) f = some none) (hj : fs[j]? = some f := by rfl) (nd : fs.Nodup := by decide) (hx : x ≠ "StoreError" := by decide) :
    GE (exW W a o ((W.ef c).zip vs)) E (tXg K a (.ref A) o f (tVar i)) (mXf i j p) := fun Y σ H ρ Q ok e w => by
  obtain rfl := hitC_eq hc hx
  unfold mXf at w
  by_cases hr : isRow ρ i = true
  case neg => rw [if_neg hr] at w; exact w.elim
  rw [if_pos hr] at w
  refine ⟨_, e.2.2.1 i (isRow_at hr), rfl, ?_⟩
  obtain ⟨d, hd, w2⟩ := M.wp_ofO ((M.wp_bind _).mp w)
  have hA : A = C := Option.some.inj (h.ea.symm.trans ea)
  subst hA
  rcases h.is with ⟨hp, _⟩ | ⟨⟨dd, ho⟩, hlen, hds⟩
  · subst hp; cases hd
  obtain ⟨v, hv, hvd⟩ := hds.getD hd
  have hdp : plainB d = true := by
    by_cases hp : plainB d = true
    · exact hp
    · rw [if_neg hp] at w2; exact w2.elim
  rw [if_pos hdp] at w2
  have look : ((W.ef x).zip vs).lookup f = some v := by
    rw [ef] at hlen ⊢
    exact zip_lookup nd hj hv
  refine ⟨A, dd, _, v, rfl, r, no, ho, ok.1.2 dd ho, look, w2 v H (.refl ok.1) (none_see hvd ?_ ?_)⟩
  · rintro a rfl; cases hdp
  · rintro a rfl; cases hdp
end
end Mi

namespace CcX
open PySem PySem.W PySem.Calls PyProof.Rows PySem.HandSPX
section
variable {prog : Program} {w : World} {A : Around} {E : Value → Shared → Prop} {R : Result → Shared → Prop} {s : Shared} {K : Frag} {mg mb : Str → Option Value} {C fI : Addr}
end
end CcX

namespace Cc
open PySem L2
section
variable {X : Cx} {x : Str} {C : Addr} {p p2 pos pos2 : Pos}
end
end Cc
namespace Mi
open PySem L2 Cc
section
variable {K : Fg} {W : Wd K} {E : XK} {ta : TA} {t : Env → M (List D)}
end
end Mi

namespace Cc
open PySem L2 LamX
section
variable {X : Cx} {pins : List (Addr × Obj)} {σ : L2.St} {H : Hp} {s : Shared}
structure LamMade (X : Cx) (pins : List (Addr × Obj)) (σ : L2.St) (H : Hp) (P : Addr) (T : List (Addr × Str)) (params : Arguments) (body : Expr) (scope : Scope) (f c' : Addr) (pm ctv : Value) (H1 : Hp) (s1 : Shared) : Prop where
  inv : Inv X pins σ H1 s1
  but : But [P] H H1
  tab : Tabs T H1
  obj : s1.heap.get? f = some (PySem.W.kla_obj "<lambda>" (X.env.qual ++ "<lambda>") params body scope (cloFrom X.env.cells scope.names []) pm c' ctv)
  new : H1 f = none
  off : f ∉ frs X.stack
  co : H1 c' = some (CodeO c' (X.env.qual ++ "<lambda>"))
theorem lam_makeS {T : List (Addr × Str)} {c P : Addr} {params : Arguments} {body : Expr} {scope : Scope} {pos : Pos} {F R : Value → Shared → Prop} (I : Inv X pins σ H s) (TB : TabB X.base X.mg c P) (hco : X.env.code = .ref c) (mT : (P, X.env.qual ++ "<lambda>") ∈ T) (oT : ∀ p ∈ T, p.1 = P → p.2 = X.env.qual ++ "<lambda>") (tabs : Tabs T H)
    (hde : defaultsOf params X.env = ([], [])) (hfr : ∀ y ∈ scope.names, y.2 = .free → ∃ c, X.env.cells.lookup y.1 = some c) (k : ∀ f c' pm ctv H1 s1, LamMade X pins σ H P T params body scope f c' pm ctv H1 s1 → R (.ref f) s1) : wpAny (model X.prog X.w) X.A (eval (.Lambda params body scope pos) X.env) R F s := by
  obtain ⟨ps, atP, trip, among⟩ := tabs _ mT
  have bP : s.heap.BuiltinsAt X.mg P := TB.bm.keeps I.bk
  have oP : s.heap.get? P = some { cls := .none, data := .fields ps } := I.hok P _ atP
  have far : ∀ z, s.heap.objs.size ≤ z → z ∉ frs X.stack := fun z hz m => by
    rcases List.mem_cons.mp (I.stkSub _ m) with e | e
    · have lt := I.lt
      rw [← e] at lt
      exact absurd (Nat.lt_of_lt_of_le lt hz) (Nat.lt_irrefl _)
    · exact I.nofs hz e
  refine PySem.W.kla_eval hde ?_
  rcases found : codeAmong pos ps.toList with _ | cv
  · refine PySem.W.kla_makeFunction (mg := X.mg) (c := c) (P := P) (ps := ps) (closure_ok hfr) I.ok.glob (I.mod.glob.keeps I.bk) hco (TB.code.keeps I.bk) oP trip found TB.gP bP fun c' ctv h' tk kept ge lt rec tb => ?_
    obtain ⟨c2, oc, vs, t, e2, g1, g2, g3⟩ := rec
    cases e2
    have sz : s.heap.objs.size ≤ h'.objs.size := Nat.le_trans ge (Nat.le_of_lt lt)
    have free : H c' = none := I.hok.fresh ge
    have Pc : P ≠ c' := ne_of_none atP free
    let more : Array Value := #[rawInt pos.line, rawInt pos.col, .ref c']
    let lamO := PySem.W.kla_obj "<lambda>" (X.env.qual ++ "<lambda>") params body scope (cloFrom X.env.cells scope.names []) ((X.mg "__name__").getD .none) c' ctv
    have J := inv_table (t' := tk) (more := more) (h' := h'.push lamO) I atP (fun b o hb e => Heap.get?_push_of_some _ (kept b o hb e)) (Heap.get?_push_of_some _ tb) ge ⟨oc, vs, t, Heap.get?_push_of_some _ g1, g2, g3⟩
    have but : But [P] H (upd (upd H P (.tbl (ps ++ more))) c' (CodeO c' (X.env.qual ++ "<lambda>"))) := fun b o e n => by
      rw [upd_ne (ne_of_none e free), upd_ne (by simpa using n)]
      exact e
    have codeN : ∀ (b : Addr) q, H b = some (CodeO b q) → b ∉ [P] := fun b q e m => by
      rw [List.mem_singleton.mp m, atP] at e
      exact codeO_ne ps (Option.some.inj e).symm
    refine k h'.objs.size c' _ ctv _ _ ⟨J, but, fun p hp => ?_, Heap.get?_push_size _ rfl, ?_, far _ sz, upd_same⟩
    · by_cases hb : p.1 = P
      · rw [oT p hp hb, hb]
        refine ⟨ps ++ more, by rw [upd_ne Pc, upd_same], ?_, fun p' cv' hcv => ?_⟩
        · rw [show (ps ++ more).toList = ps.toList ++ [rawInt pos.line, rawInt pos.col, .ref c'] from by simp [more]]
          exact PySem.TriplesOk_snoc _ _ _ _ trip
        · rw [show (ps ++ more).toList = ps.toList ++ [rawInt pos.line, rawInt pos.col, .ref c'] from by simp [more]] at hcv
          rcases among_app _ trip hcv with z | z
          · obtain ⟨c0, e1, e2⟩ := among p' cv' z
            exact ⟨c0, e1, but _ _ e2 (codeN c0 _ e2)⟩
          · exact ⟨c', z, upd_same⟩
      · obtain ⟨ps', a1, a2, a3⟩ := tabs p hp
        refine ⟨ps', but _ _ a1 (by simpa using hb), a2, fun p' cv' hcv => ?_⟩
        obtain ⟨c0, e1, e2⟩ := a3 p' cv' hcv
        exact ⟨c0, e1, but _ _ e2 (codeN c0 _ e2)⟩
    · rw [upd_ne (Nat.ne_of_gt lt), upd_ne (Nat.ne_of_gt (Nat.lt_of_lt_of_le (Heap.lt_size oP) sz))]
      exact I.hok.fresh sz
  · obtain ⟨c', e, co⟩ := among pos cv found
    subst e
    refine PySem.W.kla_makeFunctionHit (mg := X.mg) (c := c) (P := P) (ps := ps) (closure_ok hfr) I.ok.glob (I.mod.glob.keeps I.bk) hco (TB.code.keeps I.bk) oP trip found bP fun ctv h' tk kept sz => ?_
    let lamO := PySem.W.kla_obj "<lambda>" (X.env.qual ++ "<lambda>") params body scope (cloFrom X.env.cells scope.names []) ((X.mg "__name__").getD .none) c' ctv
    have J : Inv X pins σ H { s with heap := h'.push lamO, toks := tk } := I.kept fun b o e => Heap.get?_push_of_some _ (kept b o e)
    exact k h'.objs.size c' _ ctv H _ ⟨J, But.refl _ H, tabs, Heap.get?_push_size _ rfl, I.hok.fresh sz, far _ sz, co⟩
def tLamS (T : List (Addr × Str)) (P : Addr) (TT : (XK → Hp → VK → Prop) → Hp → VK → Prop) (t : XK → TE) : TE := fun σ H Q => Tabs T H ∧ ∀ H1, But [P] H H1 → Tabs T H1 → TT (fun E H' Q' => t E σ H' Q') H1 Q
structure Taker (X : Cx) (x a : Str) (N : List Str) (g : Addr) (bg : List Stmt) (sg : Scope) (cdv : Value) : Prop where
  hm : X.mg x = some (.ref g)
  hk : PySem.W.keepIn X.K (.ref g) = true
  lk : ∃ pg oc od dV kV doc pm an ct osl, X.K.lookup g = some ⟨oc, od, .func (PySem.W.fnOf x x pg bg sg dV kV doc pm an cdv ct), osl⟩ ∧ L2.Binds X.K (PySem.W.fnOf x x pg bg sg dV kV doc pm an cdv ct) [a] []
  hcg : PySem.W.codeIn X.K cdv x = true
theorem pe_lamS {T : List (Addr × Str)} {TT : (XK → Hp → VK → Prop) → Hp → VK → Prop} {x a : Str} {N : List Str} {g c P : Addr} {k m : Nat} {bg : List Stmt} {sg : Scope} {cdv : Value} {params : Arguments} {body : Expr} {scope : Scope} {t : XK → TE} {p lpos pos : Pos} (G : Taker X x a N g bg sg cdv) (Sg : FnScope N [a] sg)
    (gives : GivesTo X N x sg g cdv bg a (X.env.qual ++ "<lambda>") TT) (TB : TabB X.base X.mg c P) (hcode : X.env.code = .ref c) (mT : (P, X.env.qual ++ "<lambda>") ∈ T) (oT : ∀ p ∈ T, p.1 = P → p.2 = X.env.qual ++ "<lambda>") (hr : Room m X.A)
    (hbody : ∀ (A : Around) (outer : List Env) (s : Shared) (H : Hp) (E : XK) (f c' : Addr), Room k (A.deeper (lamEnv X scope s.heap.objs.size f c')) → PE (lamCx X A outer s H E scope f c') body (t E)) (L : LamS X.env.scope scope) (hkm : k + 2 ≤ m := by decide) (hg : Gl X x := by rfl) (at0 : N[0]? = some a := by rfl) (va : Vis sg a := by exact .inl rfl) (hde : defaultsOf params X.env = ([], []) := by rfl)
    (hbind : ∀ (q : Str) (cl : List (Str × Addr)) (pm cv ctv : Value), bindArgs (PySem.W.kla_fn "<lambda>" q params body scope cl pm cv ctv) ⟨[], []⟩ = pure [] := by exact fun _ _ _ _ _ => rfl) (d1 : (x == ("__debug__" : Str)) = false := by decide) (d2 : (a == ("__debug__" : Str)) = false := by decide) (d3 : (a == ("__classdict__" : Str)) = false := by decide) :
    PE X (.Call (.Name x p) [.Lambda params body scope lpos] [] pos) (tLamS T P TT t) := by
  obtain ⟨pg, oc, od, dV, kV, doc, pm, an, ct, osl, lk, hb⟩ := G.lk
  refine ⟨fun pins s σ H Q I ⟨tabs, h⟩ => wpAny_Call_Name_kw (ld_glob I hg G.hm (PySem.W.callWith_K (h₀ := X.base) I.ok.mod.kin G.hk ?_ (by rfl) (by rfl)) d1)⟩
  show wpAny _ _ (spliced ((false, eval (.Lambda params body scope lpos) X.env) :: backTo pos (starEach [] X.env))) _ _ s
  refine Calls.spliced_cons (lam_makeS I TB hcode mT oT tabs hde (L.has I.ok) fun f c' pm' ctv H1 s1 M => Calls.spliced_nil ⟨M.inv.kIn, ?_⟩)
  have run : codeAny (model X.prog X.w) X.A (.call (.ref g) ⟨[.ref f], []⟩) (CR CX0 X.stack X.prog X.w H1 s1 Q Cc.E0) s1 := by
    refine run_ofS (N := N) (ps := [a]) (us := [.ref f]) (vs := [.ref f]) lk G.hcg Sg (hr.mono hkm) M.inv.env0 (hb s1 [.ref f] M.inv.kIn rfl) (.cons rfl .nil) rfl fun room => ?_
    obtain ⟨t', d, w⟩ := gives f c' s1 H1 Q (fun E H' Q' => t E σ H' Q') (fun W pn xe E p1 p2 tk hW => pe_act (i := 0) M.inv L M.obj M.new M.off (hbind _ _ _ _ _) tk hW room (fun A outer s H r2 => hbody A outer s H E f c' r2) at0 va d2 d3) M.co (h H1 M.but M.tab)
    exact ⟨t', d.nox, w⟩
  refine wpAny_call (codeAny_mono run fun r s2 hq => ?_)
  cases r with
  | error e => exact (show False from hq).elim
  | ok fl =>
    cases fl with
    | ret u => exact M.inv.after hq
    | next => exact hq.elim
    | brk => exact hq.elim
    | cont => exact hq.elim
end
end Cc

namespace Mi
open PySem L2 Cc
theorem code_cell {c : Addr} {q : Str} : cellO (LamX.CodeO c q) = false := by
  unfold LamX.CodeO cellO
  refine @decide_eq_false _ (Classical.propDecidable _) ?_
  let ob : Obj := { cls := .none, data := .fields #[.none, .str q default] }
  let h : Heap := { objs := Array.replicate (c + 1) ob }
  have hc : h.get? c = some ob := by
    have : h.objs[c]? = some ob := by simp [h]
    unfold Heap.get?
    rw [this]
  have l : (∃ (oc : Obj) (vs : Array Value) (t : Tok), h.get? c = some oc ∧ oc.data = .fields vs ∧ vs[1]? = some (.str q t)) := ⟨ob, _, default, hc, rfl, rfl⟩
  have hh : ∀ a o, h.get? a = some o → o = ob := fun a o ho => by
    unfold Heap.get? at ho
    split at ho
    · cases ho
    · rename_i x hx
      have hx' : h.objs[a]? = some o := ho ▸ rfl
      have := Array.mem_of_getElem? hx'
      exact (Array.mem_replicate.mp this).2
  rintro (⟨a, es, ep, e⟩ | ⟨w, a, S, n, e⟩)
  · have e1 := HO.ext.inj e
    have r := (congrFun e1 h) ▸ l
    obtain ⟨⟨o, h1, _, h2⟩, _⟩ := r
    rw [hh a o h1] at h2
    cases h2
  · have e1 := HO.ext.inj e
    have r := (congrFun e1 h) ▸ l
    obtain ⟨o, es, ep, t, h1, _, h2, _⟩ := r
    rw [hh a o h1] at h2
    cases h2
def lamB (K : Fg) (ct : List Str → Option Addr) (cls : Nat → Addr) (ea : Str → Option Addr) (ef : Str → List Str) (S : Addr × List Int) (r P : Addr) (q : Str) : Wd K where
  ct := ct
  cls := cls
  ea := ea
  ef := ef
  r := r
  X := fun a => a == r || a == P
  I := fun H => Row K S H r ∧ LamX.Tabs [(P, q)] H
  Fr := fun a => (a ≠ r ∧ a ≠ P) ∧ Ind K S a
  cell := fun {H a} h x => by
    rcases Bool.or_eq_true_iff.mp x with x | x
    · have e : a = r := by simpa using x
      subst e
      obtain ⟨_, _, _, h1, _⟩ := h.1
      exact ⟨_, h1, rfl⟩
    · have e : a = P := by simpa using x
      subst e
      obtain ⟨ps, h1, _⟩ := h.2 (a, q) (by simp)
      exact ⟨_, h1, rfl⟩
  up := fun h e => ⟨h.1.up e, h.2.ext e⟩
  new := fun {H a} h e => by
    obtain ⟨_, _, _, h1, h2, _⟩ := h.1
    obtain ⟨ps, h3, _⟩ := h.2 (P, q) (by simp)
    exact ⟨⟨(ne_of_none h1 e).symm, (ne_of_none h3 e).symm⟩, ind_new h2 e⟩
  off := fun {H a o u} h f ho hc => by
    obtain ⟨pos, rng, rest, h1, h2, h3, h4⟩ := h.1
    refine ⟨⟨pos, rng, rest, by rw [upd_ne (Ne.symm f.1.1)]; exact h1, lkeepO h2 f.2, h3, h4⟩, fun p hp => ?_⟩
    rw [List.mem_singleton.mp hp]
    obtain ⟨ps, a1, a2, a3⟩ := h.2 (P, q) (by simp)
    refine ⟨ps, by rw [upd_ne (Ne.symm f.1.2)]; exact a1, a2, fun pos cv hcv => ?_⟩
    obtain ⟨c, e1, e2⟩ := a3 pos cv hcv
    refine ⟨c, e1, ?_⟩
    rw [upd_ne]
    · exact e2
    · rintro rfl
      rw [e2] at ho
      cases ho
      rw [show cellO _ = false from code_cell] at hc
      cases hc
theorem lamB_ok {K : Fg} {ct : List Str → Option Addr} {cls : Nat → Addr} {ea : Str → Option Addr} {ef : Str → List Str} {S : Addr × List Int} {r P : Addr} {q : Str} : RowOk (lamB K ct cls ea ef S r P q) := ⟨S, fun _ h => h.1, fun H H' i b h => ⟨fun c o e x => b c o e (by
  have : c ≠ r := fun z => by subst z; simp [lamB] at x
  simpa [lamB] using this), h, by
  obtain ⟨_, _, _, h1, _⟩ := i.1
  exact tabs_but i.2 h1 b⟩⟩
section
variable {K : Fg} {W : Wd K} {E : XK}
def lamW (W : Wd K) (f c' : Addr) (q : Str) (H1 : Hp) (i : W.I H1) : Wd K where
  ct := W.ct
  cls := W.cls
  ea := W.ea
  ef := W.ef
  r := f
  X := W.X
  I := fun H => Ext W H1 H ∧ H c' = some (LamX.CodeO c' q)
  Fr := fun a => W.Fr a ∧ H1 a = none ∧ a ≠ c'
  cell := fun h x => W.cell h.1.2 x
  up := fun h e => ⟨h.1.trans (.of h.1.2 e), e _ _ h.2⟩
  new := fun h e => ⟨W.new h.1.2 e, h.1.free i e, fun z => by subst z; rw [h.2] at e; cases e⟩
  off := fun {H a o u} h f ho hc => ⟨⟨fun b o' e x => by
    rw [upd_ne (ne_of_none e f.2.1)]
    exact h.1.1 b o' e x, W.off h.1.2 f.1 ho hc⟩, by rw [upd_ne (Ne.symm f.2.2)]; exact h.2⟩
def TTw (W : Wd K) (F : M D → M D) : (XK → Hp → VK → Prop) → Hp → VK → Prop := fun tl H Q => ∃ Y m, Ok W Y H ∧ (∀ E H' Q', Ok W Y H' → Ext W H H' → m.wp (RetP W Y H' Q') (ErrP W E H') → tl E H' Q') ∧ (F m).wp (RetP W Y H Q) (fun _ _ => False)
def sAct (m : M D) : Env → M Fl := fun ρ => if isRow ρ 0 then m.bind fun _ => .ret (.nx ρ) else .bad
structure ActOk (W : Wd K) (Y0 : Addr → Bool) (H1 : Hp) (c' : Addr) (q : Str) (tl : XK → Hp → VK → Prop) (m : M D) : Prop where
  i : W.I H1
  co : H1 c' = some (LamX.CodeO c' q)
  ok : Ok W Y0 H1
  h : ∀ E H' Q', Ok W Y0 H' → Ext W H1 H' → m.wp (RetP W Y0 H' Q') (ErrP W E H') → tl E H' Q'
theorem ActOk.nX {Y0 : Addr → Bool} {H1 : Hp} {c' : Addr} {q : Str} {tl : XK → Hp → VK → Prop} {m : M D} (A : ActOk W Y0 H1 c' q tl m) : W.X c' = false := by
  cases x : W.X c' with
  | false => rfl
  | true =>
    obtain ⟨o, ho, hc⟩ := W.cell A.i x
    rw [A.co] at ho
    cases ho
    rw [show cellO _ = false from code_cell] at hc
    cases hc
section
variable {f c' : Addr} {q : Str} {H1 : Hp} {Y0 : Addr → Bool} {tl : XK → Hp → VK → Prop} {m : M D}
theorem ActOk.ext (A : ActOk W Y0 H1 c' q tl m) {H H' : Hp} (o : Ext W H1 H ∧ H c' = some (LamX.CodeO c' q)) (x : Ext W H H') : Ext (lamW W f c' q H1 A.i) H H' := ⟨x.1, o.1.trans x, x.1 _ _ o.2 A.nX⟩
theorem gs_act (A : ActOk W Y0 H1 c' q tl m) : GS (lamW W f c' q H1 A.i) E (tDrop fun σ H Q => σ[0]? = some (some (.ref f)) ∧ H c' = some (LamX.CodeO c' q) ∧ tl E H Q) (sAct m) := fun Y B σ H ρ Dn ⟨L, s⟩ w => by
  unfold sAct at w
  by_cases hr : isRow ρ 0 = true
  case neg => rw [if_neg hr] at w; exact w.elim
  rw [if_pos hr] at w
  have o := s.ok.1
  exact ⟨s.envA.2.2.1 0 (isRow_at hr), o.2, A.h E H _ (A.ok.ext o.1) o.1 (M.wp_mono (fun d hd v H' x hv => hd σ H' ⟨L, s.up (A.ext o x)⟩) (fun c p hc cls ob H' x he => hc cls ob H' (s.bokE (A.ext o x)) he) _ ((M.wp_bind _).mp w))⟩
end
def defL (n : Nat) (b : M D → Env → M Fl) : M D → M D := fun m => (b m (.row :: List.replicate (n - 1) .no)).bind fin
theorem gives_of {X : Cx} {N : List Str} {x : Str} {sg : Scope} {g : Addr} {cdg : Value} {bg : List Stmt} {a q : Str} {b : M D → Env → M Fl} (hN : 1 ≤ N.length)
    (hb : ∀ (f c' : Addr) (s : Shared) (H : Hp) (tl : XK → Hp → VK → Prop), (∀ (Wx : WX) (pn : List (Addr × Obj)) (xe : Value → Shared → Prop) (E : XK) (p1 p2 : Pos), Takes ((cxOf CX0 X.prog X.w X.K X.mg X.base N x sg g cdg X.A X.stack s H Cc.E0).tr pn xe) Wx → (∀ cls d σ' H', E cls d H' → Wx cls d σ' H') →
      PE ((cxOf CX0 X.prog X.w X.K X.mg X.base N x sg g cdg X.A X.stack s H Cc.E0).tr pn xe) (.Call (.Name a p1) [] [] p2) (fun σZ HZ Q => σZ[0]? = some (some (.ref f)) ∧ HZ c' = some (LamX.CodeO c' q) ∧ tl E HZ Q)) →
      ∃ t, PSs (cxOf CX0 X.prog X.w X.K X.mg X.base N x sg g cdg X.A X.stack s H Cc.E0).nox bg t ∧ ∀ (Y0 : Addr → Bool) (m : M D) (A : ActOk W Y0 H c' q tl m), GS (lamW W f c' q H A.i) Cc.E0 t (b m)) :
    LamX.GivesTo X N x sg g cdg bg a q (TTw W (defL N.length b)) := fun f c' s H Q tl act hc ⟨Y, m, ok, htl, w⟩ => by
  obtain ⟨t, h1, h2⟩ := hb f c' s H tl act
  refine ⟨t, h1, ?_⟩
  have A : ActOk W Y H c' q tl m := ⟨ok.1, hc, ok, htl⟩
  have e0 : Ext W H H := .refl ok.1
  have sr : SR (lamW W f c' q H A.i) Y ⟨[(H, W.X)], none⟩ (L2.start N [.ref f]) H (.row :: List.replicate (N.length - 1) .no) [] := {
    ok := ⟨⟨e0, hc⟩, ok.2⟩
    bs := fun k hk => by
      rw [List.mem_singleton.mp hk]
      exact ⟨fun _ h => h, fun _ _ e _ => e⟩
    len := by simp [L2.start]
    fre := fun p hp => nomatch hp
    nd := .nil
    sl := fun i t' ht => by
      cases i with
      | zero =>
        cases ht
        rfl
      | succ i =>
        rw [List.getElem?_cons_succ] at ht
        rw [(List.mem_replicate.mp (List.mem_of_getElem? ht)).2]
        trivial }
  refine h2 Y m A Y ⟨[(H, W.X)], none⟩ _ H _ _ ⟨[], sr⟩ (M.wp_mono (fun fl hf => ?_) (fun c p hc => hc.elim) _ ((M.wp_bind _).mp w))
  cases fl with
  | nx ρ' => exact fun σ' H' ⟨L, s⟩ => hf .non H' s.ok.1.1 .non
  | rt d => exact fun v H' k hv => hf v H' k.1.1 hv
  | bk _ => exact hf.elim
  | rs _ _ _ _ => exact hf.elim
  | ct _ => exact hf.elim
theorem ge_lam {T : List (Addr × Str)} {P : Addr} {F : M D → M D} {t : XK → TE} {mb : Env → M D} (tab : ∀ H, W.I H → LamX.Tabs T H) (xt : ∀ H H', W.I H → But [P] H H' → LamX.Tabs T H' → Ext W H H') (h : ∀ E', GE W E' (t E') mb) : GE W E (tLamS T P (TTw W F) t) (fun ρ => (F (mb ρ)).calm) := fun Y σ H ρ Q o e w =>
  ⟨tab H o.1, fun H1 b tb => by
    have x := xt H H1 o.1 b tb
    exact ⟨Y, mb ρ, o.ext x, fun E' H' Q' o' x' w' => h E' Y σ H' ρ Q' o' ((e.up o x).up (o.ext x) x') w', M.wp_mono (fun d hd => hd.up x) (fun _ _ h => h) _ (M.wp_calm (E' := fun _ _ => False) _ w)⟩⟩
end
theorem lamB_tab {K : Fg} {ct : List Str → Option Addr} {cls : Nat → Addr} {ea : Str → Option Addr} {ef : Str → List Str} {S : Addr × List Int} {r P : Addr} {q : Str} : ∀ H, (lamB K ct cls ea ef S r P q).I H → LamX.Tabs [(P, q)] H := fun _ h => h.2
theorem lamB_ext {K : Fg} {ct : List Str → Option Addr} {cls : Nat → Addr} {ea : Str → Option Addr} {ef : Str → List Str} {S : Addr × List Int} {r P : Addr} {q : Str} : ∀ H H', (lamB K ct cls ea ef S r P q).I H → But [P] H H' → LamX.Tabs [(P, q)] H' → Ext (lamB K ct cls ea ef S r P q) H H' := fun H H' h b t => by
  refine ⟨fun c o e x => b c o e (by
    have : c ≠ P := fun z => by subst z; simp [lamB] at x
    simpa using this), ?_, t⟩
  obtain ⟨pos, rng, rest, h1, h2, h3, h4⟩ := h.1
  obtain ⟨ps, hP, _⟩ := h.2 (P, q) (by simp)
  have nP : ∀ b o, H b = some o → (∀ ps, o ≠ .tbl ps) → b ∉ [P] := fun b o e n m => by
    rw [List.mem_singleton.mp m, hP] at e
    exact n ps (Option.some.inj e).symm
  refine ⟨pos, rng, rest, b _ _ h1 (nP _ _ h1 fun _ z => nomatch z), ?_, h3, h4⟩
  rcases h2 with (h2 | ⟨o, h2⟩) | h2
  · exact .inl (.inl (b _ _ h2 (nP _ _ h2 fun _ z => nomatch z)))
  · exact .inl (.inr ⟨o, b _ _ h2 (nP _ _ h2 fun _ z => nomatch z)⟩)
  · exact .inr h2
def spLawP (K : Fg) (P0 : Addr) : Sp := fun vs H Q _ => ∃ (a : Addr) (ns : List Int), vs = [.ref a] ∧ SqL K H a (ns.map V.int) ∧ ns.length ≤ 63 ∧ H P0 = some (.tbl #[]) ∧ ∀ H', Q (.bl true) H'
abbrev qLam : Str := ("law" : Str) ++ ".<locals>." ++ "<lambda>"
theorem ok_lawL {P : Program} {w : World} {K : Fg} {mg : Str → Option Value} {base : Heap} {st : Stmt} {f c0 P0 : Addr} {N : List Str} {k : Nat} {a : Env → M Fl} {ct : List Str → Option Addr} {cls : Nat → Addr} {ea : Str → Option Addr} {ef : Str → List Str} {oc dc pm ctv kV : Value} {od an : Option Addr} {sl : Array (Option Value)}
    (lk : K.lookup f = some ⟨oc, od, .func (PySem.W.fnOf "law" "law" (defArgs st) (defBody st) (defScope st) .none kV dc pm an (.ref c0) ctv), sl⟩) (hcd : PySem.W.codeIn K (.ref c0) "law" = true) (S : FnScope N ["_law_script"] (defScope st)) (hN : 2 ≤ N.length)
    (hb : ∀ (A : Around) (outer : List PySem.Env) (s : Shared) (H : Hp) (E : XK), Room k (A.deeper (PyProof.Rows.envOfC "law" (defScope st) s.heap.objs.size f (.ref c0))) → ∃ t : (Addr × List Int) × Addr → TS, PSs (cxOf CX0 P w K mg base N "law" (defScope st) f (.ref c0) A outer s H E).nox (defBody st) (tSeq tRow fun D σ H => ∃ i, t i D σ H) ∧ ∀ i, GS (lamB K ct cls ea ef i.1 i.2 P0 qLam) Cc.E0 (t i) a)
    (hw : (lawM N.length a).wp (fun d => d = .bl true) (fun _ _ => False)) : FnOk P w K mg base CX0 (k + 1) f (PySem.W.fnOf "law" "law" (defArgs st) (defBody st) (defScope st) .none kV dc pm an (.ref c0) ctv) ["_law_script"] (spLawP K P0) := by
  refine fn_of lk hcd S (fun vs H Q E h => ?_) (fun A outer s H vs Q E hr h => ?_)
  · obtain ⟨b, ns, rfl, _⟩ := h
    rfl
  · obtain ⟨b, ns, rfl, hS, hlen, hP, hq⟩ := h
    obtain ⟨t, h1, h2⟩ := hb A outer s H E hr
    refine ⟨_, h1.nox, .ref b, rfl, by simp [sizeLine_eq], fun r hr0 => ?_⟩
    have e1 := Same.new (o := .lst [.ref b, .int 0, .int 0, .int 0]) hr0
    have hrow : Row K (b, ns) (upd H r (.lst [.ref b, .int 0, .int 0, .int 0])) r := ⟨0, 0, 0, upd_same, same_l e1 hS, ind_new hS hr0, hlen, by omega⟩
    have htab : LamX.Tabs [(P0, qLam)] (upd H r (.lst [.ref b, .int 0, .int 0, .int 0])) := LamX.Tabs.ext (fun p hp => by rw [List.mem_singleton.mp hp]; exact LamX.TabS.nil hP) e1
    have hcell : (upd H r (.lst [.ref b, .int 0, .int 0, .int 0])) r = some (.lst [.ref b, .int 0, .int 0, .int 0]) := upd_same
    have hcelP : (upd H r (.lst [.ref b, .int 0, .int 0, .int 0])) P0 = some (.tbl #[]) := e1 _ _ hP
    generalize upd H r (.lst [.ref b, .int 0, .int 0, .int 0]) = H1 at hrow hcell htab hcelP ⊢
    refine ⟨((b, ns), r), ?_⟩
    let W := lamB K ct cls ea ef (b, ns) r P0 qLam
    have sr : SR W W.X ⟨[(H1, W.X)], none⟩ ((L2.start N [.ref b]).set 1 (some (.ref r))) H1 (.no :: .row :: List.replicate (N.length - 2) .no) [] := {
      ok := ⟨⟨hrow, htab⟩, fun _ h => h, fun c hc => W.cell (H := H1) ⟨hrow, htab⟩ hc⟩
      bs := fun k hk => by
        rw [List.mem_singleton.mp hk]
        exact ⟨fun _ h => h, fun _ _ e _ => e⟩
      len := by simp [L2.start]; omega
      fre := fun p hp => nomatch hp
      nd := .nil
      sl := fun i t' ht => by
        match i with
        | 0 => cases ht; trivial
        | 1 =>
          cases ht
          show ((L2.start N [.ref b]).set 1 (some (.ref r)))[1]? = some (some (V.ref r))
          rw [List.getElem?_set_self]
          simp [L2.start]; omega
        | i + 2 =>
          rw [List.getElem?_cons_succ, List.getElem?_cons_succ] at ht
          rw [(List.mem_replicate.mp (List.mem_of_getElem? ht)).2]
          trivial }
    refine h2 ((b, ns), r) W.X ⟨[(H1, W.X)], none⟩ _ H1 _ _ ⟨[], sr⟩ (M.wp_mono (fun fl hf => ?_) (fun c p hc => hc.elim) _ ((M.wp_bind _).mp hw))
    cases fl with
    | nx ρ' => exact absurd (show D.non = D.bl true from hf) (by simp)
    | rt d =>
      obtain rfl : d = .bl true := hf
      exact fun v H' _ hv => by cases hv; exact hq H'
    | bk _ => exact hf.elim
    | rs _ _ _ _ => exact hf.elim
    | ct _ => exact hf.elim
end Mi

namespace Mi
open PySem L2 Cc
def gNames : List Nat → TGs
  | [] => gNil
  | i :: r => gCons (gName i) (gNames r)
def setAll : List Nat → List Sl → Env → Env
  | i :: is, t :: ts, ρ => setAll is ts (ρ.set i t)
  | _, _, ρ => ρ
def sTupX (is : List Nat) (ags : List Ag) : Env → M Fl := fun ρ => (agGo ags ρ).bind fun ts => .ret (.nx (setAll is ts ρ))
section
variable {K : Fg} {W : Wd K} {E : XK} {Y : Addr → Bool} {B : Bases}
theorem VRs.len {H : Hp} {L : List (Nat × Addr)} {is : List Nat} {vs : List V} {ts : List Sl} (h : VRs W Y H L is vs ts) : vs.length = is.length := by
  induction h with
  | nil => rfl
  | cons _ _ ih => simp [ih]
theorem names_run {H : Hp} {L : List (Nat × Addr)} {Dn : Ends} : ∀ {is : List Nat} {vs : List V} {ts : List Sl} {σ : L2.St} {ρ : Env}, VRs W Y H L is vs ts → SR W Y B σ H ρ L → FlP W Y B Dn (.nx (setAll is ts ρ)) → gNames is vs σ H Dn.nx
  | [], _, _, σ, ρ, h, s, w => by
    cases h
    exact ⟨rfl, w σ H ⟨L, s⟩⟩
  | i :: is, _, _, σ, ρ, h, s, w => by
    cases h with
    | cons h1 h2 => exact ⟨_, _, rfl, names_run h2 (s.putV h1) w⟩
theorem gs_tupX {is : List Nat} {ta : TA} {ags : List Ag} {n : Nat} (h : GX W E ta ags) (hn : is.length = n := by rfl) (hl : is.length = ags.length := by rfl) (hs : is.length ≤ 1000 := by decide) : GS W E (tAsg (tTupP ta) (gTup K n (gNames is))) (sTupX is ags) := fun Y B σ H ρ Dn ⟨L, s⟩ w => by
  refine gx_run h is H L _ _ hl s ((M.wp_bind _).mp w) fun ts vs H' L' hR s' hvs _ => ⟨by have := hvs.len; rw [sizeLine_eq]; omega, fun p o hp ho => ?_⟩
  have e := Ext.of s'.ok.1 (Same.new (o := .frz o (.tup vs)) hp)
  exact ⟨p, vs, rfl, .inl (.inr ⟨o, upd_same⟩), by rw [hvs.len, hn], names_run (hvs.up s' e) (s'.up e) hR⟩
end
end Mi

namespace Mi
open PySem Cc
theorem at0 {α : Type} {a : α} {l : List α} : (a :: l)[(0 : Nat)]? = some a := rfl
theorem forGo_run {α : Type} {p : Pat} {b : Env → M Fl} (f : α → D) (P : List α → Env → Prop) (h : ∀ x xs ρ, P (x :: xs) ρ → ∃ ρ1 ρ2, p (f x) ρ = some ρ1 ∧ b ρ1 = .ret (.nx ρ2) ∧ P xs ρ2) :
    ∀ (xs : List α) (ρ : Env), P xs ρ → ∃ ρ', forGo p b (xs.map f) ρ = .ret (.nx ρ') ∧ P [] ρ'
  | [], ρ, hp => ⟨ρ, rfl, hp⟩
  | x :: xs, ρ, hp => by
    obtain ⟨ρ1, ρ2, h1, h2, h3⟩ := h x xs ρ hp
    obtain ⟨ρ', h4, h5⟩ := forGo_run f P h xs ρ2 h3
    refine ⟨ρ', ?_, h5⟩
    rw [List.map_cons, forGo, h1]
    dsimp only
    rw [h2, M.bind_ret]
    exact h4
theorem lcGo_map {α : Type} {p : Pat} {c : Env → M Bool} {e : Env → M D} {ρ : Env} (f : α → D) (g : α → D) : ∀ (xs : List α), (∀ x ∈ xs, ∃ ρ1, p (f x) ρ = some ρ1 ∧ c ρ1 = .ret true ∧ e ρ1 = .ret (g x)) → lcGo p c e ρ (xs.map f) = .ret (xs.map g)
  | [], _ => rfl
  | x :: xs, h => by
    obtain ⟨ρ1, h1, h2, h3⟩ := h x (by simp)
    rw [List.map_cons, lcGo, h1]
    dsimp only
    rw [h2, M.bind_ret, if_pos rfl, h3, M.bind_ret, lcGo_map f g xs fun y hy => h y (List.mem_cons_of_mem _ hy), M.bind_ret, List.map_cons]
end Mi

namespace Mi
open PySem L2 Cc
structure Wp {α : Type} (m : M α) (Q : α → Prop) (E : Str → List D → Prop) : Prop where
  out : m.wp Q E
section
variable {a b : Env → M Fl} {c : Env → M Bool} {ρ ρ' : Env} {Q Q' : Fl → Prop} {E : Str → List D → Prop} {m : Env → M D}
theorem wp_next (h : a ρ = .ret (.nx ρ')) (k : Wp (b ρ') Q E) : Wp (sSeq a b ρ) Q E := ⟨by
  unfold sSeq
  rw [h, M.bind_ret]
  exact k.out⟩
theorem wp_drawn {s : Env → M Fl} {n : Int} {f : Int → M Fl} (h : s ρ = .draw n f) (hn : 0 < n ∧ n < 1073741824) (k : ∀ d : Int, 0 ≤ d → d < n → ∃ ρ', f d = .ret (.nx ρ') ∧ Wp (b ρ') Q E) : Wp (sSeq s b ρ) Q E := ⟨by
  unfold sSeq
  rw [h]
  refine ⟨hn, fun d h0 h1 => ?_⟩
  obtain ⟨ρ', e, w⟩ := k d h0 h1
  show ((f d).bind fun fl => fl.next b).wp Q E
  rw [e]
  exact w.out⟩
theorem wp_seq (h : Wp (a ρ) (fun fl => ∃ ρ', fl = .nx ρ' ∧ Wp (b ρ') Q E) E) : Wp (sSeq a b ρ) Q E := ⟨by
  unfold sSeq
  rw [M.wp_bind]
  refine M.wp_mono (fun fl hf => ?_) (fun _ _ h => h) _ h.out
  obtain ⟨ρ', rfl, w⟩ := hf
  exact w.out⟩
theorem wp_ret {fl : Fl} (h : a ρ = .ret fl) (k : Q fl) : Wp (a ρ) Q E := ⟨by rw [h]; exact k⟩
theorem Wp.mono (h : Wp (a ρ) Q E) (k : ∀ fl, Q fl → Q' fl) : Wp (a ρ) Q' E := ⟨M.wp_mono k (fun _ _ h => h) _ h.out⟩
theorem wp_rng {i : Nat} {n : Nat} {mn : Env → M D} (P : Env → Prop) (hn : mn ρ = .ret (.int n)) (hr : rgOk 0 n = true) (hp : P ρ) (h : ∀ (ρ : Env) (k : Nat), k < n → P ρ → Wp (a (ρ.set i (.dat (.int (k : Int))))) (fun fl => ∃ ρ', fl = .nx ρ' ∧ P ρ') E) (q : ∀ ρ, P ρ → Wp (b ρ) Q E) : Wp (sSeq (sFor (rg1 mn) (pName i) a) b ρ) Q E := by
  refine wp_seq ⟨?_⟩
  unfold sFor rg1
  rw [hn]
  simp only [M.bind_ret]
  rw [if_pos hr, M.bind_ret]
  unfold rgD
  rw [Int.sub_zero, Int.toNat_natCast]
  have key : ∀ (l : List Nat) (ρ : Env), (∀ x ∈ l, x < n) → P ρ → (forGo (pName i) a (l.map fun k : Nat => D.int (0 + (k : Int))) ρ).wp (fun fl => ∃ ρ', fl = .nx ρ' ∧ Wp (b ρ') Q E) E := by
    intro l
    induction l with
    | nil => exact fun ρ _ hp => ⟨ρ, rfl, q ρ hp⟩
    | cons x l ih =>
      intro ρ hl hp
      rw [List.map_cons, forGo]
      show ((a (ρ.set i (.dat (.int (0 + (x : Int)))))).bind _).wp _ _
      rw [M.wp_bind, Int.zero_add]
      refine M.wp_mono (fun fl hf => ?_) (fun _ _ h => h) _ (h ρ x (hl x (by simp)) hp).out
      obtain ⟨ρ', rfl, hp'⟩ := hf
      exact ih ρ' (fun y hy => hl y (List.mem_cons_of_mem _ hy)) hp'
  exact key _ ρ (fun x hx => List.mem_range.mp hx) hp
end
theorem law_of {n : Nat} {a : Env → M Fl} {E : Str → List D → Prop} (h : (a (.no :: .row :: List.replicate (n - 2) .no)).wp (fun fl => fl = .rt (.bl true)) E) : (lawM n a).wp (fun d => d = .bl true) E := by
  unfold lawM
  rw [M.wp_bind]
  exact M.wp_mono (fun fl h => by subst h; rfl) (fun _ _ h => h) _ h
theorem law_ofW {n : Nat} {a : Env → M Fl} {E : Str → List D → Prop} (h : Wp (a (.no :: .row :: List.replicate (n - 2) .no)) (fun fl => fl = .rt (.bl true)) E) : Wp (lawM n a) (fun d => d = .bl true) E := ⟨law_of h.out⟩
theorem int_lt {i : Int} {n : Nat} (h0 : 0 ≤ i) (h : i < (n : Int)) : ∃ k : Nat, k < n ∧ i = (k : Int) := ⟨i.toNat, by omega, by omega⟩
end Mi

namespace Mi
open PySem L2 Cc
section
variable {a b : Env → M Fl} {ρ : Env} {Q : Fl → Prop} {E : Str → List D → Prop}
theorem rg_ok' {n : Nat} (h : n ≤ 100000) : rgOk 0 (n : Int) = true := by
  unfold rgOk
  rw [decide_eq_true (show (-1000000 : Int) ≤ 0 by omega), decide_eq_true (show (0 : Int) ≤ 1000000 by omega), decide_eq_true (show (-1000000 : Int) ≤ (n : Int) by omega), decide_eq_true (show (n : Int) ≤ 1000000 by omega)]
  rfl
theorem rgD_nat (n : Nat) : rgD 0 (n : Int) = (List.range n).map fun k : Nat => D.int (k : Int) := by
  unfold rgD
  rw [Int.sub_zero, Int.toNat_natCast]
  exact List.map_congr_left fun k _ => by rw [Int.zero_add]
end
theorem lc_drawn {n : Nat} {p : Pat} {e : Env → M D} {ρ : Env} {E : Str → List D → Prop} {G : D → Prop} {R : List D → Prop} (h : ∀ k : Nat, ∃ ρ1, p (.int (k : Int)) ρ = some ρ1 ∧ (e ρ1).wp G E) (k : ∀ ds : List D, ds.length = n → (∀ d ∈ ds, G d) → R ds) : (lcGo p cYes e ρ ((List.range n).map fun k : Nat => D.int (k : Int))).wp R E := by
  have key : ∀ (l : List Nat) (R : List D → Prop), (∀ ds : List D, ds.length = l.length → (∀ d ∈ ds, G d) → R ds) → (lcGo p cYes e ρ (l.map fun k : Nat => D.int (k : Int))).wp R E := by
    intro l
    induction l with
    | nil => exact fun R k => k [] rfl fun _ h => nomatch h
    | cons x l ih =>
      intro R k
      obtain ⟨ρ1, h1, h2⟩ := h x
      rw [List.map_cons, lcGo, h1]
      show ((e ρ1).bind fun x => (lcGo p cYes e ρ (l.map fun k : Nat => D.int (k : Int))).bind fun xs => M.ret (x :: xs)).wp R E
      rw [M.wp_bind]
      refine M.wp_mono (fun d hd => ?_) (fun _ _ h => h) _ h2
      rw [M.wp_bind]
      exact ih _ fun ds hl hG => k (d :: ds) (by simp [hl]) fun z hz => by
        rcases List.mem_cons.mp hz with rfl | hz
        · exact hd
        · exact hG z hz
  exact key _ R fun ds hl hG => k ds (by rw [hl, List.length_range]) hG
end Mi

namespace Mi
open PySem L2 Cc
abbrev XM := Env → M (Env × D)
section
variable {K : Fg} {W : Wd K} {E : XK}
section
variable {Y : Addr → Bool} {B : Bases} {σ : L2.St} {H H' : Hp} {ρ : Env} {L : List (Nat × Addr)}
end
def RetX (W : Wd K) (Y : Addr → Bool) (B : Bases) (σ : L2.St) (H : Hp) (L : List (Nat × Addr)) (Q : VK) : Env × D → Prop := fun r => ∀ v H', St (YL Y L) H H' → SR W Y B σ H' r.1 L → Dm W (YL Y L) H' v r.2 → Q v H'
def RetXA (W : Wd K) (Y : Addr → Bool) (B : Bases) (σ : L2.St) (H : Hp) (L : List (Nat × Addr)) (Q : List V → Hp → Prop) : Env × List D → Prop := fun r => ∀ vs H', St (YL Y L) H H' → SR W Y B σ H' r.1 L → Dms W (YL Y L) H' vs r.2 → Q vs H'
def JX (W : Wd K) (E : XK) (te : TE) (m : XM) : Prop := ∀ Y B σ H ρ L Q, SR W Y B σ H ρ L → (m ρ).wp (RetX W Y B σ H L Q) (ErrB W E B) → te σ H Q
def JXA (W : Wd K) (E : XK) (ta : TA) (m : Env → M (Env × List D)) : Prop := ∀ Y B σ H ρ L Q, SR W Y B σ H ρ L → (m ρ).wp (RetXA W Y B σ H L Q) (ErrB W E B) → ta σ H Q
section
variable {te tb : TE} {ta : TA} {a b m : XM} {t : Env → M (Env × List D)} {Y : Addr → Bool} {B : Bases} {σ : L2.St} {H H1 H2 : Hp} {ρ : Env} {L : List (Nat × Addr)}
theorem St.tr {Y : Addr → Bool} {H H1 H2 : Hp} (a : St Y H H1) (b : St Y H1 H2) : St Y H H2 := fun c o h hy => b c o (a c o h hy) hy
theorem Dm.st {v : V} {d : D} (h : Dm W (YL Y L) H v d) (st : St (YL Y L) H H1) : Dm W (YL Y L) H1 v d := Dn.up h (mask_go st fun _ h => .inl h)
theorem Dms.st {v : List V} {d : List D} (h : Dms W (YL Y L) H v d) (st : St (YL Y L) H H1) : Dms W (YL Y L) H1 v d := Dns.up h (mask_go st fun _ h => .inl h)
theorem JX.seq {α : Type} {f : Env × D → M α} {R : α → Prop} {Q : VK} (h : JX W E te m) (s : SR W Y B σ H ρ L) (w : ((m ρ).bind f).wp R (ErrB W E B))
    (k : ∀ r v H1, St (YL Y L) H H1 → SR W Y B σ H1 r.1 L → Dm W (YL Y L) H1 v r.2 → (f r).wp R (ErrB W E B) → Q v H1) : te σ H Q :=
  h Y B σ H ρ L Q s (M.wp_mono (fun r hr v H1 st s1 hv => k r v H1 st s1 hv hr) (fun _ _ h => h) _ ((M.wp_bind _).mp w))
theorem JXA.seq {α : Type} {f : Env × List D → M α} {R : α → Prop} {Q : List V → Hp → Prop} (h : JXA W E ta t) (s : SR W Y B σ H ρ L) (w : ((t ρ).bind f).wp R (ErrB W E B))
    (k : ∀ r v H1, St (YL Y L) H H1 → SR W Y B σ H1 r.1 L → Dms W (YL Y L) H1 v r.2 → (f r).wp R (ErrB W E B) → Q v H1) : ta σ H Q :=
  h Y B σ H ρ L Q s (M.wp_mono (fun r hr v H1 st s1 hv => k r v H1 st s1 hv hr) (fun _ _ h => h) _ ((M.wp_bind _).mp w))
end
section
variable {te tb : TE} {ta : TA} {a b m : XM} {t : Env → M (Env × List D)} {e : Env → M D} {g : Env → M (List D)}
end
end
end Mi

namespace Mi
open PySem L2 Cc
section
variable {K : Fg} {W : Wd K} {E : XK}
section
variable {Y Y' : Addr → Bool} {B : Bases} {σ : L2.St} {H H' : Hp} {ρ : Env} {L : List (Nat × Addr)}
theorem SR.sub (s : SR W Y' B σ H ρ L) (hs : ∀ a, Y a = true → Y' a = true) (hX : ∀ a, W.X a = true → Y a = true) : SR W Y B σ H ρ L where
  ok := ⟨s.ok.1, hX, fun a ha => s.ok.2.2 a (hs a ha)⟩
  bs := s.bs
  len := s.len
  fre := fun q hq => by
    obtain ⟨h1, h2, h3, h4⟩ := s.fre q hq
    refine ⟨h1, h2, ?_, h4⟩
    cases z : Y q.2 with
    | false => rfl
    | true => rw [hs _ z] at h3; cases h3
  nd := s.nd
  sl := fun j t ht => by
    have less : ∀ a, YL Y L a = true → YL Y' L a = true := fun a ha => by
      rcases YL_or ha with h | ⟨p, hp, rfl⟩
      · exact YL_y (hs a h)
      · exact YL_l hp
    have q := s.sl j t ht
    cases t with
    | no => trivial
    | dat d' => obtain ⟨w, h1, h2⟩ := q; exact ⟨w, h1, h2.less less⟩
    | own ds => obtain ⟨l, ys, h1, h2, h3, h4⟩ := q; exact ⟨l, ys, h1, h2, h3, h4.less less⟩
    | dkR _ => exact q.elim
    | dk ds => obtain ⟨l, ys, h1, h2, h3, h4⟩ := q; exact ⟨l, ys, h1, h2, h3, h4.less less⟩
    | dn w0 ks0 ds => obtain ⟨l, ys, h1, h2, h3, h4⟩ := q; exact ⟨l, ys, h1, h2, h3, DnQ.less h4 less⟩
    | slf k C ns ds => obtain ⟨x2, dx, fs, h1, hS2, h2, h3, h4, h5, h6⟩ := q; exact ⟨x2, dx, fs, h1, hS2, h2, h3, h4, h5, h6.less less⟩
    | row => exact q
end
end
end Mi

namespace Mi
open PySem L2 Cc
section
variable {K : Fg} {W : Wd K} {E : XK} {te : TE} {m : Env → M D}
end
section
variable {P : Program} {w : World} {K : Fg} {mg : Str → Option Value} {base : Heap} {W : Wd K}
end
end Mi

namespace Cc
open PySem L2 PyProof.Rows
section
variable {X : Cx} {CX : CXT} {n m : Nat} {mt : Str} {C : Addr} {ps : List Str} {sp : Sp} {E : XK} {o : Expr} {ta : TE} {pos apos : Pos}
end
end Cc
namespace Mi
open PySem L2 Cc
section
variable {K : Fg} {W : Wd K} {E : XK}
end
end Mi

namespace Mi
open PySem L2 Cc
section
variable {K : Fg} {W : Wd K} {E : XK}
end
end Mi

namespace Cc
open PySem PySem.Spec L2 PyProof.Rows
section
variable {X : Cx}
end
end Cc

namespace Mi
open PySem L2 Cc
section
variable {K : Fg} {W : Wd K} {E : XK} {Hm : Hp}
end
end Mi

namespace Cc
open PySem PySem.Spec L2 PyProof.Rows
section
variable {X : Cx} {pins : List (Addr × Obj)} {σ : L2.St} {H : Hp} {s s' : Shared} {W : WX} {E : XK}
end
section
variable {X : Cx} {W : WX}
end
end Cc

namespace CcK
open PySem PySem.Spec L2 Cc PyProof.Rows PySem.W
section
variable {X : Cx} {pins : List (Addr × Obj)} {σ : L2.St} {s : Shared}
end
section
variable {X : Cx} {n m : Nat} {f : Addr} {fd : FuncData} {ps : List Str} {sp : Sp}
theorem key_turn {pins : List (Addr × Obj)} {σ : L2.St} {H : Hp} {s : Shared} {A : Around} {u : Value} {x : V} {Q : VK} (F : FnOk X.prog X.w X.K X.mg X.base CX0 n f fd ps sp) (hb : L2.Binds X.K fd ps []) (hA : A.frames = some X.stack) (hr : Room n A) (I : Inv X pins σ H s) (rx : RelV x u) (h : sp [x] H Q Cc.E0) {E : Value → Shared → Prop} :
    wpAny (model X.prog X.w) A (call (.ref f) [u]) (EP X pins σ Q) E s := by
  have e0 := I.env0
  have e1 : Env0 X.prog X.w X.K X.mg X.base A X.stack s H := ⟨hA, e0.mod, e0.bs, e0.bsz, e0.funs, e0.frf, e0.hok, e0.bare⟩
  have rv : Vals [x] [u] := .cons rx .nil
  have hl := F.len _ _ _ _ h
  have b := hb s [u] I.kIn (by rw [List.append_nil]; exact hl)
  rw [List.append_nil] at b
  refine wpAny_call (codeAny_mono (F.run A X.stack s H ⟨[u], []⟩ [u] [x] Q Cc.E0 hr e1 b rv h) fun r s' hq => ?_)
  cases r with
  | error e => exact hq.elim
  | ok fl =>
    cases fl with
    | ret u => exact I.after hq
    | next => exact False.elim hq
    | brk => exact False.elim hq
    | cont => exact False.elim hq

theorem fpAt {H H' : Hp} {b : Addr} {pins : List (Addr × Obj)} (h : FpOk X pins H b) (n : H' b = none) : FpOk X pins H' b := ⟨n, h.2⟩
end
end CcK

namespace Mi
open PySem L2 Cc PySem.W
section
variable {K : Fg} {W : Wd K} {E : XK} {te : TE} {a : Env → M D}
end
end Mi

namespace Mi
open PySem L2 Cc PySem.W
section
variable {K : Fg} {W : Wd K} {E : XK} {ta tb te : TE} {a b m : Env → M D}
end
end Mi
namespace Mi
open PySem L2 Cc
end Mi

namespace Mi
open PySem L2 Cc PySem.W
section
variable {K : Fg} {W : Wd K} {E : XK} {te : TE} {m : Env → M D}
end
end Mi

namespace Cc
open PySem PySem.Spec PyProof.Rows
section
variable {prog : Program} {w : World} {A : Around} {R : Result → Shared → Prop} {I : Addr} {fp wr : List Addr} {G : Array GenState → Array GenState → Prop} {n : Nat} {P : Nat → Value → Prop} {St : Nat → Shared → Prop}
end
section
variable {prog : Program} {w : World} {A : Around} {E : Value → Shared → Prop} {s : Shared}
end
end Cc
namespace Cc
open PySem PySem.Spec L2 PyProof.Rows
end Cc

namespace Mi
open PySem L2 Cc PySem.W
section
variable {K : Fg} {W : Wd K} {E : XK} {ta : TE} {a : Env → M D}
end
end Mi

namespace Cc
open PySem PySem.Spec L2 PyProof.Rows
end Cc

namespace Mi
open PySem L2 Cc PySem.W
section
variable {K : Fg} {W : Wd K} {E : XK} {te : TE} {m : Env → M D}
end
end Mi

namespace Cc
open PySem PySem.Spec L2 PyProof.Rows
section
variable {P : Program} {w : World} {H : Hp} {h : Heap}
mutual
theorem nk_is (ok : HOk P w H h) : ∀ (k : NestedKey) (v : V) (u : Value), NkV H k v → RelV v u → NestedIs h k u
  | .none, _, u, x, r => by
    cases x
    rw [show u = Value.none from r]
    exact .none
  | .num i, _, u, x, r => by
    cases x
    obtain ⟨t, rfl⟩ := (show ∃ t, u = Value.int i t from r)
    exact .int i t
  | .text y, _, u, x, r => by
    cases x
    obtain ⟨t, rfl⟩ := (show ∃ t, u = Value.str y t from r)
    exact .text y t
  | .tup ks, _, u, x, r => by
    cases x with
    | @tup b _ vs hb hk =>
      obtain rfl : u = Value.ref b := r
      obtain ⟨ob, _, hb⟩ := hb
      obtain ⟨_, _, its, rv, o, h1, h2, n, h3⟩ := (show ObjOk P w H h b (.frz ob (.tup vs)) from ok b _ hb)
      exact .tup h1 h2 h3 (by simpa using nks_are ok ks vs its hk rv)
theorem nks_are (ok : HOk P w H h) : ∀ (ks : List NestedKey) (vs : List V) (us : List Value), NkVs H ks vs → Vals vs us → NestedAll h ks us
  | [], _, us, x, r => by
    cases x
    cases r
    exact .nil
  | k :: ks, _, us, x, r => by
    cases x with
    | cons x1 x2 =>
      cases r with
      | cons r1 r2 => exact .cons (nk_is ok k _ _ x1 r1) (nks_are ok ks _ _ x2 r2)
end
end
abbrev dnP (xs : List Ent) (vs : List V) : List (NestedKey × V) := (xs.map (·.1)).zip vs
def KN (H : Hp) (kvs : List (NestedKey × V)) (xs : List Ent) : Prop :=
  Paired (fun (p : NestedKey × V) (q : Ent) => p.1 = q.1 ∧ (NkV H p.1 (.ref q.2.1) ∧ p.1.depth ≤ 8) ∧ RelV p.2 q.2.2) kvs xs
theorem kn_of {H : Hp} : ∀ {xs : List Ent} {vs : List V}, (∀ x ∈ xs, NkV H x.1 (.ref x.2.1) ∧ x.1.depth ≤ 8) → Vals vs (xs.map (·.2.2)) → KN H (dnP xs vs) xs
  | [], _, _, h => by cases h; exact .nil
  | x :: xs, _, k, h => by
    cases h with
    | cons h1 h2 => exact .cons ⟨rfl, k x List.mem_cons_self, h1⟩ (kn_of (fun y hy => k y (List.mem_cons_of_mem _ hy)) h2)
theorem DnE.kn {H : Hp} {w : World} {es : Array DictEntry} {xs : List Ent} {vs : List V} (h : DnE H w es xs vs) : KN H (dnP xs vs) xs := kn_of h.key h.val
theorem DnE.len {H : Hp} {w : World} {es : Array DictEntry} {xs : List Ent} {vs : List V} (h : DnE H w es xs vs) : es.size = xs.length ∧ vs.length = xs.length := by
  refine ⟨?_, by have := h.val.length; simpa using this⟩
  have := congrArg List.length h.es
  simpa using this
theorem KN.back {H : Hp} {kvs : List (NestedKey × V)} {xs : List Ent} (r : KN H kvs xs) : (∀ x ∈ xs, NkV H x.1 (.ref x.2.1) ∧ x.1.depth ≤ 8) ∧ Vals (kvs.map (·.2)) (xs.map (·.2.2)) ∧ kvs = dnP xs (kvs.map (·.2)) := by
  induction r with
  | nil => exact ⟨fun x hx => (nomatch hx), .nil, rfl⟩
  | @cons p q ps qs h t ih =>
    obtain ⟨h1, h2, h3⟩ := h
    obtain ⟨i1, i2, i3⟩ := ih
    refine ⟨fun x hx => ?_, .cons h3 i2, ?_⟩
    · rcases List.mem_cons.mp hx with e | hx
      · subst e; rw [← h1]; exact h2
      · exact i1 x hx
    · show p :: ps = (q.1, p.2) :: dnP qs (ps.map (·.2))
      rw [← h1, ← i3]
theorem KN.val {H : Hp} {kvs : List (NestedKey × V)} {xs : List Ent} (r : KN H kvs xs) (k : NestedKey) : RelO (valV kvs k) ((atKey xs k).map (·.2)) := by
  induction r with
  | nil => exact True.intro
  | @cons p q ps qs h t ih =>
    obtain ⟨h1, _, h2⟩ := h
    by_cases e : p.1 = k
    · have e' : q.1 = k := h1.symm.trans e
      have b : atKey (q :: qs) k = some q.2 := by simp [atKey, List.find?_cons, e']
      rw [valV_pos e, b]
      exact h2
    · have e' : ¬ q.1 = k := fun z => e (h1.trans z)
      have b : atKey (q :: qs) k = atKey qs k := by simp [atKey, List.find?_cons, e']
      rw [valV_neg e, b]
      exact ih
theorem KN.keeps {H H' : Hp} {kvs : List (NestedKey × V)} {xs : List Ent} (r : KN H kvs xs) (e : ∀ b ys, PlT H b ys → PlT H' b ys) : KN H' kvs xs :=
  Paired.mapP r fun _ _ z => ⟨z.1, ⟨NkV.ext e _ _ z.2.1.1, z.2.1.2⟩, z.2.2⟩
theorem KN.put {H : Hp} {kvs : List (NestedKey × V)} {xs : List Ent} (r : KN H kvs xs) {k : NestedKey} {b : Addr} {y : V} {u : Value} (hb : NkV H k (.ref b)) (hd : k.depth ≤ 8) (ry : RelV y u) :
    KN H (putK kvs k y) (storedH xs k b u) := by
  have e : (kvs.any fun kv => decide (kv.1 = k)) = (atKey xs k).isSome := by
    rw [valV_any, (r.val k).isSome_eq, Option.isSome_map]
  unfold putK storedH
  rw [e]
  by_cases q : (atKey xs k).isSome = true
  · rw [if_pos q, if_pos q]
    clear e q
    induction r with
    | nil => exact .nil
    | @cons p z ps zs h t ih =>
      refine .cons ?_ ih
      obtain ⟨h1, h2, h3⟩ := h
      unfold putAt
      by_cases c : p.1 = k
      · have c' : z.1 = k := h1.symm.trans c
        dsimp only
        rw [if_pos c, if_pos c']
        exact ⟨h1, h2, ry⟩
      · have c' : ¬ z.1 = k := fun q => c (h1.trans q)
        dsimp only
        rw [if_neg c, if_neg c']
        exact ⟨h1, h2, h3⟩
  · rw [if_neg q, if_neg q]
    exact Paired.snoc r ⟨rfl, ⟨hb, hd⟩, ry⟩
section
variable {P : Program} {w : World} {H : Hp} {h : Heap} {a b : Addr} {k : NestedKey} {es : Array DictEntry} {ep : Nat} {xs : List Ent} {vs : List V}
theorem nk_key (ok : HOk P w H h) (x : NkV H k (.ref b)) (hd : k.depth ≤ 8) : (nestedKind P w).is h k b := ⟨nk_is ok k _ _ x rfl, hd⟩
theorem dn_raw (ok : HOk P w H h) (e : H a = some (DnO a es ep)) : h.DictRaw a es ep ∧ es.size ≤ sizeLine ∧ (a == sysModules) = false := by
  obtain ⟨⟨h1, h2, h3⟩, _, _⟩ := ok a _ e
  exact ⟨h1, h2, h3⟩
theorem dn_of (ok : HOk P w H h) (e : H a = some (DnO a es ep)) (r : DnE H w es xs vs) : h.DictOfH (nestedKind P w) a xs ∧ xs.length ≤ sizeLine ∧ (a == sysModules) = false := by
  obtain ⟨⟨o, h1, h2, h3⟩, hl, hd⟩ := dn_raw ok e
  refine ⟨⟨o, es, ep, h1, h2, h3, r.es, fun x hx => nk_key ok (r.key x hx).1 (r.key x hx).2, r.nd⟩, ?_, hd⟩
  rw [← r.len.1]; exact hl
theorem dn_new (m : h.DictOfH (nestedKind P w) a xs) (hl : xs.length ≤ sizeLine) (hd : (a == sysModules) = false) : ∃ es ep, es.toList = xs.map (ent w) ∧ (xs.map (·.1)).Nodup ∧ ∀ H' : Hp, ObjOk P w H' h a (DnO a es ep) := by
  obtain ⟨o, es, ep, h1, h2, h3, h4, _, h5⟩ := m
  have hs : es.size = xs.length := by
    have := congrArg List.length h4
    simpa using this
  refine ⟨es, ep, h4, h5, fun H' => ⟨⟨⟨o, h1, h2, h3⟩, by rw [hs]; exact hl, hd⟩, ⟨o, h1⟩, fun g1 g2 φ keep => ?_⟩⟩
  obtain ⟨⟨o', k1, k2⟩, k3⟩ := φ
  exact ⟨⟨o', keep _ k1, k2⟩, k3⟩
theorem dn_pl {H : Hp} {a : Addr} {es es' : Array DictEntry} {ep ep' : Nat} (e : H a = some (DnO a es ep)) : ∀ b ys, PlT H b ys → PlT (upd H a (DnO a es' ep')) b ys := fun b ys ⟨o, po, eb⟩ => by
  refine ⟨o, po, ?_⟩
  rw [upd_ne (ne_of eb e (fun z => nomatch z))]
  exact eb
end
def tDnNew : TE := fun _ H Q => ∀ p es ep, es.toList = ([] : List DictEntry) → H p = none → Q (.ref p) (upd H p (DnO p es ep))
def rDnGet (w : World) : R2 := fun x y H Q => ∃ a es ep xs vs k b v, x = .ref a ∧ H a = some (DnO a es ep) ∧ DnE H w es xs vs ∧ y = .ref b ∧ NkV H k y ∧ k.depth ≤ 8 ∧ valV (dnP xs vs) k = some v ∧ Q v H
def rDnSet (w : World) : TSet := fun x y v H Q => ∃ a es ep xs vs k b, x = .ref a ∧ H a = some (DnO a es ep) ∧ DnE H w es xs vs ∧ y = .ref b ∧ NkV H k y ∧ k.depth ≤ 8 ∧ xs.length < sizeLine ∧
  ∀ es' ep' xs' vs', DnE (upd H a (DnO a es' ep')) w es' xs' vs' → dnP xs' vs' = putK (dnP xs vs) k v → Q (upd H a (DnO a es' ep'))
section
variable {X : Cx}
theorem pe_dnNew {pos : Pos} : PE X (.Dict [] [] pos) tDnNew := ⟨fun pins s σ H Q I h => by
  obtain ⟨es, ep, h1, _, h2⟩ := dn_new (P := X.prog) (w := X.w) (xs := []) (Heap.DictOfH.new s.heap) (Nat.zero_le _) (beq_eq_false_iff_ne.mpr (Ne.symm (Nat.ne_of_lt I.big)))
  exact wpAny_Dict_empty ⟨.ref s.heap.objs.size, _, I.laid (a := s.heap.objs.size) (o := DnO s.heap.objs.size es ep) (t' := s.toks) (fun _ _ q => Heap.get?_push_of_some _ q) (Nat.le_refl _) (h2 _), rfl, h _ es ep h1 (I.hok.fresh (Nat.le_refl _))⟩⟩
theorem op_dnGet {w : World} (hw : X.w = w) (hu : X.A.units + 9 < cLine) : OpR X getItem (rDnGet w) := by
  subst hw
  intro pins s σ H x y v u Q I rx ry h
  obtain ⟨a, es, ep, xs, vs, k, b, z, rfl, e, r, rfl, hk, hd, hv, q⟩ := h
  cases rx
  cases ry
  obtain ⟨m, _, _⟩ := dn_of I.hok e r
  obtain ⟨w', hw, rw'⟩ := RelO.some_of (v := z) (o := (atKey xs k).map (·.2)) (by rw [← hv]; exact r.kn.val k)
  obtain ⟨p, hp, hp2⟩ := Option.map_eq_some_iff.mp hw
  refine wpAny_getItem_heap (by show X.A.in1.units + 8 < cLine; exact Nat.lt_of_le_of_lt (by show X.A.units + 1 + 8 ≤ _; omega) hu) (nk_key I.hok hk hd) m hp ?_
  rw [hp2]
  exact ⟨z, H, I.tok _, rw', q⟩
theorem dn_room (hu : X.A.units + 9 < cLine) : (nestedKind X.prog X.w).room X.A.in1 := by
  show X.A.in1.units + 8 < cLine
  exact Nat.lt_of_le_of_lt (by show X.A.units + 1 + 8 ≤ _; omega) hu
theorem set_dn {w : World} (hw : X.w = w) (hu : X.A.units + 9 < cLine) : PSet X (rDnSet w) := by
  subst hw
  intro pins s σ H o i v ov iv u Q I ro ri rv h
  obtain ⟨a, es, ep, xs, vs, k, b, rfl, e, r, rfl, hk, hd, hl, q⟩ := h
  cases ro
  cases ri
  obtain ⟨m, hz, hs⟩ := dn_of I.hok e r
  refine wpAny_setItem_heap (hsz := hz) (dn_room hu) (nk_key I.hok hk hd) m fun h' m' sb => ?_
  have put := r.kn.put hk hd rv
  have hlen : (storedH xs k b u).length ≤ sizeLine := by
    have h1 := length_putK (dnP xs vs) k v
    have h2 := Paired.length put
    have h3 : (dnP xs vs).length = xs.length := Paired.length r.kn
    omega
  obtain ⟨es', ep', g1, g2, g3⟩ := dn_new m' hlen hs
  have he : ∃ q, h'.get? a = some q := by
    obtain ⟨q, _, _, hq, _⟩ := m'
    exact ⟨q, hq⟩
  obtain ⟨b1, b2, b3⟩ := (put.keeps (dn_pl (es' := es') (ep' := ep') e)).back
  exact ⟨_, d_write I (by rw [e]; exact True.intro) sb he (g3 _), q es' ep' _ _ ⟨g1, g2, b1, b2⟩ b3.symm⟩
end
section
variable {P : Program} {w : World} {K : PySem.W.Frag} {tg : Expr} {d : Addr} {es : Array DictEntry} {ep : Nat} {kv vs : List V}
end
section
variable {X : Cx} {tg e : Expr} {td : TE} {apos cpos : Pos}
end
end Cc

namespace Cc
open PySem PySem.Spec L2 PyProof.Rows
section
variable {X : Cx}
end
end Cc

namespace CcK
open PySem PySem.Spec L2 Cc PyProof.Rows PySem.W
theorem items_of {es : Array DictEntry} {f : DictEntry → Value} {acc : Array Value} (h : ItemsOf (fun i v => ∃ hi : i < es.size, v = f es[i]) acc es.size) : acc.toList = es.toList.map f := by
  obtain ⟨h1, h2⟩ := h
  refine List.ext_getElem? fun i => ?_
  rw [Array.getElem?_toList, List.getElem?_map, Array.getElem?_toList]
  by_cases hi : i < es.size
  · obtain ⟨_, e⟩ := h2 i acc[i] (Array.getElem?_eq_getElem (by omega))
    rw [Array.getElem?_eq_getElem (by omega : i < acc.size), Array.getElem?_eq_getElem hi, e]
    rfl
  · rw [Array.getElem?_eq_none (by omega), Array.getElem?_eq_none (by omega)]
    rfl
theorem items_val {es : Array DictEntry} {acc : Array Value} (h : ItemsOf (fun i v => ∃ hi : i < es.size, v = es[i].val) acc es.size) : acc.toList = es.toList.map (·.val) := items_of h
section
variable {prog : Program} {w : World} {A : Around} {E : Value → Shared → Prop} {s : Shared} {T : String} {r d : Addr} {n : Nat} {P : Nat → Value → Prop} {OK : Heap → Prop}
end
section
variable {X : Cx} {n m : Nat} {f : Addr} {fd : FuncData} {ps : List Str} {sp : Sp}
end
end CcK

namespace CcK
open PySem PySem.Spec L2 Cc PyProof.Rows PySem.W
def tDnVals (td : TE) : TE := fun σ H Q => td σ H fun x H1 => ∃ (a : Addr) (es : Array DictEntry) (ep : Nat) (xs : List V), x = .ref a ∧ H1 a = some (DnO a es ep) ∧ Vals xs (es.toList.map (·.val)) ∧ ∀ p, H1 p = none → Q (.ref p) (upd H1 p (.lst xs))
section
variable {X : Cx} {pins : List (Addr × Obj)} {σ : L2.St} {H : Hp} {s : Shared}
theorem listed (I : Inv X pins σ H s) {h' : Heap} {tk c : Nat} {acc : Array Value} {xs : List V} (k : ∀ b o, s.heap.get? b = some o → h'.get? b = some o) (at1 : h'.get? s.heap.objs.size = some { cls := .type "list", dict := none, data := .seq acc c, slots := #[] }) (hv : Vals xs acc.toList) (hz : acc.size ≤ sizeLine) :
    Inv X pins σ (upd H s.heap.objs.size (.lst xs)) { s with heap := h', toks := tk } :=
  I.laid (a := s.heap.objs.size) (t' := tk) k (Nat.le_refl _) ⟨by rw [hv.length, Array.length_toList]; exact hz, acc.toList, c, hv, by rw [Array.toArray_toList]; exact at1⟩
theorem pe_dnVals {e : Expr} {te : TE} {p apos cpos pos : Pos} (hc : X.calm = true) (he : PE X e te) (hg : Gl X "list") (hm : X.mg "list" = none) (hv : bootBuiltins "list" = some (.type "list")) (hbase : attributeBase e "values" X.env (eval e X.env) = eval e X.env := by rfl) (hline : (apos.endLine == cpos.line) = true := by rfl)
    (hs : starEach [.Call (.Attribute e "values" apos) [] [] cpos] X.env = (false, eval (.Call (.Attribute e "values" apos) [] [] cpos) X.env) :: starEach [] X.env := by rfl) :
    PE X (.Call (.Name "list" p) [.Call (.Attribute e "values" apos) [] [] cpos] [] pos) (tDnVals te) := by
  refine ⟨fun pins s σ H Q I hq => ?_⟩
  refine wpAny_Call_Name_kw (ld_blt I hg hm hv ?_)
  refine PyProof.Rows.callWith_type1 ?_ hs rfl
  rw [hs]
  show wpAny _ _ (spliced ((false, eval (.Call (.Attribute e "values" apos) [] [] cpos) X.env) :: backTo pos (starEach [] X.env))) _ _ s
  refine Calls.spliced_cons ?_
  refine wpAny_Call_method (T := "dict") (id := "dict.values") hbase rfl hline F.plainAttrs_dict F.slot_dict_values F.type_dict_values (thn (he.run pins s σ H _ I hq) fun u s1 ⟨x, H1, I1, rx, a, es, ep, xs, ex, hd, hv, q⟩ => ?_)
  subst ex
  obtain rfl : u = Value.ref a := rx
  obtain ⟨hr, hz, hs0⟩ := dn_raw I1.hok hd
  have nd : ∀ c, Value.ref a = Value.ref c → ∃ ob, s1.heap.get? c = some ob ∧ ob.dict = none := by
    obtain ⟨o, ho, hx, _⟩ := hr
    exact fun c hc => by cases hc; exact ⟨o, ho, hx.2.1⟩
  refine ⟨hr.typeIs, nd, ?_⟩
  show wpAny _ _ (callWith cpos (.builtin "dict.values") [.ref a] [] []) _ X.xe s1
  refine method_meetsIn F.slot_dict_values F.entry_dict_values rfl (PySem.evalArgs_none ⟨rfl, hr.typeIs, F.args_dict_values_1 _, _, meets_dict_values_raw a hs0, ⟨es, ep, hr⟩, ?_⟩)
  refine Calls.spliced_nil ?_
  have I2 : Inv X pins σ H1 { s1 with heap := s1.heap.push { cls := .type "dict_values", data := .fields #[.ref a] } } := I1.kept (t' := s1.toks) fun b ob q => Heap.get?_push_of_some _ q
  refine kdl_call (KdlSrc.rawValues (r := s1.heap.objs.size) (d := a) (es := es) (ep := ep)) (I1.ok.hd hc) ⟨⟨_, Heap.get?_push_size _ rfl, rfl, rfl⟩, hr.push _⟩ hz fun h' tk acc c k at1 it => ?_
  have e := items_val it
  exact ⟨.ref _, _, listed I2 k at1 (by rw [e]; exact hv) (by rw [it.1]; exact hz), rfl, q _ (I2.hok.fresh (Nat.le_refl _))⟩
end
end CcK

namespace CcK
open PySem PySem.Spec L2 Cc PyProof.Rows PySem.W
section
variable {X : Cx} {pins : List (Addr × Obj)} {σ : L2.St} {H : Hp} {s : Shared}
end
end CcK

namespace CcK
open PySem PySem.Spec L2 Cc PyProof.Rows
section
variable {X : Cx}
def tBMD (r : V → List V → Hp → VK → Prop) (to : TE) (t : TA) : TE := fun σ H Q => to σ H fun x H1 => (∃ a es ep, x = .ref a ∧ H1 a = some (DnO a es ep)) ∧ t σ H1 fun xs H2 => r x xs H2 Q
theorem pe_bmD {o e : Expr} {es : List Expr} {to : TE} {t : TA} {name : Str} {apos cpos : Pos} {id : String} {r : V → List V → Hp → VK → Prop} (slot : Slot "dict" name id) (hty : typeOf (.builtin id) = pure (.type "method_descriptor")) (hm : MtR X id r) (ho : PE X o to) (ha : PA X (e :: es) t)
    (hbase : attributeBase o name X.env (eval o X.env) = eval o X.env := by rfl)
    (hfew : ((backTo cpos (starEach (e :: es) X.env)).all (fun x => !x.1) && (backToKw cpos (keywordEach [] X.env)).all (fun x => x.1.isSome)
      && decide ((e :: es).length + ([] : List Keyword).length + (if ([] : List Keyword).isEmpty then 0 else 1) < 30)) = true := by rfl)
    (hline : (apos.endLine == cpos.line) = true := by rfl) (hs : starEach (e :: es) X.env = (false, eval e X.env) :: starEach es X.env := by rfl) (hplain : (backTo cpos (starEach es X.env)).any (·.1) = false := by rfl) :
    PE X (.Call (.Attribute o name apos) (e :: es) [] cpos) (tBMD r to t) := by
  refine ⟨fun pins s σ H Q I h => ?_⟩
  refine wpAny_Call_method_late hbase hfew hline rfl (thn (ho.run pins s σ H _ I h) fun v s1 ⟨x, H1, I1, r1, ⟨a, fs, ep, ex, hd⟩, q1⟩ => ?_)
  subst ex
  obtain rfl : v = Value.ref a := r1
  obtain ⟨hr, _, _⟩ := dn_raw I1.hok hd
  have nd : ∀ c, Value.ref a = Value.ref c → ∃ ob, s1.heap.get? c = some ob ∧ ob.dict = none := by
    obtain ⟨o, ho, hx, _⟩ := hr
    exact fun c hc => by cases hc; exact ⟨o, ho, hx.2.1⟩
  refine ⟨"dict", id, F.plainAttrs_dict, slot, hty, hr.typeIs, nd, ?_⟩
  have hA := ha.run cpos pins s1 σ H1 _ I1 q1
  rw [hs] at hA ⊢
  refine Calls.callWith_builtin (by show (false || (backTo cpos (starEach es X.env)).any (·.1)) = false; rw [hplain] <;> rfl) (Calls.evalArgs_plain ?_)
  exact thn hA fun us s2 ⟨vs, H2, I2, r2, q2⟩ => hm pins s2 σ H2 (.ref a) vs _ us Q I2 rfl r2 q2
end
end CcK

namespace Mi
open PySem L2 Cc CcK PySem.W
noncomputable section
abbrev DP := List (NestedKey × D)
mutual
def keyN : D → Option NestedKey
  | .non => some .none
  | .int i => some (.num i)
  | .str x => some (.text x)
  | .ptup ds => (keyNs ds).map .tup
  | _ => none
def keyNs : List D → Option (List NestedKey)
  | [] => some []
  | d :: ds => (keyN d).bind fun k => (keyNs ds).map fun ks => k :: ks
end
def keyT : D → Option NestedKey
  | .ptup ds => (keyNs ds).bind fun ks => if (NestedKey.tup ks).depth ≤ 8 then some (.tup ks) else none
  | _ => none
def valP (kvs : DP) (k : NestedKey) : Option D := (kvs.find? fun kv => decide (kv.1 = k)).map (·.2)
def putP (kvs : DP) (k : NestedKey) (d : D) : DP := if (kvs.any fun kv => decide (kv.1 = k)) = true then kvs.map (fun kv => if kv.1 = k then (kv.1, d) else kv) else kvs ++ [(k, d)]
abbrev dctP (w : World) (kvs : DP) : D := .dct w (kvs.map (·.1)) (kvs.map (·.2))
def dctOf (w : World) : D → Option DP
  | .dct w' ks ds => @ite _ (w' = w) (Classical.propDecidable _) (some (ks.zip ds)) none
  | _ => none
theorem zip_fs {α β : Type} : ∀ l : List (α × β), (l.map (·.1)).zip (l.map (·.2)) = l
  | [] => rfl
  | p :: l => by
    have := zip_fs l
    simp only [List.map_cons, List.zip_cons_cons, this]
theorem dctOf_at {w : World} {d : D} {kvs : DP} (h : dctOf w d = some kvs) : ∃ ks ds, d = .dct w ks ds ∧ kvs = ks.zip ds := by
  unfold dctOf at h
  split at h
  · rename_i w' ks ds
    by_cases e : w' = w
    · rw [if_pos e] at h
      cases h
      subst e
      exact ⟨ks, ds, rfl, rfl⟩
    · rw [if_neg e] at h; cases h
  · cases h
section
variable {K : Fg} {W : Wd K} {E : XK} {Hm : Hp} {w : World}
mutual
theorem key_nk : ∀ (d : D) (v : V) (k : NestedKey), keyN d = some k → Dn K Hm v d → NkV Hm k v
  | .non, _, _, e, h => by cases e; cases h; exact .none
  | .int i, _, _, e, h => by cases e; cases h; exact .int i
  | .str x, _, _, e, h => by cases e; cases h; exact .text x
  | .ptup ds, _, k, e, h => by
    cases h with
    | ptup hs ha =>
      obtain ⟨ks, hk, rfl⟩ := Option.map_eq_some_iff.mp (show (keyNs ds).map .tup = some k from e)
      exact .tup hs (keys_nk ds _ ks hk ha)
  | .bl _, _, _, e, _ => by cases e
  | .lst _, _, _, e, _ => by cases e
  | .tup _, _, _, e, _ => by cases e
  | .ob _ _ _, _, _, e, _ => by cases e
  | .adr _, _, _, e, _ => by cases e
  | .dct _ _ _, _, _, e, _ => by cases e
  | .dks _ _, _, _, e, _ => by cases e
theorem keys_nk : ∀ (ds : List D) (vs : List V) (ks : List NestedKey), keyNs ds = some ks → Dns K Hm vs ds → NkVs Hm ks vs
  | [], _, _, e, h => by cases e; cases h; exact .nil
  | d :: ds, _, ks, e, h => by
    cases h with
    | cons h1 h2 =>
      obtain ⟨k, hk, e2⟩ := Option.bind_eq_some_iff.mp (show (keyN d).bind _ = some ks from e)
      obtain ⟨r, hr, rfl⟩ := Option.map_eq_some_iff.mp e2
      exact .cons (key_nk d _ k hk h1) (keys_nk ds _ r hr h2)
end
theorem keyT_at {d : D} {v : V} {k : NestedKey} (e : keyT d = some k) (h : Dn K Hm v d) : ∃ b, v = .ref b ∧ NkV Hm k (.ref b) ∧ k.depth ≤ 8 := by
  unfold keyT at e
  split at e
  · rename_i ds
    obtain ⟨ks, hk, e2⟩ := Option.bind_eq_some_iff.mp e
    split at e2
    · rename_i hd
      cases e2
      cases h with
      | @ptup a xs _ hs ha => exact ⟨a, rfl, .tup hs (keys_nk ds _ ks hk ha), hd⟩
    · cases e2
  · cases e
theorem nk_un {W : Wd K} {Y : Addr → Bool} {H : Hp} {k : NestedKey} {v : V} (h : NkV (mask W Y H) k v) : NkV H k v := NkV.ext (fun b ys ⟨o, po, e⟩ => ⟨o, po, mask_le _ _ e⟩) _ _ h
theorem dne_un {W : Wd K} {Y : Addr → Bool} {H : Hp} {es : Array DictEntry} {xs : List Ent} {vs : List V} (h : DnE (mask W Y H) w es xs vs) : DnE H w es xs vs := h.ext fun b ys ⟨o, po, e⟩ => ⟨o, po, mask_le _ _ e⟩
theorem dne_mask {W : Wd K} {Y : Addr → Bool} {H : Hp} (o : Ok W Y H) {es : Array DictEntry} {xs : List Ent} {vs : List V} (h : DnE H w es xs vs) : DnE (mask W Y H) w es xs vs := h.ext fun b ys ⟨ob, po, e⟩ => by
  refine ⟨ob, po, mask_at e ?_ fun _ _ _ z => nomatch z⟩
  cases z : Y b with
  | false => rfl
  | true =>
    obtain ⟨u, hu, iu⟩ := o.2.2 b z
    rw [e] at hu; cases hu; cases iu
def PR (K : Fg) (Hm : Hp) (l : List (NestedKey × V)) (m : DP) : Prop := Paired (fun (p : NestedKey × V) (q : NestedKey × D) => p.1 = q.1 ∧ Dn K Hm p.2 q.2) l m
theorem PR.of {ds : List D} : ∀ {ks : List NestedKey} {vs : List V}, Dns K Hm vs ds → PR K Hm (ks.zip vs) (ks.zip ds) := fun {ks vs} h => by
  induction ks generalizing vs ds with
  | nil => exact .nil
  | cons k ks ih =>
    cases h with
    | nil => exact .nil
    | cons h1 h2 => exact .cons ⟨rfl, h1⟩ (ih h2)
theorem PR.keys {l : List (NestedKey × V)} {m : DP} (h : PR K Hm l m) : l.map (·.1) = m.map (·.1) := by
  induction h with
  | nil => rfl
  | cons h1 _ ih => simp [h1.1, ih]
theorem PR.vals {l : List (NestedKey × V)} {m : DP} (h : PR K Hm l m) : Dns K Hm (l.map (·.2)) (m.map (·.2)) := by
  induction h with
  | nil => exact .nil
  | cons h1 _ ih => exact .cons h1.2 ih
theorem PR.some {l : List (NestedKey × V)} {m : DP} (h : PR K Hm l m) {k : NestedKey} {d : D} (e : valP m k = some d) : ∃ v, valV l k = some v ∧ Dn K Hm v d := by
  induction h with
  | nil => cases e
  | @cons p q ps qs h1 t ih =>
    by_cases c : q.1 = k
    · refine ⟨p.2, valV_pos (h1.1.trans c), ?_⟩
      simp [valP, List.find?_cons, c] at e
      rw [← e]; exact h1.2
    · obtain ⟨v, q1, q2⟩ := ih (by simpa [valP, List.find?_cons, c] using e)
      exact ⟨v, (valV_neg (fun z => c (h1.1.symm.trans z))).trans q1, q2⟩
theorem PR.is {l : List (NestedKey × V)} {m : DP} (h : PR K Hm l m) (k : NestedKey) : (valV l k).isSome = (valP m k).isSome := by
  induction h with
  | nil => rfl
  | @cons p q ps qs h1 t ih =>
    by_cases c : q.1 = k
    · rw [valV_pos (h1.1.trans c)]
      simp [valP, List.find?_cons, c]
    · rw [valV_neg (fun z => c (h1.1.symm.trans z)), ih]
      simp [valP, List.find?_cons, c]
theorem PR.any {l : List (NestedKey × V)} {m : DP} (h : PR K Hm l m) (k : NestedKey) : (l.any fun kv => decide (kv.1 = k)) = m.any fun kv => decide (kv.1 = k) := by
  induction h with
  | nil => rfl
  | @cons p q ps qs h1 t ih => simp only [List.any_cons, h1.1, ih]
theorem PR.put {l : List (NestedKey × V)} {m : DP} (h : PR K Hm l m) {k : NestedKey} {v : V} {d : D} (hv : Dn K Hm v d) : PR K Hm (putK l k v) (putP m k d) := by
  unfold putK putP
  rw [h.any k]
  by_cases c : (m.any fun kv => decide (kv.1 = k)) = true
  · rw [if_pos c, if_pos c]
    clear c
    induction h with
    | nil => exact .nil
    | @cons p q ps qs h1 t ih =>
      refine .cons ?_ ih
      by_cases e : q.1 = k
      · dsimp only
        rw [if_pos e, if_pos (h1.1.trans e)]
        exact ⟨h1.1, hv⟩
      · dsimp only
        rw [if_neg e, if_neg (fun z => e (h1.1.symm.trans z))]
        exact h1
  · rw [if_neg c, if_neg c]
    exact Paired.snoc h ⟨rfl, hv⟩
theorem PR.up {l : List (NestedKey × V)} {m : DP} {Hm' : Hp} (h : PR K Hm l m) (e : Same Hm Hm') : PR K Hm' l m := Paired.mapP h fun p q z => ⟨z.1, z.2.up e⟩
theorem dct_at {Y : Addr → Bool} {H : Hp} {d : D} {v : V} {kvs : DP} (e : dctOf w d = some kvs) (h : Dm W Y H v d) : ∃ a es ep xs vs, v = .ref a ∧ mask W Y H a = some (DnO a es ep) ∧ DnE (mask W Y H) w es xs vs ∧ PR K (mask W Y H) (dnP xs vs) kvs ∧ kvs.map (·.1) = xs.map (·.1) ∧ Dms W Y H vs (kvs.map (·.2)) := by
  obtain ⟨ks, ds, rfl, rfl⟩ := dctOf_at e
  cases h with
  | @dct a es ep _ xs _ vs _ h1 h2 h3 h4 =>
    subst h3
    have hl := h2.len.2
    have hd := h4.length
    refine ⟨a, es, ep, xs, vs, rfl, h1, h2, .of h4, ?_, ?_⟩
    · rw [List.map_fst_zip]
      simp; omega
    · rw [List.map_snd_zip]
      · exact h4
      · simp; omega
theorem putP_q {es : Array DictEntry} {xs : List Ent} {vs : List V} {ep : Nat} {m : DP} (h : DnE Hm w es xs vs) (p : PR K Hm (dnP xs vs) m) : DnQ K Hm w (m.map (·.1)) (m.map (·.2)) ⟨es, ep, xs, vs⟩ := by
  have hl := h.len.2
  refine ⟨h, ?_, ?_⟩
  · rw [← p.keys, List.map_fst_zip]
    simp; omega
  · have := p.vals
    rwa [List.map_snd_zip] at this
    simp; omega
def fDnGet (w : World) : D → D → Option D := fun d e => (dctOf w d).bind fun kvs => (keyT e).bind fun k => valP kvs k
theorem r2_dnGet : R2M W (rDnGet w) (fDnGet w) := fun Y H x y d e z Q o hx hy h q => by
  obtain ⟨kvs, h1, h2⟩ := Option.bind_eq_some_iff.mp h
  obtain ⟨k, h3, h4⟩ := Option.bind_eq_some_iff.mp h2
  obtain ⟨a, es, ep, xs, vs, rfl, g1, g2, g3, _⟩ := dct_at h1 hx
  obtain ⟨b, rfl, n1, n2⟩ := keyT_at h3 hy
  obtain ⟨v, v1, v2⟩ := g3.some h4
  exact ⟨a, es, ep, xs, vs, k, b, v, rfl, mask_le _ _ g1, dne_un g2, rfl, nk_un n1, n2, v1, q v H (.refl o.1) v2⟩
theorem vals_v {Hm : Hp} {es : Array DictEntry} {xs : List Ent} {vs : List V} (h : DnE Hm w es xs vs) : Vals vs (es.toList.map (·.val)) := by
  rw [h.es, List.map_map]
  exact h.val
def mDnVals (w : World) (a : Env → M D) : Env → M (List D) := fun ρ => (a ρ).bind fun d => (M.ofO (dctOf w d)).bind fun kvs => .ret (kvs.map (·.2))
theorem gn_dnVals {te : TE} {a : Env → M D} (ha : GE W E te a) : GN W E (tDnVals te) (mDnVals w a) := fun Y σ H ρ Q o e q =>
  ha.seq o e q (fun _ _ h => h) fun d x H1 e1 o1 r1 hx w1 => by
    obtain ⟨kvs, h1, w2⟩ := M.wp_ofO ((M.wp_bind _).mp w1)
    obtain ⟨a, es, ep, xs, vs, rfl, g1, g2, g3, g4, g5⟩ := dct_at h1 hx
    have w2' : RetPn W Y H Q (kvs.map (·.2)) := w2
    exact ⟨a, es, ep, vs, rfl, mask_le _ _ g1, vals_v g2, fun p hp => w2' p _ _ (e1.trans (.of o1.1 (Same.new hp))) (e1.free o.1 hp) upd_same (Dms.fresh g5 o1 hp)⟩
def RetPd (W : Wd K) (w : World) (Y : Addr → Bool) (H : Hp) (Q : VK) : DP → Prop := fun kvs => ∀ p q H', Ext W H H' → H p = none → H' p = some (DnO p q.es q.ep) → DnQ K (mask W (also Y p) H') w (kvs.map (·.1)) (kvs.map (·.2)) q → Q (.ref p) H'
def GND (W : Wd K) (w : World) (E : XK) (te : TE) (m : Env → M DP) : Prop := ∀ Y σ H ρ Q, Ok W Y H → EnvR W (mask W Y H) σ ρ → (m ρ).wp (RetPd W w Y H Q) (ErrP W E H) → te σ H Q
def mDct (w : World) (m : Env → M DP) : Env → M D := fun ρ => (m ρ).bind fun kvs => .ret (dctP w kvs)
theorem GND.ge {te : TE} {m : Env → M DP} (h : GND W w E te m) : GE W E te (mDct w m) := fun Y σ H ρ Q o e q =>
  h Y σ H ρ Q o e (M.wp_mono (fun kvs hd p q' H' e' hp hx hq => by
    have hd' : RetP W Y H Q (dctP w kvs) := hd
    exact hd' _ H' e' (DnQ.dct (DnQ.less hq also_r) (mask_at hx (o.fresh hp) fun _ _ _ z => nomatch z))) (fun _ _ h => h) _ ((M.wp_bind _).mp q))
def sDnNew (w : World) (i : Nat) : Env → M Fl := fun ρ => .ret (.nx (ρ.set i (.dn w [] [])))
def sDnPut (w : World) (i : Nat) (mk m : Env → M D) : Env → M Fl := fun ρ => match ρ[i]? with
  | some (.dn w' ks ds) => (m (vB ρ)).bind fun d => (mk (vB ρ)).bind fun y => (M.ofO (keyT y)).bind fun k => if ok1 d = true ∧ (ks.zip ds).length < 100000 then
      @ite _ (w' = w) (Classical.propDecidable _) (.ret (.nx (ρ.set i (.dn w ((putP (ks.zip ds) k d).map (·.1)) ((putP (ks.zip ds) k d).map (·.2)))))) .bad else .bad
  | _ => .bad
theorem dnq_pairs {q : QT} {ks : List NestedKey} {ds : List D} (h : DnQ K Hm w ks ds q) : PR K Hm (dnP q.xs q.vs) (ks.zip ds) := by
  obtain ⟨h1, rfl, h3⟩ := h
  exact .of h3
theorem gs_dnPut {i : Nat} {tk te : TE} {mk m : Env → M D} (hk : GE W E tk mk) (h : GE W E te m) : GS W E (tAsg te (gSub (tVar i) tk (rDnSet w))) (sDnPut w i mk m) := fun Y B σ H ρ De ⟨L, s⟩ q => by
  unfold sDnPut at q
  split at q
  case h_2 => exact q.elim
  rename_i w' ks ds hi
  refine h.runB s q fun d v H1 s1 hv w1 => ?_
  obtain ⟨l, qt, h1, h2, h3, h4⟩ := s1.sl i _ hi
  refine ⟨.ref l, h1, hk.seq s1.ok s1.envB w1 (fun _ _ h => h.at' s1) fun y u H2 e2 o2 r2 hu w2 => ?_⟩
  have s2 := s1.up e2
  obtain ⟨k, hkk, w3⟩ := M.wp_ofO ((M.wp_bind _).mp w2)
  split at w3
  case isFalse => exact w3.elim
  rename_i ko
  by_cases ew : w' = w
  case neg => rw [if_neg ew] at w3; exact w3.elim
  rw [if_pos ew] at w3
  subst ew
  obtain ⟨l', qt', g1, g2, g3, g4⟩ := s2.sl i _ hi
  rw [h1] at g1
  cases g1
  obtain ⟨b, rfl, n1, n2⟩ := keyT_at hkk hu
  have hv2 := ok1_see s2 (hv.up s1.ok e2) ko.1
  have pr := dnq_pairs g4
  have hlen : (dnP qt'.xs qt'.vs).length = (ks.zip ds).length := Paired.length pr
  have hl2 : (dnP qt'.xs qt'.vs).length = qt'.xs.length := by
    have := g4.1.len.2
    simp [dnP]; omega
  refine ⟨l, qt'.es, qt'.ep, qt'.xs, qt'.vs, k, b, rfl, g3, dne_un g4.1, rfl, nk_un n1, n2, by rw [sizeLine_eq]; omega, fun es' ep' xs' vs' hE hP => ?_⟩
  have w4 : FlP W Y B De (.nx (ρ.set i (.dn w' ((putP (ks.zip ds) k d).map (·.1)) ((putP (ks.zip ds) k d).map (·.2))))) := w3
  have hE' : DnE (mask W (YL Y L) (upd H2 l (DnO l es' ep'))) w' es' xs' vs' := by
    rw [mask_off (YL_l g2)]
    refine dne_mask s2.okL (hE.ext fun b' ys ⟨o, po, q⟩ => ⟨o, po, ?_⟩)
    rw [upd_ne] at q
    · exact q
    · rintro rfl
      rw [upd_same] at q; cases q
  refine w4 σ _ ⟨L, s2.putO g2 g3 dn_cell dn_cell ⟨l, ⟨es', ep', xs', vs'⟩, h1, g2, upd_same, putP_q hE' ?_⟩⟩
  rw [hP, mask_off (YL_l g2)]
  exact pr.put hv2
end
end
end Mi

namespace Mi
open PySem L2 Cc CcK PySem.W
noncomputable section
section
variable {K : Fg} {W : Wd K} {E : XK} {Hm : Hp} {w : World}
theorem SR.ownN {Y : Addr → Bool} {B : Bases} {σ : L2.St} {H H' : Hp} {ρ : Env} {L : List (Nat × Addr)} (s : SR W Y B σ H ρ L) (i : Nat) {p : Addr} {w : World} {ks : List NestedKey} {ds : List D} {q : QT} (e : Ext W H H') (hp : H p = none) (hx : H' p = some (DnO p q.es q.ep)) (hd : DnQ K (mask W (also (YL Y L) p) H') w ks ds q) : SR W Y B (σ.set i (some (.ref p))) H' (ρ.set i (.dn w ks ds)) ((i, p) :: L) where
  ok := s.ok.ext e
  bs := fun k hk => ⟨(s.bs k hk).1, (s.bs k hk).2.trans (.ext e (s.bs k hk).1)⟩
  len := by simp [s.len]
  fre := fun q' hq => by
    rcases List.mem_cons.mp hq with rfl | hq
    · refine ⟨fun k hk => ?_, W.new s.ok.1 hp, s.ok.fresh hp, _, hx, dn_cell⟩
      cases z : k.2 p with
      | true => exact .inr rfl
      | false =>
        refine .inl ?_
        cases y : k.1 p with
        | none => rfl
        | some o => rw [(s.bs k hk).2 p o y z] at hp; cases hp
    · obtain ⟨h1, h2, h3, ys, hy, ho⟩ := s.fre q' hq
      exact ⟨h1, h2, h3, ys, e.1 _ _ hy (s.lx hq), ho⟩
  nd := by
    rw [List.map_cons, List.nodup_cons]
    refine ⟨fun z => ?_, s.nd⟩
    obtain ⟨qq, hq, e⟩ := List.mem_map.mp z
    obtain ⟨_, _, _, ys, hy, _⟩ := s.fre qq hq
    rw [show qq.2 = p from e, hp] at hy
    cases hy
  sl := fun j t ht => by
    rw [YL_also]
    have hs : Same (mask W (YL Y L) H) (mask W (also (YL Y L) p) H') := mask_go (.ext e s.okL.2.1) fun a ha => by
      by_cases ea : a = p
      · subst ea; exact .inr hp
      · exact .inl (by simpa [also, ea] using ha)
    rcases getElem?_set' ht with ⟨rfl, hl, rfl⟩ | ⟨hne, h⟩
    · exact ⟨p, q, by simp [s.len, hl], by simp, hx, hd⟩
    · have q0 := s.sl j t h
      have e' : (σ.set i (some (.ref p)))[j]? = σ[j]? := by simp [List.getElem?_set, hne]
      cases t with
      | no => trivial
      | dat d' => obtain ⟨w, h1, h2⟩ := q0; exact ⟨w, by rw [e']; exact h1, Dn.up h2 hs⟩
      | own ds => obtain ⟨l, ys, h1, h2, h3, h4⟩ := q0; exact ⟨l, ys, by rw [e']; exact h1, List.mem_cons_of_mem _ h2, e.1 _ _ h3 (s.lx h2), Dns.up h4 hs⟩
      | dk ds => obtain ⟨l, ys, h1, h2, h3, h4⟩ := q0; exact ⟨l, ys, by rw [e']; exact h1, List.mem_cons_of_mem _ h2, e.1 _ _ h3 (s.lx h2), Dns.up h4 hs⟩
      | dn w0 ks0 ds => obtain ⟨l, ys, h1, h2, h3, h4⟩ := q0; exact ⟨l, ys, by rw [e']; exact h1, List.mem_cons_of_mem _ h2, e.1 _ _ h3 (s.lx h2), DnQ.up h4 hs⟩
      | dkR _ => exact q0.elim
      | slf k C ns ds => obtain ⟨x2, dx, fs, h1, hS, h2, h3, h4, h5, h6⟩ := q0; exact ⟨x2, dx, fs, by rw [e']; exact h1, hS, List.mem_cons_of_mem _ h2, e.1 _ _ h3 (s.lx h2), h4, h5, Dns.up h6 hs⟩
      | row => exact e'.trans q0
theorem gs_dnNew {i : Nat} : GS W E (tAsg tDnNew (gName i)) (sDnNew w i) := fun Y B σ H ρ De ⟨L, s⟩ q p es ep he hp =>
  q _ _ ⟨_, s.ownN i (q := ⟨es, ep, [], []⟩) (.of s.ok.1 (Same.new hp)) hp upd_same ⟨⟨he, .nil, fun x hx => (nomatch hx), .nil⟩, rfl, .nil⟩⟩
end
end
end Mi

namespace Mi
open PySem PySem.Spec L2 Cc CcK PySem.W PyProof.Rows
class PW where
  w : World
theorem room9 {n : Nat} (h : n + 65 < cLine) : n + 9 < cLine := by omega
theorem pe_dnIx {X : Cx} {w : World} (hw : X.w = w) (hu : X.A.units + 9 < cLine) {o i : Expr} {td ty : TE} {pos : Pos} (ho : PE X o td) (hi : PE X i ty) (hs : NoSl i) : PE X (.Subscript o i pos) (tOp (rDnGet w) td ty) := by
  refine ⟨fun pins s σ H Q I h => ?_⟩
  refine subD_of PySem.F.slot_dict_getitem.lookup hs (thn (ho.run pins s σ H _ I h) fun u s1 ⟨x, H1, I1, rx, q1⟩ => thn (hi.run pins s1 σ H1 _ I1 q1) fun iv s2 ⟨y, H2, I2, ry, q2⟩ => ?_)
  have q3 := q2
  obtain ⟨a, es, ep, xs, vs, k, b, z, ex, e, r, _⟩ := q3
  subst ex
  have ru : u = Value.ref a := rx
  obtain ⟨hr, _, _⟩ := dn_raw I2.hok e
  refine ⟨by rw [ru]; exact hr.typeIs, ?_⟩
  exact op_dnGet hw hu pins s2 σ H2 _ _ _ _ Q I2 rx ry q2
end Mi

namespace Mi
open PySem L2 Cc
section
variable {X : Cx}
end
end Mi

namespace CcK
open PySem PySem.Spec L2 Cc PyProof.Rows PySem.W
open Sem (wp)
structure KTurn (prog : Program) (w : World) (A : Around) (q S : Addr) (wr : List Addr) (G : Array GenState → Array GenState → Prop) (n : Nat) (P : Nat → Value → Prop) (St : Nat → Shared → Prop) (bt : Nat → Nat → Bool) (T0 : Shared → Prop) (Tn : Nat → Value → Shared → Prop) (Tm : Nat → Value → Value → Shared → Prop) : Prop where
  keep0 : ∀ s s', T0 s → Moved (S :: wr) G s s' → T0 s'
  keepN : ∀ j kb s s', Tn j kb s → Moved (S :: wr) G s s' → Tn j kb s'
  first : ∀ v (s : Shared) (o : Obj) (Q : Value → Shared → Prop) (E : Value → Shared → Prop), 0 < n → P 0 v → T0 s → St 1 s → s.heap.get? S = some o → (∀ v, o.data ≠ .cell v) →
    (∀ k s', Tn 0 k s' → St 1 s' → s'.heap.get? S = some o → Q k s') → wpAny (model prog w) A (call (.ref q) [v]) Q E s
  turn : ∀ j v kb (s : Shared) (o : Obj) (Q : Value → Shared → Prop) (E : Value → Shared → Prop), j + 1 < n → P (j + 1) v → Tn j kb s → St (j + 2) s → s.heap.get? S = some o → (∀ v, o.data ≠ .cell v) →
    (∀ k s', Tm j kb k s' → St (j + 2) s' → s'.heap.get? S = some o → Q k s') → wpAny (model prog w) A (call (.ref q) [v]) Q E s
  cmp : ∀ j kb kx (s : Shared) (Q : Value → Shared → Prop) (E : Value → Shared → Prop), j + 1 < n → Tm j kb kx s → Q (.bool (bt (j + 1) (argBest bt j))) s → wpAny (model prog w) A (richCompare .Lt kx kb) Q E s
  next : ∀ j kb kx s, Tm j kb kx s → Tn (j + 1) (if bt (j + 1) (argBest bt j) then kx else kb) s
section
variable {prog : Program} {w : World} {A : Around} {R : Result → Shared → Prop} {I : Addr} {fp wr : List Addr} {G : Array GenState → Array GenState → Prop} {n : Nat} {P : Nat → Value → Prop} {St : Nat → Shared → Prop} {bt : Nat → Nat → Bool} {T0 : Shared → Prop} {Tn : Nat → Value → Shared → Prop} {Tm : Nat → Value → Value → Shared → Prop} {q : Addr}
theorem minK_loop (W : WalksS prog w A.in1 I fp wr G n P St) (S : Addr) (hSf : S ∉ fp) (K : KTurn prog w A.in1 q S wr G n P St bt T0 Tn Tm) (kw : List (Str × Value)) :
    ∀ (k j : Nat) (s : Shared) (vb kb : Value) (c : Nat), n - (j + 1) = k → j + 1 ≤ n → Tn j kb s → St (j + 1) s → P (argBest bt j) vb →
    s.heap.get? S = some { cls := .type "list", dict := none, data := .seq #[vb, kb] c, slots := #[] } →
    (∀ v kb s', P (argBest bt (n - 1)) v → Tn (n - 1) kb s' → R (.ok (.ret v)) s') → codeAny (model prog w) A (.builtin "min.loop" ⟨[.ref I, (.ref q), .ref S], kw⟩) R s := by
  have hSw : S ∉ wr := fun h => hSf (W.sub _ h)
  have hsub : ∀ b ∈ wr, b ∈ S :: wr := fun b hb => List.mem_cons_of_mem _ hb
  have hname : (toString "min" ++ toString ".loop" : String) = "min.loop" := by decide
  have notS : ∀ {b : Addr}, b ∉ S :: wr → S ≠ b := fun hb h => hb (by rw [h]; exact List.mem_cons_self)
  intro k
  induction k with
  | zero =>
    intro j s vb kb c hk hj hT hst hPb hS hR
    have hin : j + 1 = n := by omega
    refine codeAny_builtin F.entry_min_loop ?_
    rw [Around.under_plainId F.plain_min_loop _]
    show wpAny _ A.in1 (seqItems? (.ref S) >>= _) _ _ s
    refine wpAny_bind (wpAny_seqItems hS rfl ?_)
    show wpAny _ A.in1 (tryCatch (pyNext (.ref I)) _ >>= _) _ _ s
    refine wpAny_bind (wpAny_tryCatch (W.done s _ _ (hin ▸ hst) fun s' hm => ?_))
    have hS' := hm.heap S _ hSw hS
    show wpAny _ A.in1 (updateSeq S (fun _ => #[]) >>= _) _ _ _
    refine wpAny_bind ?_
    refine wpAny_updateSeq hS' rfl (wpAny_bind (wpAny_letGo (wpAny_pure ?_)))
    have ej : n - 1 = j := by omega
    exact hR vb kb _ (by rw [ej]; exact hPb) (by rw [ej]; exact K.keepN _ _ _ _ hT ((hm.mono hsub).then_heap (tk := s'.toks) (Nat.le_refl _) fun b o hb e => (Heap.get?_update_other _ _ (notS hb)).trans e))
  | succ k ih =>
    intro j s vb kb c hk hj hT hst hPb hS hR
    have hlt : j + 1 < n := by omega
    refine codeAny_builtin F.entry_min_loop ?_
    rw [Around.under_plainId F.plain_min_loop _]
    show wpAny _ A.in1 (seqItems? (.ref S) >>= _) _ _ s
    refine wpAny_bind (wpAny_seqItems hS rfl ?_)
    show wpAny _ A.in1 (tryCatch (pyNext (.ref I)) _ >>= _) _ _ s
    refine wpAny_bind (wpAny_tryCatch (W.item (j + 1) s _ _ hlt hst fun v s' hP hst' hm => ?_))
    have hS' := hm.heap S _ hSw hS
    have hT' := K.keepN _ _ _ _ hT (hm.mono hsub)
    show wpAny _ A.in1 (tryCatch (holding [v] (call (.ref q) [v])) _ >>= _) _ _ _
    refine wpAny_bind (wpAny_tryCatch (wpAny_holding (K.turn j v kb s' _ _ _ hlt hP hT' hst' hS' (fun v z => nomatch z) fun kx s'' hT2 hst2 hS2 => ?_)))
    show wpAny _ A.in1 (tryCatch (holding [v, kx] (richCompare .Lt kx kb >>= _)) _ >>= _) _ _ _
    refine wpAny_bind (wpAny_tryCatch (wpAny_holding (wpAny_bind (K.cmp j kb kx s'' _ _ hlt hT2 ?_))))
    refine wpAny_bind (wpAny_holding (wpAny_truthy_bool ?_))
    refine wpAny_bind (wpAny_letGo (wpAny_pure ?_))
    have hN := K.next j kb kx s'' hT2
    cases hb : bt (j + 1) (argBest bt j) with
    | true =>
      rw [hb, if_pos rfl] at hN
      simp only [if_true]
      refine wpAny_bind ?_
      refine wpAny_updateSeq hS2 rfl (wpAny_bind (wpAny_letGo ?_))
      rw [hname]
      have hm2 : Moved (S :: wr) G s'' { s'' with heap := s''.heap.update S (Obj.mapSeq fun _ => #[v, kx]), toks := s''.toks } := (Moved.refl W.grefl).then_heap (tk := s''.toks) (Nat.le_refl _) fun b o hb e => (Heap.get?_update_other _ _ (notS hb)).trans e
      refine wpAny_pure ⟨plainId_quiet F.plain_min_loop _, ih (j + 1) _ v kx _ (by omega) hlt (K.keepN _ _ _ _ hN hm2) (W.frame _ s'' _ s''.toks hst2 (Nat.le_refl _) fun b hbf o e => ?_) (by simp only [argBest, hb, if_true]; exact hP) (Heap.get?_update_self _ hS2 rfl) hR⟩
      exact (Heap.get?_update_other _ _ (fun h : S = b => hSf (by rw [h]; exact hbf))).trans e
    | false =>
      rw [hb, if_neg (by decide)] at hN
      simp only [Bool.false_eq_true, if_false]
      refine wpAny_bind (wpAny_letGo ?_)
      rw [hname]
      exact wpAny_pure ⟨plainId_quiet F.plain_min_loop _, ih (j + 1) _ vb kb c (by omega) hlt hN hst2 (by simp only [argBest, hb, Bool.false_eq_true, if_false]; exact hPb) hS2 hR⟩
theorem minK_first (W : WalksS prog w A.in1 I fp wr G n P St) (S : Addr) (hSf : S ∉ fp) (K : KTurn prog w A.in1 q S wr G n P St bt T0 Tn Tm) (kw : List (Str × Value)) (hn : 0 < n) {s : Shared} {c : Nat} (hT : T0 s) (hst : St 0 s)
    (hS : s.heap.get? S = some { cls := .type "list", dict := none, data := .seq #[] c, slots := #[] })
    (hR : ∀ v kb s', P (argBest bt (n - 1)) v → Tn (n - 1) kb s' → R (.ok (.ret v)) s') : codeAny (model prog w) A (.builtin "min.loop" ⟨[.ref I, (.ref q), .ref S], kw⟩) R s := by
  have hSw : S ∉ wr := fun h => hSf (W.sub _ h)
  have hsub : ∀ b ∈ wr, b ∈ S :: wr := fun b hb => List.mem_cons_of_mem _ hb
  have hname : (toString "min" ++ toString ".loop" : String) = "min.loop" := by decide
  have notS : ∀ {b : Addr}, b ∉ S :: wr → S ≠ b := fun hb h => hb (by rw [h]; exact List.mem_cons_self)
  refine codeAny_builtin F.entry_min_loop ?_
  rw [Around.under_plainId F.plain_min_loop _]
  show wpAny _ A.in1 (seqItems? (.ref S) >>= _) _ _ s
  refine wpAny_bind (wpAny_seqItems hS rfl ?_)
  show wpAny _ A.in1 (tryCatch (pyNext (.ref I)) _ >>= _) _ _ s
  refine wpAny_bind (wpAny_tryCatch (W.item 0 s _ _ hn hst fun v s' hP hst' hm => ?_))
  have hS' := hm.heap S _ hSw hS
  have hT' := K.keep0 _ _ hT (hm.mono hsub)
  show wpAny _ A.in1 (tryCatch (holding [v] (call (.ref q) [v])) _ >>= _) _ _ _
  refine wpAny_bind (wpAny_tryCatch (wpAny_holding (K.first v s' _ _ _ hn hP hT' hst' hS' (fun v z => nomatch z) fun kx s'' hT2 hst2 hS2 => ?_)))
  show wpAny _ A.in1 (updateSeq S (fun _ => #[v, kx]) >>= _) _ _ _
  refine wpAny_bind ?_
  refine wpAny_updateSeq hS2 rfl ?_
  rw [hname]
  have hm2 : Moved (S :: wr) G s'' { s'' with heap := s''.heap.update S (Obj.mapSeq fun _ => #[v, kx]), toks := s''.toks } := (Moved.refl W.grefl).then_heap (tk := s''.toks) (Nat.le_refl _) fun b o hb e => (Heap.get?_update_other _ _ (notS hb)).trans e
  refine wpAny_pure ⟨plainId_quiet F.plain_min_loop _, minK_loop W S hSf K kw _ 0 _ v kx _ rfl hn (K.keepN _ _ _ _ hT2 hm2) (W.frame _ s'' _ s''.toks hst2 (Nat.le_refl _) fun b hbf o e => ?_) hP (Heap.get?_update_self _ hS2 rfl) hR⟩
  exact (Heap.get?_update_other _ _ (fun h : S = b => hSf (by rw [h]; exact hbf))).trans e
end
section
variable {prog : Program} {w : World} {A : Around} {E : Value → Shared → Prop} {s : Shared} {q : Addr}
def KWalk (prog : Program) (w : World) (A : Around) (q : Addr) (Q : Value → Shared → Prop) (dz : Option Value) (it : Value) (s₂ : Shared) : Prop :=
  ∃ I fp wr G n P St bt T0 Tn Tm, it = .ref I ∧ WalksS prog w A I fp wr G n P St ∧ St 0 s₂ ∧ (∀ b ∈ fp, b < s₂.heap.objs.size) ∧ KTurn prog w A q s₂.heap.objs.size wr G n P St bt T0 Tn Tm ∧ T0 s₂ ∧
    (n = 0 → ∃ d, dz = some d ∧ ∀ s', T0 s' → Q d s') ∧ (0 < n → ∀ v kb s', P (argBest bt (n - 1)) v → Tn (n - 1) kb s' → Q v s')
theorem minK_call {x : Value} {Q : Value → Shared → Prop} (h : wpAny (model prog w) A.in1 (pyIter x) (KWalk prog w A.in1 q Q none) E s) :
    wpAny (model prog w) A (call (.builtin "min") [x] [(Str.ofString "key", .ref q)]) Q E s := by
  have hname : (toString "min" ++ toString ".loop" : String) = "min.loop" := by decide
  refine PyProof.Rows.kmk_tree F.kind_min F.plain_min F.entry_min (PyProof.Rows.kmk_min_key _ _) ?_
  show wpAny _ A.in1 (Builtin.Builtins.bindParams "min" ["key", "default"] 0 ⟨[], [(Str.ofString "key", .ref q)]⟩ >>= _) _ _ s
  refine wpAny_bind (wpAny_of_eq (show Builtin.Builtins.bindParams "min" ["key", "default"] 0 ⟨[], [(Str.ofString "key", .ref q)]⟩ = pure [some (.ref q), none] from rfl) ?_)
  refine wpAny_bind (wpAny_pure ?_)
  refine wpAny_bind (wpAny_mono h (fun it s₂ h₂ => ?_) fun _ _ e => e)
  obtain ⟨I, fp, wr, G, n, P, St, bt, T0, Tn, Tm, rfl, W, hst, hfp, K, hT, h0, hQ⟩ := h₂
  have hn : 0 < n := by
    rcases Nat.eq_zero_or_pos n with z | z
    · obtain ⟨d, e, _⟩ := h0 z
      cases e
    · exact z
  refine wpAny_bind (wpAny_newObj_type ?_)
  have hSf : s₂.heap.objs.size ∉ fp := fun hm => Nat.lt_irrefl _ (hfp _ hm)
  rw [hname]
  have hm0 : Moved (s₂.heap.objs.size :: wr) G s₂ { s₂ with heap := s₂.heap.push { cls := .type "list", data := .seq #[] 0 }, toks := s₂.toks } := (Moved.refl W.grefl).then_heap (tk := s₂.toks) (Nat.le_refl _) fun b o _ e => Heap.get?_push_of_some _ e
  have hst' := W.frame 0 s₂ (s₂.heap.push { cls := .type "list", data := .seq #[] 0 }) s₂.toks hst (Nat.le_refl _) fun b _ o e => Heap.get?_push_of_some _ e
  exact wpAny_pure ⟨plainId_quiet F.plain_min_loop _, minK_first W s₂.heap.objs.size hSf K _ hn (K.keep0 _ _ hT hm0) hst' (Heap.get?_push_size _ rfl) (hQ hn)⟩
end
theorem walk_rel {prog : Program} {w : World} {A : Around} {xs : List V} {l I : Addr} (hh : A.handled = none) (hne : l ≠ I) : WalksS prog w A I [I, l] [I] (fun a b => b = a) xs.length (fun i v => ∃ x, xs[i]? = some x ∧ RelV x v) (fun i s => ∃ vs : Array Value, Vals xs vs.toList ∧ s.heap.IsListIter I l i ∧ s.heap.IsList l vs) where
  sub := fun b hb => by rw [List.mem_singleton.mp hb]; exact List.mem_cons_self
  grefl := fun _ => rfl
  gtrans := fun _ _ _ h1 h2 => h2.trans h1
  frame := fun i s h' tk ⟨vs, rv, h1, h2⟩ ht hk => by
    have W := (Walks.list (prog := prog) (w := w) (A := A) hh I l hne vs).toS
    obtain ⟨a, b⟩ := W.frame i s h' tk ⟨h1, h2⟩ ht hk
    exact ⟨vs, rv, a, b⟩
  item := fun i s Q E hi ⟨vs, rv, h1, h2⟩ q => by
    have W := (Walks.list (prog := prog) (w := w) (A := A) hh I l hne vs).toS
    have hl : vs.size = xs.length := by rw [← Array.length_toList, rv.length]
    refine W.item i s Q E (by omega) ⟨h1, h2⟩ fun v s' hP hst hm => q v s' ?_ ⟨vs, rv, hst.1, hst.2⟩ hm
    obtain ⟨x, hx, rx⟩ := vals_back rv (by rw [Array.getElem?_toList]; exact hP)
    exact ⟨x, hx, rx⟩
  done := fun s Q E ⟨vs, rv, h1, h2⟩ q => by
    have W := (Walks.list (prog := prog) (w := w) (A := A) hh I l hne vs).toS
    have hl : vs.size = xs.length := by rw [← Array.length_toList, rv.length]
    exact W.done s Q E (by rw [hl]; exact ⟨h1, h2⟩) q
  self := fun i s Q E ⟨vs, rv, h1, h2⟩ q => by
    have W := (Walks.list (prog := prog) (w := w) (A := A) hh I l hne vs).toS
    exact W.self i s Q E ⟨h1, h2⟩ q
end CcK

namespace CcK
open PySem PySem.Spec L2 Cc PyProof.Rows PySem.W
def btK (kz : List PyData) : Nat → Nat → Bool := fun i j => dataLt (kz.getD i .none) (kz.getD j .none)
theorem argBest_le (bt : Nat → Nat → Bool) : ∀ k, argBest bt k ≤ k
  | 0 => Nat.le_refl _
  | k + 1 => by
    unfold argBest
    split
    · exact Nat.le_refl _
    · exact Nat.le_succ_of_le (argBest_le bt k)
def MinK (K : PySem.W.Frag) (sp : Sp) (H : Hp) (a : Addr) (xs : List V) (dz : Option V) (Q : VK) : Prop :=
  ∃ (kz : List PyData) (J : Hp → Prop) (KD : Nat → V → Hp → Prop), J H ∧ (∀ (i : Nat) d u H', kz[i]? = some d → KD i u H' → Dp K H' u d) ∧ (∀ H', J H' → SqL K H' a xs) ∧ kz.length = xs.length ∧
    (∀ (i : Nat) x d H', xs[i]? = some x → kz[i]? = some d → J H' → sp [x] H' (fun v H'' => J H'' ∧ KD i v H'' ∧ ∀ j u, KD j u H' → KD j u H'') Cc.E0) ∧
    AlikeAll kz ∧ (∀ d ∈ kz, d.depth ≤ 60) ∧ (xs = [] → ∃ z, dz = some z ∧ ∀ H', J H' → Q z H') ∧
    ∀ H' x, J H' → xs[argBest (btK kz) (xs.length - 1)]? = some x → Q x H'
def rMinK (K : PySem.W.Frag) (sp : Sp) (f : Addr) : List V → List V → Hp → VK → Prop := fun vs zs H Q => ∃ (a : Addr) (xs : List V), vs = [.ref a] ∧ zs = [.ref f] ∧ MinK K sp H a xs none Q
section
variable {X : Cx} {pins : List (Addr × Obj)} {σ : L2.St}
theorem inv_moved {H : Hp} {s s' : Shared} {S I : Addr} (Iv : Inv X pins σ H s) (fS : FpOk X pins H S) (fI : FpOk X pins H I) (m : Moved (S :: [I]) (fun a b => b = a) s s') : Inv X pins σ H s' := by
  obtain ⟨hp, g, d, tk, os⟩ := s'
  have h1 : g = s.gens := m.gens
  have h2 : d = s.drawn := m.drawn
  have h3 : os = s.os := m.os
  subst h1
  subst h2
  subst h3
  exact Iv.turnedL (t' := tk) (ch := [S, I]) (fun b o hb e => m.heap b o hb e) fun b hb => by
    rcases List.mem_cons.mp hb with rfl | hb
    · exact fS
    · rw [List.mem_singleton.mp hb]; exact fI
variable {n : Nat} {f : Addr} {fd : FuncData} {ps : List Str} {sp : Sp}
theorem key_step {A : Around} {J : Hp → Prop} {KD : Nat → V → Hp → Prop} {a S I : Addr} {xs : List V} {i m : Nat} {x : V} {v : Value} {H : Hp} {s : Shared} {o : Obj} {Q : Value → Shared → Prop} {E : Value → Shared → Prop}
    (F : FnOk X.prog X.w X.K X.mg X.base CX0 n f fd ps sp) (hb : L2.Binds X.K fd ps []) (hA : A.frames = some X.stack) (hr : Room n A)
    (hsq : ∀ H', J H' → SqL X.K H' a xs) (turn : sp [x] H (fun v H'' => J H'' ∧ KD i v H'' ∧ ∀ j u, KD j u H → KD j u H'') Cc.E0) (rx : RelV x v)
    (Iv : Inv X pins σ H s) (fS : FpOk X pins H S) (fI : FpOk X pins H I) (st : ∃ vs : Array Value, Vals xs vs.toList ∧ s.heap.IsListIter I a m ∧ s.heap.IsList a vs) (hS : s.heap.get? S = some o) (ho : ∀ v, o.data ≠ .cell v)
    (k : ∀ kx s' H', Inv X pins σ H' s' → FpOk X pins H' S → FpOk X pins H' I → J H' → (∃ vs : Array Value, Vals xs vs.toList ∧ s'.heap.IsListIter I a m ∧ s'.heap.IsList a vs) → s'.heap.get? S = some o → (∃ y, RelV y kx ∧ KD i y H') → (∀ j u, KD j u H → KD j u H') → Q kx s') :
    wpAny (model X.prog X.w) A (call (.ref f) [v]) Q E s := by
  obtain ⟨vs, rv, ⟨oi, hi, hic, hid⟩, _⟩ := st
  have fp : ∀ b ∈ [S, I], FpOk X pins H b := fun b hb => by
    rcases List.mem_cons.mp hb with rfl | hb
    · exact fS
    · rw [List.mem_singleton.mp hb]; exact fI
  have V' := Iv.pinned fp fun b hb => by
    rcases List.mem_cons.mp hb with rfl | hb
    · exact ⟨_, hS, ho⟩
    · rw [List.mem_singleton.mp hb]; exact ⟨_, hi, fun v z => by rw [hid] at z; cases z⟩
  refine wpAny_mono (key_turn (E := fun _ _ => False) F hb hA hr V' rx turn) (fun kx s2 hq => ?_) fun _ _ z => z.elim
  obtain ⟨y, H2, V2, ry, J2, D2, M2⟩ := hq
  have pS := V2.pin (S, o) (List.mem_append_right _ (List.mem_append_right _ (mem_pinsAt (by simp) hS)))
  have pI := V2.pin (I, oi) (List.mem_append_right _ (List.mem_append_right _ (mem_pinsAt (by simp) hi)))
  have V3 : Inv X pins σ H2 s2 := V2.unpinned
  obtain ⟨its, rv2, hl2, _⟩ := V3.list (hsq H2 J2)
  exact k kx s2 H2 V3 (fpAt fS pS.2.1) (fpAt fI pI.2.1) J2 ⟨its.toArray, rv2, ⟨oi, pI.1, hic, hid⟩, hl2.isList⟩ pS.1 ⟨y, ry, D2⟩ M2
theorem minK_walk (hc : X.calm = true) {H : Hp} {s : Shared} {a : Addr} {xs : List V} {dz : Option V} {dv : Option Value} {Q : VK} {E : Value → Shared → Prop}
    (F : FnOk X.prog X.w X.K X.mg X.base CX0 n f fd ps sp) (hb : L2.Binds X.K fd ps []) (hr : Room (n + 1) X.A) (Iv : Inv X pins σ H s) (D : MinK X.K sp H a xs dz Q) (hz : ∀ z, dz = some z → ∃ u, dv = some u ∧ RelV z u) :
    wpAny (model X.prog X.w) X.A.in1 (pyIter (.ref a)) (KWalk X.prog X.w X.A.in1 f (EP X pins σ Q) dv) E s := by
  obtain ⟨kz, J, KD, hJ, hkd, hsq, hlen, turn, hal, hdp, h0, hq⟩ := D
  obtain ⟨its, rv, hl, _⟩ := Iv.list (hsq H hJ)
  refine wpAny_pyIter_list hl.isList ?_
  have hlt : a < s.heap.objs.size := by obtain ⟨_, e, _⟩ := hl.isList; exact Heap.lt_size e
  generalize hI : s.heap.objs.size = I at *
  have Hn : ∀ b, I ≤ b → H b = none := fun b hb => Iv.hok.fresh (by rw [hI]; exact hb)
  have hs2 : (s.heap.push { cls := .type "list_iterator", data := .fields #[.ref a, .int 0 0] }).objs.size = I + 1 := by rw [Heap.size_push, hI]
  have fI : FpOk X pins H I := Iv.fpOk (by omega) (Hn _ (by omega))
  have fS : FpOk X pins H (I + 1) := Iv.fpOk (by omega) (Hn _ (by omega))
  have gd : ∀ {i : Nat} {d : PyData}, kz[i]? = some d → kz.getD i .none = d := fun {i d} e => by rw [List.getD_eq_getElem?_getD, e]; rfl
  have at_ : ∀ {i : Nat} {x : V}, xs[i]? = some x → ∃ d, kz[i]? = some d ∧ d ∈ kz := fun {i x} e => by
    have hi : i < kz.length := by rw [hlen]; exact (List.getElem?_eq_some_iff.mp e).1
    exact ⟨kz[i], List.getElem?_eq_getElem hi, List.getElem_mem hi⟩
  refine ⟨I, _, _, _, xs.length, _, _, btK kz, fun s' => ∃ H', Inv X pins σ H' s' ∧ FpOk X pins H' (I + 1) ∧ FpOk X pins H' I ∧ J H',
    fun j kb s' => ∃ H', Inv X pins σ H' s' ∧ FpOk X pins H' (I + 1) ∧ FpOk X pins H' I ∧ J H' ∧ ∃ y, RelV y kb ∧ KD (argBest (btK kz) j) y H',
    fun j kb kx s' => ∃ H', Inv X pins σ H' s' ∧ FpOk X pins H' (I + 1) ∧ FpOk X pins H' I ∧ J H' ∧ (∃ y, RelV y kb ∧ KD (argBest (btK kz) j) y H') ∧ ∃ y, RelV y kx ∧ KD (j + 1) y H',
    rfl, walk_rel (l := a) (I := I) (xs := xs) (Iv.ok.hd hc) (Nat.ne_of_lt hlt), ⟨its.toArray, rv, ⟨_, by rw [← hI]; exact Heap.get?_push_size _ rfl, rfl, rfl⟩, hl.isList.push _⟩, fun b hb => ?_, ?_, ⟨H, Iv.kept (t' := s.toks) fun b o e => Heap.get?_push_of_some _ e, fS, fI, hJ⟩, fun hn => ?_, fun hn v kb s' hP hT => ?_⟩
  · show b < (s.heap.push _).objs.size
    rw [hs2]
    rcases List.mem_cons.mp hb with rfl | hb
    · exact Nat.lt_succ_self _
    · rw [List.mem_singleton.mp hb]; exact Nat.lt_succ_of_lt hlt
  · show KTurn X.prog X.w X.A.in1 f (s.heap.push _).objs.size _ _ _ _ _ _ _ _ _
    rw [hs2]
    exact {
      keep0 := fun s1 s2 ⟨H1, V1, f1, f2, j1⟩ m => ⟨H1, inv_moved V1 f1 f2 m, f1, f2, j1⟩
      keepN := fun j kb s1 s2 ⟨H1, V1, f1, f2, j1, y⟩ m => ⟨H1, inv_moved V1 f1 f2 m, f1, f2, j1, y⟩
      first := fun v s1 o Q1 E1 hn hP ⟨H1, V1, f1, f2, j1⟩ st hS ho k => by
        obtain ⟨x, hx, rx⟩ := hP
        obtain ⟨d, hd, _⟩ := at_ hx
        refine key_step F hb V1.ok.frames hr.in1 hsq (turn 0 x d H1 hx hd j1) rx V1 f1 f2 st hS ho fun kx s2 H2 V2 g1 g2 j2 st2 hS2 ⟨y, ry, Dy⟩ _ => k kx s2 ⟨H2, V2, g1, g2, j2, y, ry, Dy⟩ st2 hS2
      turn := fun j v kb s1 o Q1 E1 hn hP ⟨H1, V1, f1, f2, j1, y0, ry0, D0⟩ st hS ho k => by
        obtain ⟨x, hx, rx⟩ := hP
        obtain ⟨d, hd, _⟩ := at_ hx
        refine key_step F hb V1.ok.frames hr.in1 hsq (turn (j + 1) x d H1 hx hd j1) rx V1 f1 f2 st hS ho fun kx s2 H2 V2 g1 g2 j2 st2 hS2 ⟨y, ry, Dy⟩ M => k kx s2 ⟨H2, V2, g1, g2, j2, ⟨y0, ry0, M _ _ D0⟩, y, ry, Dy⟩ st2 hS2
      cmp := fun j kb kx s1 Q1 E1 hn ⟨H1, V1, f1, f2, j1, ⟨y0, ry0, D0⟩, y, ry, Dy⟩ hq => by
        have hle := argBest_le (btK kz) j
        have g1 : kz[j + 1]? = some (kz.getD (j + 1) .none) := by rw [List.getD_eq_getElem?_getD, List.getElem?_eq_getElem (by omega : j + 1 < kz.length)]; rfl
        have g2 : kz[argBest (btK kz) j]? = some (kz.getD (argBest (btK kz) j) .none) := by rw [List.getD_eq_getElem?_getD, List.getElem?_eq_getElem (by omega : argBest (btK kz) j < kz.length)]; rfl
        obtain ⟨bs, rb⟩ := Dp.reads V1 _ _ _ (hkd _ _ _ _ g2 D0) ry0
        obtain ⟨as, ra⟩ := Dp.reads V1 _ _ _ (hkd _ _ _ _ g1 Dy) ry
        have m1 : kz.getD (j + 1) .none ∈ kz := by
          rw [List.getD_eq_getElem?_getD, List.getElem?_eq_getElem (by omega : j + 1 < kz.length)]; exact List.getElem_mem _
        have m2 : kz.getD (argBest (btK kz) j) .none ∈ kz := by
          rw [List.getD_eq_getElem?_getD, List.getElem?_eq_getElem (by omega : argBest (btK kz) j < kz.length)]; exact List.getElem_mem _
        refine rcLt_alike _ _ _ s1 kx kb _ _ ra rb (hal.1 _ m1 _ m2) (hal.2 _ m1) ?_ _ _ E1 Q1 hq
        have u := hr.in1.un
        have d1 := hdp _ m1
        have := Nat.min_le_left (kz.getD (j + 1) .none).depth (kz.getD (argBest (btK kz) j) .none).depth
        omega
      next := fun j kb kx s1 ⟨H1, V1, f1, f2, j1, ⟨y0, ry0, D0⟩, y, ry, Dy⟩ => by
        refine ⟨H1, V1, f1, f2, j1, ?_⟩
        show ∃ y, RelV y (if btK kz (j + 1) (argBest (btK kz) j) = true then kx else kb) ∧ KD (if btK kz (j + 1) (argBest (btK kz) j) = true then j + 1 else argBest (btK kz) j) y H1
        split
        · exact ⟨y, ry, Dy⟩
        · exact ⟨y0, ry0, D0⟩ }
  · obtain ⟨z, ez, q⟩ := h0 (List.eq_nil_of_length_eq_zero hn)
    obtain ⟨u, eu, ru⟩ := hz z ez
    exact ⟨u, eu, fun s' ⟨H1, V1, _, _, j1⟩ => ⟨z, H1, V1, ru, q H1 j1⟩⟩
  · obtain ⟨x, hx, rx⟩ := hP
    obtain ⟨H1, V1, _, _, j1, _⟩ := hT
    exact ⟨x, H1, V1, rx, hq H1 x j1 hx⟩
theorem call_minK (hc : X.calm = true) {m : Nat} {x : Str} (F0 : Cal X.prog X.w X.K X.mg X.base CX0 n x ps sp) (hr : Room m X.A) (hn : n + 1 ≤ m := by decide) : ∃ f : Addr, X.mg x = some (.ref f) ∧ CallRK X (.builtin "min") [Str.ofString "key"] (rMinK X.K sp f) := by
  obtain ⟨f, fd, F, hm, hkp, hb⟩ := F0
  refine ⟨f, hm, ?_⟩
  intro pins s σ H vs zs us ws Q I r rz h
  obtain ⟨a, xs, rfl, rfl, D⟩ := h
  obtain rfl := Vals.ref1 r
  obtain ⟨w1, rfl, e1⟩ := vals1 rz
  obtain rfl : w1 = Value.ref f := e1
  exact minK_call (minK_walk hc F hb (hr.mono hn) I D fun z e => nomatch e)
end
end CcK

namespace Mi
open PySem L2 Cc PySem.W
def tMinK (K : Fg) (sp : Sp) (te : TE) : TE := fun σ H Q => te σ H fun v H1 => ∃ (a : Addr) (xs : List V), v = .ref a ∧ CcK.MinK K sp H1 a xs none Q
theorem tMinK_eq {K : Fg} {sp : Sp} {te : TE} {f : Addr} : tCKw (CcK.rMinK K sp f) (tCons te tNil) (tCons (tC (.ref f)) tNil) = tMinK K sp te := by
  funext σ H Q
  show te σ H (fun v H1 => CcK.rMinK K sp f [v] [.ref f] H1 Q) = te σ H _
  congr 1
  funext v H1
  unfold CcK.rMinK
  refine propext ⟨fun ⟨a, xs, h1, _, h⟩ => ⟨a, xs, by simpa using h1, h⟩, fun ⟨a, xs, h1, h⟩ => ⟨a, xs, by rw [h1], rfl, h⟩⟩
theorem pe_minF {X : Cx} {K : Fg} {n m : Nat} {x : Str} {ps : List Str} {sp : Sp} {e : Expr} {p pos : Pos} {kws : List Keyword} {te : TE} (hc : X.calm = true) (F0 : Cal X.prog X.w X.K X.mg X.base CX0 n x ps sp) (hr : Room m X.A) (hb : X.mg "min" = none) (ha : PA X [e] (tCons te tNil))
    (hk : ∀ f, X.mg x = some (.ref f) → PK X kws (tCons (tC (.ref f)) tNil)) (hg : Gl X "min" := by rfl) (hn : n + 1 ≤ m := by decide) (hv : bootBuiltins "min" = some (.builtin "min") := by decide +kernel) (hK : X.K = K := by rfl)
    (he : backTo pos (starEach [e] X.env) = (false, eval e X.env) :: backTo pos (starEach [] X.env) := by rfl) (hpl : (backTo pos (starEach [e] X.env)).any (·.1) = false := by rfl)
    (hall : (backToKw pos (keywordEach kws X.env)).all (·.1.isSome) = true := by rfl) (hnone : (backToKw pos (keywordEach kws X.env)).any (·.1.isNone) = false := by rfl) (hks : (backToKw pos (keywordEach kws X.env)).filterMap (·.1) = [Str.ofString "key"] := by rfl) :
    PE X (.Call (.Name "min" p) [e] kws pos) (tMinK K sp te) := by
  subst hK
  obtain ⟨f, hm, CR⟩ := CcK.call_minK hc F0 hr hn
  have P := pe_callBK (p := p) (pos := pos) CR hg hb hv ha (hk f hm) (by decide) (by decide) he hpl hall hnone hks
  rw [tMinK_eq] at P
  exact P
def keysR (F : List D → M D) : List D → Option (List D)
  | [] => some []
  | d :: ds => match F [d] with
    | .ret k => match keysR F ds with
      | some ks => some (k :: ks)
      | none => none
    | _ => none
def keysK (ks : List D) : Bool := D.pls ks && alikeB (D.pys ks) && (D.pys ks).all fun d => decide (d.depth ≤ 60)
def minKy (F : List D → M D) (ds : List D) (dz : Option D) : M D := match keysR F ds with
  | some ks => if keysK ks then (match ds with
    | [] => match dz with
      | some z => .ret z
      | none => .bad
    | d :: r => .ret ((d :: r).getD (argBest (CcK.btK (D.pys ks)) r.length) .non)) else .bad
  | none => .bad
def mMinK (F : List D → M D) (a : Env → M D) : Env → M D := fun ρ => (a ρ).bind fun d => match d with
  | .lst ds => minKy F ds none
  | _ => .bad
theorem keysR_at {F : List D → M D} : ∀ {ds ks : List D}, keysR F ds = some ks → ks.length = ds.length ∧ ∀ (i : Nat) d, ds[i]? = some d → ∃ k, ks[i]? = some k ∧ F [d] = .ret k
  | [], ks, h => by
    cases h
    exact ⟨rfl, fun i d e => by simp at e⟩
  | d :: ds, ks, h => by
    unfold keysR at h
    split at h
    case h_2 => cases h
    rename_i k hk
    split at h
    case h_2 => cases h
    rename_i ks' hks
    cases h
    obtain ⟨h1, h2⟩ := keysR_at hks
    refine ⟨by simp [h1], fun i e he => ?_⟩
    cases i with
    | zero => simp at he; subst he; exact ⟨k, by simp, hk⟩
    | succ i => obtain ⟨k', e1, e2⟩ := h2 i e (by simpa using he); exact ⟨k', by simpa using e1, e2⟩
section
variable {K : Fg} {W : Wd K} {E : XK} {te tz : TE} {a b : Env → M D}
theorem minK_of {F : List D → M D} {Y : Addr → Bool} {H0 H : Hp} {Q : VK} {l : Addr} {xs : List V} {ds : List D} {dz : Option D} {zv : Option V} (o : Ok W Y H) (e0 : Ext W H0 H) (hs : SqL K H l xs ∧ ∀ H', Ok W Y H' → Ext W H H' → SqL K H' l xs) (hd : Dms W Y H xs ds)
    (hz : ∀ d, dz = some d → ∃ v, zv = some v ∧ Dm W Y H v d) {Er : Str → List D → Prop} (w : (minKy F ds dz).wp (RetP W Y H0 Q) Er) : CcK.MinK K (spC W F) H l xs zv Q := by
  unfold minKy at w
  split at w
  case h_2 => exact w.elim
  rename_i ks hks
  obtain ⟨hl, hat⟩ := keysR_at hks
  split at w
  case isFalse => exact w.elim
  rename_i kk
  simp only [keysK, Bool.and_eq_true, List.all_eq_true, decide_eq_true_eq] at kk
  obtain ⟨⟨kp, ka⟩, k60⟩ := kk
  have lx := hd.length
  have pys_at : ∀ (i : Nat) d, (D.pys ks)[i]? = some d → ∃ k, ks[i]? = some k ∧ k.py = d ∧ k ∈ ks := fun i d e => by
    rw [D.pys_map, List.getElem?_map] at e
    cases hk : ks[i]? with
    | none => rw [hk] at e; cases e
    | some k => rw [hk] at e; exact ⟨k, rfl, Option.some.inj e, List.mem_of_getElem? hk⟩
  refine ⟨D.pys ks, fun H' => Ok W Y H' ∧ Ext W H H', fun i u H' => ∃ k, ks[i]? = some k ∧ Dm W Y H' u k, ⟨o, .refl o.1⟩, fun i d u H' hd hu => ?_, fun H' h => hs.2 H' h.1 h.2, by rw [D.pys_map, List.length_map]; omega, fun i x d H' hx hk h => ?_, alikeB_iff ka, fun d hd => by simpa using k60 d hd, fun hx => ?_, fun H' x h hx => ?_⟩
  · obtain ⟨k, hk, rfl, hm⟩ := pys_at i d hd
    obtain ⟨k', hk', hu⟩ := hu
    rw [hk] at hk'
    cases hk'
    exact Dn.dp _ _ (pls_mem kp _ hm) (Dm.un hu)
  · obtain ⟨z, hz, hzx⟩ := (hd.up o h.2).get hx
    obtain ⟨k, hk', hF⟩ := hat i z hz
    refine ⟨Y, [z], h.1, .cons hzx .nil, ?_⟩
    rw [hF]
    show RetP W Y H' _ k
    intro v H1 e1 hv
    exact ⟨⟨h.1.ext e1, h.2.trans e1⟩, ⟨k, hk', hv⟩, fun j u ⟨k2, h2, hu⟩ => ⟨k2, h2, hu.up h.1 e1⟩⟩
  · subst hx
    cases hd
    cases dz with
    | none => exact w.elim
    | some d =>
      obtain ⟨v, e1, hv⟩ := hz d rfl
      refine ⟨v, e1, fun H' h => ?_⟩
      exact w v H' (e0.trans h.2) (hv.up o h.2)
  · cases ds with
    | nil => cases hd; simp at hx
    | cons d r =>
      have el : xs.length - 1 = r.length := by rw [lx]; rfl
      rw [el] at hx
      obtain ⟨z, hz, hzx⟩ := (hd.up o h.2).get hx
      have w' : RetP W Y H0 Q ((d :: r).getD (argBest (CcK.btK (D.pys ks)) r.length) .non) := w
      rw [List.getD_eq_getElem?_getD, hz] at w'
      exact w' x H' (e0.trans h.2) hzx
theorem ge_minK {F : List D → M D} (ha : GE W E te a) : GE W E (tMinK K (spC W F) te) (mMinK F a) := fun Y σ H ρ Q o e w =>
  ha.seq o e w (fun _ _ h => h) fun d x H1 e1 o1 r1 hx w1 => by
    cases hx with
    | @lst l xs ds hs hd =>
      exact ⟨l, xs, rfl, minK_of (dz := none) (zv := none) o1 e1 ⟨SqL.of (mask_le _ _ hs), fun H' o' e' => SqL.of (mask_le _ _ (mask_ext o1 e' _ _ hs))⟩ hd (fun d z => nomatch z) w1⟩
    | _ => exact w1.elim
end
end Mi

namespace Mi
open PySem L2 Cc PySem.W
section
variable {K : Fg} {W : Wd K} {E : XK} {te : TE} {a : Env → M D}
end
end Mi

namespace Mi
open PySem L2 Cc PySem.W
section
variable {K : Fg} {W : Wd K} {E E' : XK} {ta : TA} {a : Env → M (List D)}
end
end Mi

namespace Mi
open PySem L2 Cc
section
variable {K : Fg} {W : Wd K} {E : XK} {te : TE} {a : Env → M D}
end
end Mi

namespace Cc
open PySem PySem.Spec PyProof.Rows L2 PpSet
section
variable {X : Cx}
theorem addI_ok {pins : List (Addr × Obj)} {σ : L2.St} {H : Hp} {s : Shared} {E : Value → Shared → Prop} {D : Addr} {S : Int → Bool} {n : Nat} {y : Int} {tk : Tok} {Q : Value → Shared → Prop} (I : Inv X pins σ H s) (hD : H D = some (SetO X.w D S n)) (room : n + 1 < scanBound)
    (h : ∀ s', Inv X pins σ (upd H D (SetO X.w D (fun j => S j || decide (j = y)) (if S y = true then n else n + 1))) s' → Q .none s') : wpAny (model X.prog X.w) X.A (call (.builtin "set.add") [.ref D, .int y tk]) Q E s := by
  refine setR_add (setO_get I hD) room fun h' sb new => ?_
  obtain ⟨o, _, _, _, ho, _⟩ := id new
  exact h _ (I.write (e := D) (t' := s.toks + 1) (by rw [hD]; trivial) (.inl rfl) (fun b u hb hu => (sb.2 b hb).trans hu) ⟨o, ho⟩ (setO_new new))
def tScI (w : World) (wi : TI) (g : TG) (tt : TT) (te : TE) (vs : List Nat) : TE := fun σ H Q => wi σ H fun J H1 => ∀ D, H1 D = none → ∃ W : Nat → Nat → Hp → Prop, (∃ m, W 0 m (upd H1 D (SetO w D (fun _ => false) 0))) ∧ ∀ i m H, W i m H →
  (J.stop i H ∧ Q (.ref D) H) ∨ (J.go i H ∧ ∃ Nx : Hp → Prop, (∀ H', Nx H' → ∃ m', m' < m ∧ W (i + 1) m' H') ∧ ∀ x H', J.yld i H x H' → g x (wipe σ vs) H' fun σ2 H2 => wipe σ2 vs = wipe σ vs ∧ tt σ2 H2 fun b H3 =>
    if b = true then te σ2 H3 fun y H4 => ∃ (c : Int) (S : Int → Bool) (n : Nat), y = .int c ∧ H4 D = some (SetO w D S n) ∧ n + 1 < scanBound ∧ Nx (upd H4 D (SetO w D (fun j => S j || decide (j = c)) (if S c = true then n else n + 1))) else Nx H3)
theorem scI_core {pins : List (Addr × Obj)} {s : Shared} {σ : L2.St} {H : Hp} {Q : VK} {elt tg iter : Expr} {ifs : List Expr} {scope : Scope} {own : List (PySem.Str × Nat)} {pos pos' : Pos} {wi : TI} {g : TG} {tt : TT} {te : TE} {use : Option (Value → Sem Unit)} {Qf : Value → Shared → Prop}
    (hc : X.calm = true) (hN : X.N.Nodup) (I : Inv X pins σ H s) (hi : PI X tg iter wi) (ok : BlkOk X.N X.env.scope scope own)
    (hg : ∀ (s : Shared) (H : Hp) (C : Addr) (cl : List (PySem.Str × Addr)) (fp : List Addr), PG (X.blk s H scope (compEnvC scope cl C X.env) fp) tg g) (ht : ∀ (s : Shared) (H : Hp) (C : Addr) (cl : List (PySem.Str × Addr)) (fp : List Addr), PTs (X.blk s H scope (compEnvC scope cl C X.env) fp) ifs tt)
    (he : ∀ (s : Shared) (H : Hp) (C : Addr) (cl : List (PySem.Str × Addr)) (fp : List Addr), PE (X.blk s H scope (compEnvC scope cl C X.env) fp) elt te) (hs : ∀ x, foldedSetIterable iter X.env x = pure x)
    (h : tScI X.w wi g tt te (own.map (·.2)) σ H Q)
    (hRR : ∀ D C s' m H', Inv X pins σ H' s' → Q (.ref D) H' → s'.heap.Ns C m → FpOk X pins H' C → compPost (model X.prog X.w) X.A X.xe use Qf (.ref D) C (.ok .next) s') :
    wpAny (model X.prog X.w) X.A (comprehension (.SetComp elt [⟨tg, iter, ifs, 0⟩] scope pos) scope X.env pos' (newSet (.type "set")) false (eval iter X.env) use) Qf X.xe s := by
  have caps : ∀ y ∈ scope.names, y.2 = .free → ∃ c, X.env.cells.lookup y.1 = some c := fun y hy e => (ok.free y hy e).elim (fun k => I.ok.has _ (.inl k)) fun k => I.ok.has _ (.inr k)
  refine wpAny_comprehension_free (use := use) rfl hs (closure_ok caps) ok.kind (fun y hy e => by rw [ok.uniq y hy, e])
    (thn (hi.run pins s σ H _ I h) fun xv s1 hx => thn hx fun itv s2 h2 => ?_)
  obtain ⟨it, fp, tn, J, H2, rfl, I2, T, st2, f2, q⟩ := h2
  refine newSet_ok (newEnv_comp ?_)
  generalize dD : s2.heap.objs.size = D
  obtain ⟨W, ⟨m0, w0⟩, turn⟩ := q D (I2.hok.fresh (Nat.le_of_eq dD))
  let o0 : Obj := { cls := .type "set", dict := none, data := .set #[] 0 (.fresh 0 0 (!X.w.params.followText "set-order")) }
  generalize es3 : ({ s2 with heap := s2.heap.push o0 } : Shared) = s3
  have h3 : s3.heap = s2.heap.push o0 := by rw [← es3]
  have I3 : Inv X pins σ (upd H2 D (SetO X.w D (fun _ => false) 0)) s3 := by
    rw [← es3]
    refine I2.laid (t' := s2.toks) (fun b o e => Heap.get?_push_of_some _ e) (Nat.le_of_eq dD) ?_
    rw [← dD]
    exact setO_new (setR_fresh X.w)
  have f3 : ∀ b ∈ fp, FpOk X pins (upd H2 D (SetO X.w D (fun _ => false) 0)) b ∧ b < s3.heap.objs.size := fun b hb => by
    obtain ⟨o, e, _⟩ := T.obj _ _ st2 b hb
    have lt : b < s2.heap.objs.size := Heap.lt_size e
    refine ⟨⟨?_, (f2 b hb).2⟩, by rw [h3, Heap.size_push]; exact Nat.lt_succ_of_lt lt⟩
    rw [upd_ne (by rw [← dD]; exact Nat.ne_of_lt lt)]
    exact (f2 b hb).1
  have st3 : tn 0 s3.heap := T.keep _ _ _ st2 fun b _ o e => by rw [h3]; exact Heap.get?_push_of_some _ e
  have I4 := block_start I3 ok hN f3
  have pg := hg s3 (upd H2 D (SetO X.w D (fun _ => false) 0)) s3.heap.objs.size (cellsFrom (s3.heap.objs.size + 1) scope.names (cloFrom X.env.cells scope.names [])) fp
  have pt := ht s3 (upd H2 D (SetO X.w D (fun _ => false) 0)) s3.heap.objs.size (cellsFrom (s3.heap.objs.size + 1) scope.names (cloFrom X.env.cells scope.names [])) fp
  have pe := he s3 (upd H2 D (SetO X.w D (fun _ => false) 0)) s3.heap.objs.size (cellsFrom (s3.heap.objs.size + 1) scope.names (cloFrom X.env.cells scope.names [])) fp
  show codeAny _ _ (.compStart (.SetComp elt [⟨tg, iter, ifs, 0⟩] scope pos) 0 (.ref it) (.ref D) (compEnvC scope (cellsFrom (s3.heap.objs.size + 1) scope.names (cloFrom X.env.cells scope.names [])) s3.heap.objs.size X.env)) (compPost (model X.prog X.w) X.A X.xe use Qf (.ref D) s3.heap.objs.size) { s3 with heap := pushCells (s3.heap.push { cls := .type "dict", data := .dict #[] }) scope.names }
  have n3 : ∀ b ∈ fp, (upd H2 D (SetO X.w D (fun _ => false) 0)) b = none := fun b hb => (f3 b hb).1.1
  generalize hce : compEnvC scope (cellsFrom (s3.heap.objs.size + 1) scope.names (cloFrom X.env.cells scope.names [])) s3.heap.objs.size X.env = ce at I4 pg pt pe ⊢
  have cL : ce.locals = s3.heap.objs.size := by rw [← hce]; rfl
  generalize eH3 : upd H2 D (SetO X.w D (fun _ => false) 0) = H3 at I3 I4 pg pt pe w0 n3 f3
  generalize es4 : ({ s3 with heap := pushCells (s3.heap.push { cls := .type "dict", data := .dict #[] }) scope.names } : Shared) = s4 at I4 ⊢
  have st4 : tn 0 s4.heap := T.keep _ _ _ st3 fun b _ o e => by rw [← es4]; exact pushCells_keeps _ _ _ _ (Heap.get?_push_of_some _ e)
  have stat : ∀ {σ' : L2.St} {H' : Hp} {s' : Shared}, Inv (X.blk s3 H3 scope ce fp) [] σ' H' s' → (∀ b ∈ fp, H' b = none) → ∀ b ∈ fp, FpOk (X.blk s3 H3 scope ce fp) [] H' b := fun {σ' H' s'} J5 hn b hb =>
    ⟨hn b hb, (J5.ok.exf b hb).1, J5.ok.exfs b hb, .inl hb, fun x c e => (J5.ok.exf b hb).2 x c e, fun p hp => absurd (show p ∈ ([] : List (Addr × Obj)) ++ [] from hp) (by simp)⟩
  have whole : codeAny (model X.prog X.w) X.A (.compLoop (.SetComp elt [⟨tg, iter, ifs, 0⟩] scope pos) 0 (.ref it) (.ref D) ce) (compPost (model X.prog X.w) X.A X.xe use Qf (.ref D) s3.heap.objs.size) s4 := by
    refine compLoopS_any (fun n s' => ∃ i H', Inv (X.blk s3 H3 scope ce fp) [] (wipe σ (own.map (·.2))) H' s' ∧ tn i s'.heap ∧ (∀ b ∈ fp, H' b = none) ∧ W i n H') ?_ m0 ⟨0, H3, I4, st4, n3, w0⟩
    rintro n s5 ⟨i, H5, I5, st5, n5, w5⟩
    rcases turn i n H5 w5 with ⟨stop, qq⟩ | ⟨go, Nx, hNx, step⟩
    · refine thnF (T.done (X.blk s3 H3 scope ce fp) rfl rfl rfl hc i [] s5 _ H5 (fun _ _ => False) I5 (stat I5 n5) st5 stop) fun r s6 ⟨hr, I6⟩ => ?_
      subst hr
      have I7 : Inv X pins σ H5 s6 := I3.call' (ch := fp) I6.os I6.base I6.hok I6.bare fun b hb => ⟨(f3 b hb).1.2.2.2.1, (f3 b hb).1.2.1, (f3 b hb).1.2.2.2.2.1, (f3 b hb).1.2.2.2.2.2⟩
      have nC : H5 ce.locals = none := I6.free
      rw [cL] at nC
      obtain ⟨m, hn, _⟩ := I6.loc
      have hn : s6.heap.Ns ce.locals m := hn
      rw [cL] at hn
      exact hRR D s3.heap.objs.size s6 m H5 I7 qq hn (I3.fpOk (Nat.le_refl _) nC)
    · refine thnF (T.item (X.blk s3 H3 scope ce fp) rfl rfl rfl hc i [] s5 _ H5 (fun _ _ => False) I5 (stat I5 n5) st5 go) fun r s6 ⟨u, hr, h6⟩ => ?_
      subst hr
      refine thnF h6 fun _ s7 ⟨x, H7, I7, r7, y7, st7, n7⟩ => ?_
      refine thnF (pg.run _ s7 _ H7 x u _ (I7.pinned (stat I7 n7) (T.obj _ _ st7)) r7 (step x H7 y7)) fun _ s8 ⟨σ8, H8, I8, hw8, q8⟩ => ?_
      refine thnF (pt.run _ s8 σ8 H8 _ I8 q8) fun b s9 ⟨H9, I9, q9⟩ => ?_
      have fin : ∀ {s' : Shared} {H' : Hp}, Inv (X.blk s3 H3 scope ce fp) ([] ++ pinsAt fp s7.heap) σ8 H' s' → Nx H' → ∃ m, m < n ∧ ∃ i H', Inv (X.blk s3 H3 scope ce fp) [] (wipe σ (own.map (·.2))) H' s' ∧ tn i s'.heap ∧ (∀ b ∈ fp, H' b = none) ∧ W i m H' := fun {s' H'} J8 nx => by
        obtain ⟨m2, hm, w2⟩ := hNx H' nx
        have kept : ∀ b ∈ fp, ∀ o, s7.heap.get? b = some o → s'.heap.get? b = some o ∧ H' b = none := fun b hb o e =>
          let z := J8.pin (b, o) (List.mem_append_right _ (List.mem_append_right _ (mem_pinsAt hb e)))
          ⟨z.1, z.2.1⟩
        have hl : (wipe σ (own.map (·.2))).length = σ8.length := by rw [← hw8, wipe_length]
        refine ⟨m2, hm, i + 1, H', (J8.unpinned (pins := [])).weak hl (fun j v e => by rw [← hw8] at e; exact (wipe_some e).1), T.keep _ _ _ st7 fun b hb o e => (kept b hb o e).1, fun b hb => ?_, w2⟩
        obtain ⟨o, e, _⟩ := T.obj _ _ st7 b hb
        exact (kept b hb o e).2
      cases b with
      | false =>
        rw [if_neg Bool.false_ne_true] at q9 ⊢
        exact fin I9 q9
      | true =>
        rw [if_pos rfl] at q9 ⊢
        refine thnF (pe.run _ s9 σ8 H9 _ I9 q9) fun z s10 ⟨yv, H10, I10, r10, c0, S0, n0, ey, hD10, hz10, nx⟩ => ?_
        subst ey
        obtain ⟨tk, rfl⟩ := r10
        exact addI_ok (X := X.blk s3 H3 scope ce fp) I10 hD10 hz10 fun s11 I11 => fin I11 nx
  exact codeAny_compStart_set whole (T.self X.A 0 _ _ _ st4 whole)
theorem pe_scI {elt tg iter : Expr} {ifs : List Expr} {scope : Scope} {own : List (PySem.Str × Nat)} {pos : Pos} {wi : TI} {g : TG} {tt : TT} {te : TE} (hi : PI X tg iter wi) (ok : BlkOk X.N X.env.scope scope own)
    (hg : ∀ (s : Shared) (H : Hp) (C : Addr) (cl : List (PySem.Str × Addr)) (fp : List Addr), PG (X.blk s H scope (compEnvC scope cl C X.env) fp) tg g) (ht : ∀ (s : Shared) (H : Hp) (C : Addr) (cl : List (PySem.Str × Addr)) (fp : List Addr), PTs (X.blk s H scope (compEnvC scope cl C X.env) fp) ifs tt)
    (he : ∀ (s : Shared) (H : Hp) (C : Addr) (cl : List (PySem.Str × Addr)) (fp : List Addr), PE (X.blk s H scope (compEnvC scope cl C X.env) fp) elt te) (hc : X.calm = true) (hN : X.N.Nodup) (hs : ∀ x, foldedSetIterable iter X.env x = pure x := by intro _; rfl) :
    PE X (.SetComp elt [⟨tg, iter, ifs, 0⟩] scope pos) (tScI X.w wi g tt te (own.map (·.2))) := by
  refine ⟨fun pins s σ H Q I h => ?_⟩
  rw [eval_SetComp]
  refine scI_core hc hN I hi ok hg ht he hs h fun D C s' m H5 I5 q hn f => ⟨m, hn, fun h5 sb => ?_⟩
  obtain ⟨f0, f1, _, f3, f4, f5⟩ := f
  exact ⟨.ref D, H5, I5.turned (t' := s'.toks) (fun b o hb e => (sb.2 b hb).trans e) f0 f1 f3 f4 f5, rfl, q⟩
end
end Cc

namespace Mi
open PySem L2 Cc
def insU (k : Int) : List Int → List Int
  | [] => [k]
  | x :: xs => if k < x then k :: x :: xs else if k = x then x :: xs else x :: insU k xs
theorem insU_mem {k j : Int} : ∀ {xs : List Int}, j ∈ insU k xs ↔ j = k ∨ j ∈ xs
  | [] => by simp [insU]
  | x :: xs => by
    unfold insU
    split
    · simp
    · split
      · rename_i h; subst h; simp
      · simp only [List.mem_cons, insU_mem (xs := xs)]
        exact ⟨fun h => by rcases h with h | h | h <;> simp [h], fun h => by rcases h with h | h | h <;> simp [h]⟩
theorem insU_asc {k : Int} : ∀ {xs : List Int}, xs.Pairwise (· < ·) → (insU k xs).Pairwise (· < ·)
  | [], _ => by simp [insU]
  | x :: xs, h => by
    rw [List.pairwise_cons] at h
    unfold insU
    split
    · rename_i l
      refine List.pairwise_cons.mpr ⟨fun a ha => ?_, List.pairwise_cons.mpr h⟩
      rcases List.mem_cons.mp ha with rfl | ha
      · exact l
      · have := h.1 a ha; omega
    · split
      · exact List.pairwise_cons.mpr h
      · refine List.pairwise_cons.mpr ⟨fun a ha => ?_, insU_asc h.2⟩
        rcases insU_mem.mp ha with rfl | ha
        · omega
        · exact h.1 a ha
theorem insU_same {k : Int} : ∀ {xs : List Int}, xs.Pairwise (· < ·) → k ∈ xs → insU k xs = xs
  | [], _, h => by cases h
  | x :: xs, h, m => by
    rw [List.pairwise_cons] at h
    unfold insU
    rcases List.mem_cons.mp m with rfl | m
    · rw [if_neg (Int.lt_irrefl _), if_pos rfl]
    · have := h.1 k m
      rw [if_neg (by omega), if_neg (by omega), insU_same h.2 m]
theorem insU_len {k : Int} : ∀ {xs : List Int}, k ∉ xs → (insU k xs).length = xs.length + 1
  | [], _ => rfl
  | x :: xs, m => by
    have h : ¬ k = x ∧ k ∉ xs := by simpa using m
    unfold insU
    split
    · rfl
    · rw [if_neg h.1]
      simp [insU_len h.2]
def scGo (p : Pat) (c : Env → M Bool) (e : Env → M D) (ρ : Env) : List Int → List D → M (List D)
  | acc, [] => .ret (acc.map D.int)
  | acc, d :: ds => match p d ρ with
    | none => .bad
    | some ρ1 => (c ρ1).bind fun k => if k then (e ρ1).bind fun x => match x with
        | .int i => if acc.length < 63 then scGo p c e ρ (insU i acc) ds else .bad
        | _ => .bad
      else scGo p c e ρ acc ds
def mSortSc (mi : Env → M (List D)) (p : Pat) (c : Env → M Bool) (e : Env → M D) (vs : List Nat) : Env → M (List D) := fun ρ => (mi ρ).bind fun ds => scGo p c e (wipeE ρ vs) [] ds
def SetL (w : World) (a : Addr) (acc : List Int) : HO := SetO w a (fun j => decide (j ∈ acc)) acc.length
section
variable {K : Fg} {W : Wd K} {E : XK} {J : It} {n : Nat} {G : Hp → Prop} {Y : Nat → Hp → V → Hp → Prop}
theorem sc_it {w : World} (wk : Walk J n G Y) {g : TG} {tt : TT} {te : TE} {vs : List Nat} {σ : L2.St} {H1 : Hp} {D : Addr} {Qd : Hp → Prop} (Pv : Nat → Hp → Prop) (h0 : Pv 0 (upd H1 D (SetO w D (fun _ => false) 0))) (hG : ∀ i H, i ≤ n → Pv i H → G H)
    (hs : ∀ i x H H', i < n → Pv i H → Y i H x H' → g x (wipe σ vs) H' fun σ2 H2 => wipe σ2 vs = wipe σ vs ∧ tt σ2 H2 fun b H3 =>
      if b = true then te σ2 H3 fun y H4 => ∃ (c : Int) (S : Int → Bool) (n : Nat), y = .int c ∧ H4 D = some (SetO w D S n) ∧ n + 1 < scanBound ∧ Pv (i + 1) (upd H4 D (SetO w D (fun j => S j || decide (j = c)) (if S c = true then n else n + 1))) else Pv (i + 1) H3) (hd : ∀ H, Pv n H → Qd H) :
    ∃ W : Nat → Nat → Hp → Prop, (∃ m, W 0 m (upd H1 D (SetO w D (fun _ => false) 0))) ∧ ∀ i m H, W i m H →
      (J.stop i H ∧ Qd H) ∨ (J.go i H ∧ ∃ Nx : Hp → Prop, (∀ H', Nx H' → ∃ m', m' < m ∧ W (i + 1) m' H') ∧ ∀ x H', J.yld i H x H' → g x (wipe σ vs) H' fun σ2 H2 => wipe σ2 vs = wipe σ vs ∧ tt σ2 H2 fun b H3 =>
        if b = true then te σ2 H3 fun y H4 => ∃ (c : Int) (S : Int → Bool) (n : Nat), y = .int c ∧ H4 D = some (SetO w D S n) ∧ n + 1 < scanBound ∧ Nx (upd H4 D (SetO w D (fun j => S j || decide (j = c)) (if S c = true then n else n + 1))) else Nx H3) := by
  refine ⟨fun i m H => m = n - i ∧ i ≤ n ∧ Pv i H, ⟨n, by simp, Nat.zero_le _, h0⟩, ?_⟩
  rintro i m H ⟨rfl, hi, p⟩
  have q := hG i H hi p
  by_cases hlt : i < n
  · exact .inr ⟨wk.goes i H hlt q, Pv (i + 1), fun H' p' => ⟨n - (i + 1), by omega, rfl, hlt, p'⟩, fun x H' y => hs i x H H' hlt p (wk.yields i H x H' hlt q y)⟩
  · obtain rfl : i = n := by omega
    exact .inl ⟨wk.stops H q, hd H p⟩
theorem okAlsoS {w : World} {Y : Addr → Bool} {H : Hp} {p : Addr} {S : Int → Bool} {n : Nat} (o : Ok W Y H) (hp : H p = none) : Ok W (Mi.also Y p) (upd H p (SetO w p S n)) := ⟨W.up o.1 (Same.new hp), fun a h => also_r a (o.2.1 a h), fun a h => by
  by_cases ea : a = p
  · subst ea; exact ⟨_, upd_same, set_cell⟩
  · have : Y a = true := by simpa [Mi.also, ea] using h
    obtain ⟨u, hu, iu⟩ := o.2.2 a this
    exact ⟨u, by rw [upd_ne ea]; exact hu, iu⟩⟩
theorem SetO.congr {w : World} {a : Addr} {S S' : Int → Bool} {n n' : Nat} (h : ∀ j, S j = S' j) (hn : n = n') : SetO w a S n = SetO w a S' n' := by
  have e : S = S' := funext h
  rw [e, hn]
theorem SetL.add {w : World} {a : Addr} {acc : List Int} {c : Int} (hp : acc.Pairwise (· < ·)) : SetO w a (fun j => (fun j => decide (j ∈ acc)) j || decide (j = c)) (if (fun j => decide (j ∈ acc)) c = true then acc.length else acc.length + 1) = SetL w a (insU c acc) := by
  refine SetO.congr (fun j => ?_) ?_
  · by_cases h : j = c
    · simp [h, insU_mem]
    · simp [h, insU_mem]
  · by_cases h : c ∈ acc
    · rw [if_pos (by simpa using h), insU_same hp h]
    · rw [if_neg (by simpa using h), insU_len h]
end
end Mi

namespace Mi
open PySem L2 Cc
section
variable {K : Fg} {W : Wd K} {E : XK}
end
end Mi

namespace CcS
open PySem PySem.W PySem.Calls PyProof.Rows PySem.SeqAt
section
variable {prog : Program} {w : World} {A : Around} {E : Value → Shared → Prop} {s : Shared}
variable {β : Type} {vs : List Value} {bs : List β} {enc : β → PyData} {R : Value → β → Prop}
end
end CcS
namespace CcS
open PySem PySem.Spec L2 Cc PyProof.Rows PySem.W
section
variable {X : Cx}
end
end CcS

namespace Mi
open PySem L2 Cc PySem.W
section
variable {K : Fg} {W : Wd K} {E : XK}
end
end Mi

namespace Cc
open PySem PySem.Spec PyProof.Rows
section
variable {prog : Program} {w : World} {A : Around} {R : Result → Shared → Prop} {I : Addr} {fp wr : List Addr} {G : Array GenState → Array GenState → Prop} {n : Nat} {P : Nat → Value → Prop} {St : Nat → Shared → Prop}
end
section
variable {prog : Program} {w : World} {A : Around} {E : Value → Shared → Prop} {s : Shared}
end
end Cc
namespace Cc
open PySem PySem.Spec L2 PyProof.Rows
end Cc

namespace Mi
open PySem L2 Cc PySem.W
section
variable {K : Fg} {W : Wd K} {E : XK} {ta : TE} {a : Env → M D}
end
end Mi

namespace Mi
open PySem L2 Cc
section
variable {X : Cx} {m i : Nat} {x : Str} {e : Expr} {es : List Expr} {t : TA} {p pos : Pos}
end
section
variable {K : Fg} {W : Wd K} {E : XK} {a : Env → M (List D)} {tl : TA}
end
end Mi

namespace Cc
open PySem PySem.Spec L2 PyProof.Rows
def rDnSd (w : World) : V → List V → Hp → VK → Prop := fun x ys H Q => ∃ a es ep xs vs k b z, x = .ref a ∧ H a = some (DnO a es ep) ∧ DnE H w es xs vs ∧ ys = [.ref b, z] ∧ NkV H k (.ref b) ∧ k.depth ≤ 8 ∧ xs.length < sizeLine ∧
  (∀ v, valV (dnP xs vs) k = some v → Q v H) ∧
  (valV (dnP xs vs) k = none → ∀ es' ep' xs' vs', DnE (upd H a (DnO a es' ep')) w es' xs' vs' → dnP xs' vs' = putK (dnP xs vs) k z → Q z (upd H a (DnO a es' ep')))
section
variable {X : Cx}
theorem mt_dnSd {w : World} (hw : X.w = w) (hu : X.A.units + 9 < cLine) : MtR X "dict.setdefault" (rDnSd w) := by
  subst hw
  intro pins s σ H x ys v us Q I rx rys h
  obtain ⟨a, es, ep, xs, vs, k, b, z, rfl, e, r, rfl, hk, hd, hl, q1, q2⟩ := h
  cases rx
  cases rys with
  | cons r1 rt =>
    cases rt with
    | @cons _ u2 _ _ r2 rt =>
      cases rt
      cases r1
      obtain ⟨m, hz, hs⟩ := dn_of I.hok e r
      have g := r.kn.val k
      refine call_setdefault_heap (hsz := hz) (dn_room hu) (nk_key I.hok hk hd) hs m (fun p hp => ?_) fun hn h' m' sb => ?_
      · rw [hp] at g
        cases c : valV (dnP xs vs) k with
        | none => rw [c] at g; exact g.elim
        | some v => rw [c] at g; exact ⟨v, H, I.tok _, g, q1 v c⟩
      · rw [hn] at g
        have c : valV (dnP xs vs) k = none := by
          cases c : valV (dnP xs vs) k with
          | none => rfl
          | some v => rw [c] at g; exact g.elim
        have put := r.kn.put hk hd r2
        have hlen : (storedH xs k b u2).length ≤ sizeLine := by
          have h1 := length_putK (dnP xs vs) k z
          have h2 := Paired.length put
          have h3 : (dnP xs vs).length = xs.length := Paired.length r.kn
          omega
        obtain ⟨es', ep', g1, g2, g3⟩ := dn_new m' hlen hs
        have he : ∃ q, h'.get? a = some q := by
          obtain ⟨q, _, _, hq, _⟩ := m'
          exact ⟨q, hq⟩
        obtain ⟨b1, b2, b3⟩ := (put.keeps (dn_pl (es' := es') (ep' := ep') e)).back
        exact ⟨z, _, d_write I (by rw [e]; exact True.intro) sb he (g3 _), r2, q2 c es' ep' _ _ ⟨g1, g2, b1, b2⟩ b3.symm⟩
end
end Cc

namespace Mi
open PySem L2 Cc CcK PySem.W
def addG : List (NestedKey × List D) → NestedKey → D → List (NestedKey × List D)
  | [], k, d => [(k, [d])]
  | (k', ds) :: r, k, d => if k' = k then (k', ds ++ [d]) :: r else (k', ds) :: addG r k d
def RG (R : V → List D → Prop) (l : List (NestedKey × V)) (acc : List (NestedKey × List D)) : Prop := Paired (fun (p : NestedKey × V) (q : NestedKey × List D) => p.1 = q.1 ∧ R p.2 q.2) l acc
theorem valV_mem {l : List (NestedKey × V)} {k : NestedKey} {v : V} (h : valV l k = some v) : (k, v) ∈ l := by
  induction l with
  | nil => cases h
  | cons p r ih =>
    by_cases e : p.1 = k
    · rw [valV_pos e] at h
      cases h
      rw [← e]
      exact List.mem_cons_self
    · rw [valV_neg e] at h
      exact List.mem_cons_of_mem _ (ih h)
theorem addG_there {R R' : V → List D → Prop} {k : NestedKey} {d : D} {v : V} {l : List (NestedKey × V)} {acc : List (NestedKey × List D)} (h : RG R l acc) : (l.map (·.2)).Nodup → valV l k = some v → (∀ u ds, R u ds → u ≠ v → R' u ds) → (∀ ds, R v ds → R' v (ds ++ [d])) → RG R' l (addG acc k d) := by
  induction h with
  | nil => intro _ c _ _; cases c
  | @cons p q ps qs h1 t ih =>
    intro nd c k1 k2
    rw [List.map_cons, List.nodup_cons] at nd
    obtain ⟨q1, q2⟩ := q
    obtain ⟨h0, h1⟩ := h1
    dsimp only at h0 h1
    unfold addG
    by_cases e : p.1 = k
    · rw [valV_pos e] at c
      cases c
      rw [if_pos (h0 ▸ e)]
      refine .cons ⟨h0, k2 _ h1⟩ ?_
      have : ∀ {ps : List (NestedKey × V)} {qs : List (NestedKey × List D)}, RG R ps qs → p.2 ∉ ps.map (·.2) → RG R' ps qs := fun {ps qs} t => by
        induction t with
        | nil => exact fun _ => .nil
        | @cons p' q' ps qs h t ih =>
          intro n
          rw [List.map_cons, List.mem_cons, not_or] at n
          exact .cons ⟨h.1, k1 _ _ h.2 (fun z => n.1 z.symm)⟩ (ih n.2)
      exact this t nd.1
    · rw [valV_neg e] at c
      rw [if_neg (h0 ▸ e)]
      refine .cons ⟨h0, k1 _ _ h1 fun z => ?_⟩ (ih nd.2 c k1 k2)
      subst z
      have := valV_mem c
      exact nd.1 (List.mem_map.mpr ⟨_, this, rfl⟩)
theorem addG_at {R : V → List D → Prop} {k : NestedKey} {v : V} {l : List (NestedKey × V)} {acc : List (NestedKey × List D)} (h : RG R l acc) : valV l k = some v → ∃ ds, R v ds ∧ ∃ kv ∈ acc, kv.2 = ds := by
  induction h with
  | nil => intro c; cases c
  | @cons p q ps qs h1 t ih =>
    intro c
    by_cases e : p.1 = k
    · rw [valV_pos e] at c
      cases c
      exact ⟨_, h1.2, q, List.mem_cons_self, rfl⟩
    · rw [valV_neg e] at c
      obtain ⟨ds, h2, kv, h3, h4⟩ := ih c
      exact ⟨ds, h2, kv, List.mem_cons_of_mem _ h3, h4⟩
theorem addG_new {R : V → List D → Prop} {k : NestedKey} {d : D} {l : List (NestedKey × V)} {acc : List (NestedKey × List D)} (h : RG R l acc) : valV l k = none → addG acc k d = acc ++ [(k, [d])] := by
  induction h with
  | nil => intro _; rfl
  | @cons p q ps qs h1 t ih =>
    intro c
    obtain ⟨q1, q2⟩ := q
    by_cases e : p.1 = k
    · rw [valV_pos e] at c; cases c
    · rw [valV_neg e] at c
      unfold addG
      have e' : ¬ q1 = k := fun z => e ((show p.1 = q1 from h1.1).trans z)
      rw [if_neg e', ih c]
      rfl
theorem RG.mem {R : V → List D → Prop} {l : List (NestedKey × V)} {acc : List (NestedKey × List D)} (h : RG R l acc) {u : V} : u ∈ l.map (·.2) → ∃ ds, R u ds := by
  induction h with
  | nil => intro c; cases c
  | @cons p q ps qs h1 t ih =>
    intro c
    rcases List.mem_cons.mp c with rfl | c
    · exact ⟨_, h1.2⟩
    · exact ih c
noncomputable section
section
variable {K : Fg} {W : Wd K} {E : XK} {w : World}
def GLs (W : Wd K) (Y : Addr → Bool) (L : List (Nat × Addr)) (H : Hp) (ig : Nat) (v : V) (ds : List D) : Prop := ∃ a xs, v = .ref a ∧ (ig, a) ∈ L ∧ H a = some (.lst xs) ∧ Dms W (YL Y L) H xs ds
structure Tl (W : Wd K) (Y : Addr → Bool) (L : List (Nat × Addr)) (H : Hp) (ig : Nat) (l : Addr) (w : World) (acc : List (NestedKey × List D)) (q : QT) : Prop where
  at' : H l = some (DnO l q.es q.ep)
  e : DnE (mask W (YL Y L) H) w q.es q.xs q.vs
  p : RG (GLs W Y L H ig) (dnP q.xs q.vs) acc
  nd : ((dnP q.xs q.vs).map (·.2)).Nodup
section
variable {Y : Addr → Bool} {B : Bases} {σ : L2.St} {H H' : Hp} {ρ : Env} {L : List (Nat × Addr)} {ig : Nat} {l : Addr} {acc : List (NestedKey × List D)} {q : QT}
theorem SR.drop (s : SR W Y B σ H ρ L) (i : Nat) : SR W Y B σ H (ρ.set i .no) L :=
  { s with
    len := by simp [s.len]
    sl := fun j t ht => by
      rcases getElem?_set' ht with ⟨rfl, _, rfl⟩ | ⟨_, h⟩
      · trivial
      · exact s.sl j t h }
theorem SR.more (s : SR W Y B σ H ρ L) (i : Nat) {p : Addr} {xs : List V} (e : Ext W H H') (hp : H p = none) (hx : H' p = some (.lst xs)) : SR W Y B σ H' ρ ((i, p) :: L) where
  ok := s.ok.ext e
  bs := fun k hk => ⟨(s.bs k hk).1, (s.bs k hk).2.trans (.ext e (s.bs k hk).1)⟩
  len := s.len
  fre := fun q hq => by
    rcases List.mem_cons.mp hq with rfl | hq
    · refine ⟨fun k hk => ?_, W.new s.ok.1 hp, s.ok.fresh hp, _, hx, rfl⟩
      cases z : k.2 p with
      | true => exact .inr rfl
      | false =>
        refine .inl ?_
        cases y : k.1 p with
        | none => rfl
        | some o => rw [(s.bs k hk).2 p o y z] at hp; cases hp
    · obtain ⟨h1, h2, h3, ys, hy, ho⟩ := s.fre q hq
      exact ⟨h1, h2, h3, ys, e.1 _ _ hy (s.lx hq), ho⟩
  nd := by
    rw [List.map_cons, List.nodup_cons]
    refine ⟨fun z => ?_, s.nd⟩
    obtain ⟨q, hq, e⟩ := List.mem_map.mp z
    obtain ⟨_, _, _, ys, hy, _⟩ := s.fre q hq
    rw [show q.2 = p from e, hp] at hy
    cases hy
  sl := fun j t ht => by
    rw [YL_also]
    have hs : Same (mask W (YL Y L) H) (mask W (also (YL Y L) p) H') := mask_go (.ext e s.okL.2.1) fun a ha => by
      by_cases ea : a = p
      · subst ea; exact .inr hp
      · exact .inl (by simpa [also, ea] using ha)
    have q0 := s.sl j t ht
    cases t with
    | no => trivial
    | dat d' => obtain ⟨w, h1, h2⟩ := q0; exact ⟨w, h1, Dn.up h2 hs⟩
    | own ds => obtain ⟨l, ys, h1, h2, h3, h4⟩ := q0; exact ⟨l, ys, h1, List.mem_cons_of_mem _ h2, e.1 _ _ h3 (s.lx h2), Dns.up h4 hs⟩
    | dk ds => obtain ⟨l, ys, h1, h2, h3, h4⟩ := q0; exact ⟨l, ys, h1, List.mem_cons_of_mem _ h2, e.1 _ _ h3 (s.lx h2), Dns.up h4 hs⟩
    | dn w0 ks0 ds => obtain ⟨l, ys, h1, h2, h3, h4⟩ := q0; exact ⟨l, ys, h1, List.mem_cons_of_mem _ h2, e.1 _ _ h3 (s.lx h2), DnQ.up h4 hs⟩
    | dkR _ => exact q0.elim
    | slf k C ns ds => obtain ⟨x2, dx, fs, h1, hS, h2, h3, h4, h5, h6⟩ := q0; exact ⟨x2, dx, fs, h1, hS, List.mem_cons_of_mem _ h2, e.1 _ _ h3 (s.lx h2), h4, h5, Dns.up h6 hs⟩
    | row => exact q0
theorem dnE_up {Hm Hm' : Hp} {es : Array DictEntry} {xs : List Ent} {vs : List V} (h : DnE Hm w es xs vs) (e : Same Hm Hm') : DnE Hm' w es xs vs := h.ext fun b ys ⟨o, po, q⟩ => ⟨o, po, e _ _ q⟩
theorem Tl.up (t : Tl W Y L H ig l w acc q) (s : SR W Y B σ H ρ L) (hl : (ig, l) ∈ L) (e : Ext W H H') : Tl W Y L H' ig l w acc q where
  at' := e.1 _ _ t.at' (s.lx hl)
  e := dnE_up t.e (mask_ext s.okL e)
  p := Paired.mapP t.p fun a b ⟨h0, c, xs, h1, h2, h3, h4⟩ => ⟨h0, c, xs, h1, h2, e.1 _ _ h3 (s.lx h2), h4.up s.okL e⟩
  nd := t.nd
theorem set_no (h : ρ[ig]? = some Sl.no) : ρ.set ig .no = ρ := by
  refine List.ext_getElem? fun j => ?_
  rw [List.getElem?_set]
  by_cases e : ig = j
  · subst e
    obtain ⟨hl, _⟩ := List.getElem?_eq_some_iff.mp h
    rw [if_pos rfl, if_pos hl, h]
  · rw [if_neg e]
end
theorem nk_ext {Hm Hm' : Hp} {k : NestedKey} {v : V} (h : NkV Hm k v) (e : Same Hm Hm') : NkV Hm' k v := NkV.ext (fun b ys ⟨o, po, q⟩ => ⟨o, po, e _ _ q⟩) _ _ h
def tTell (K : Fg) (w : World) (ig il is : Nat) (te : TE) : TS := tSeq (tAsg te (gName is)) (tDrop (tBM K "list" rAppend (tBMD (rDnSd w) (tVar ig) (tCons (tVar is) (tCons (tLst tNil) tNil))) (tCons (tVar il) tNil)))
def fits (acc : List (NestedKey × List D)) : Bool := decide (acc.length < 100000) && acc.all fun kv => decide (kv.2.length < 100000)
def toldGo (il is : Nat) (m : Env → M D) : List D → List (NestedKey × List D) → Env → M (List (NestedKey × List D) × Env)
  | [], acc, ρ => .ret (acc, ρ)
  | d :: ds, acc, ρ => (m (ρ.set il (.dat d))).bind fun y => (M.ofO (keyT y)).bind fun k => if fits acc = true then toldGo il is m ds (addG acc k d) ((ρ.set il (.dat d)).set is (.dat y)) else .bad
def sTell (w : World) (ig il is : Nat) (mi : Env → M (List D)) (m : Env → M D) : Env → M Fl := fun ρ => match ρ[ig]? with
  | some (.dn w' [] []) => if il < ρ.length ∧ is < ρ.length then @ite _ (w' = w) (Classical.propDecidable _) ((mi ρ).bind fun ds => (toldGo il is m ds [] (ρ.set ig .no)).bind fun r => .ret (.nx (r.2.set ig (.dn w (r.1.map (·.1)) (r.1.map fun x => .lst x.2))))) .bad else .bad
  | _ => .bad
theorem tell_turn {Y : Addr → Bool} {B : Bases} {σ : L2.St} {H : Hp} {ρ : Env} {L : List (Nat × Addr)} {ig il is : Nat} {l : Addr} {acc : List (NestedKey × List D)} {q : QT} {te : TE} {m : Env → M D} {De : Ends} {R : List (NestedKey × List D) × Env → Prop} {d : D} {ds : List D}
    (he : GE W E te m) (his : is ≠ ig) (hli : il ≠ is) (s : SR W Y B σ H ρ L) (hl : (ig, l) ∈ L) (hn : ρ[ig]? = some .no) (hσ : σ[ig]? = some (some (.ref l))) (hd : ρ[il]? = some (.dat d)) (hisl : is < ρ.length) (t : Tl W Y L H ig l w acc q)
    (wd : ((m ρ).bind fun y => (M.ofO (keyT y)).bind fun k => if fits acc = true then toldGo il is m ds (addG acc k d) (ρ.set is (.dat y)) else .bad).wp R (ErrB W E B))
    (N : ∀ σ' H' ρ' L' acc' q', SR W Y B σ' H' ρ' L' → ρ'.length = ρ.length → (ig, l) ∈ L' → ρ'[ig]? = some .no → σ'[ig]? = some (some (.ref l)) → Tl W Y L' H' ig l w acc' q' → (toldGo il is m ds acc' ρ').wp R (ErrB W E B) → De.nx σ' H') :
    tTell K w ig il is te De σ H := by
  refine he.seq s.okL s.envA wd (fun _ _ h => h.at' s) fun y v H1 e1 o1 r1 hv w1 => ?_
  have s1 := s.up e1
  obtain ⟨k, hk, w2⟩ := M.wp_ofO ((M.wp_bind _).mp w1)
  split at w2
  case isFalse => exact w2.elim
  rename_i hfit
  have hfit' : acc.length < 100000 ∧ ∀ kv ∈ acc, kv.2.length < 100000 := by simpa [fits] using hfit
  obtain ⟨b, rfl, n1, n2⟩ := keyT_at hk hv
  let σ2 := σ.set is (some (.ref b))
  have s2 : SR W Y B σ2 H1 (ρ.set is (.dat y)) L := s1.set is hv
  have hl2 : σ2[ig]? = some (some (.ref l)) := by rw [List.getElem?_set_ne his]; exact hσ
  have hn2 : (ρ.set is (.dat y))[ig]? = some .no := by rw [List.getElem?_set_ne his]; exact hn
  have hlen := s1.len
  have his2 : σ2[is]? = some (some (.ref b)) := by simp [σ2, hlen, hisl]
  have hd2 : (ρ.set is (.dat y))[il]? = some (.dat d) := by rw [List.getElem?_set_ne (Ne.symm hli)]; exact hd
  obtain ⟨vl, hvl, hdl⟩ := s2.sl il _ hd2
  have t1 := t.up s hl e1
  refine ⟨.ref l, hl2, ⟨l, q.es, q.ep, rfl, t1.at'⟩, .ref b, his2, Nat.zero_le _, fun p hp => ?_⟩
  have eP : Ext W H1 (upd H1 p (.lst [])) := .of s2.ok.1 (Same.new hp)
  have s3 := s2.up eP
  have t3 := t1.up s2 hl eP
  have v3 := hdl.up s2.okL eP
  have hpl : l ≠ p := ne_of_none t1.at' hp
  have acl : (dnP q.xs q.vs).length = acc.length := Paired.length t.p
  have acl2 : (dnP q.xs q.vs).length = q.xs.length := by
    have := t.e.len.2
    simp [dnP]; omega
  refine ⟨l, q.es, q.ep, q.xs, q.vs, k, b, .ref p, rfl, t3.at', dne_un t3.e, rfl, nk_un (nk_ext n1 (mask_ext s2.okL eP)), n2, by rw [sizeLine_eq]; omega, fun v hv' => ?_, fun hno es' ep' xs' vs' hE hP => ?_⟩
  · obtain ⟨ds1, ⟨a, xs, rfl, a1, a2, a3⟩, kv, m1, m2⟩ := addG_at t3.p hv'
    have hz := hfit'.2 kv m1
    have hz2 := a3.length
    refine ⟨.inl ⟨rfl, xs, SqL.of a2⟩, vl, hvl, a, xs, vl, rfl, rfl, a2, by rw [sizeLine_eq]; rw [m2] at hz; omega, ?_⟩
    have s4 := s3.putO (i := ig) (t := .no) (u := .lst (xs ++ [vl])) a1 a2 rfl rfl trivial
    rw [set_no hn2] at s4
    have mo : mask W (YL Y L) (upd (upd H1 p (.lst [])) a (.lst (xs ++ [vl]))) = mask W (YL Y L) (upd H1 p (.lst [])) := mask_off (YL_l a1)
    have hla : l ≠ a := by
      rintro rfl
      have := t3.at'
      rw [a2] at this
      cases this
    refine N _ _ _ L _ q s4 (by simp) hl hn2 hl2 ⟨by rw [upd_ne hla]; exact t3.at', by rw [mo]; exact t3.e, addG_there t3.p t3.nd hv' (fun u ds2 ⟨a', xs2, h0, h1, h2, h3⟩ hne => ?_) (fun ds2 ⟨a', xs2, h0, h1, h2, h3⟩ => ?_), t3.nd⟩ w2
    · subst h0
      refine ⟨a', xs2, rfl, h1, ?_, by unfold Dms; rw [mo]; exact h3⟩
      rw [upd_ne (fun z => hne (by rw [z]))]; exact h2
    · cases h0
      rw [a2] at h2
      cases h2
      exact ⟨a, xs ++ [vl], rfl, h1, upd_same, by unfold Dms; rw [mo]; exact h3.app (.cons v3 .nil)⟩
  · have s3' := s2.more ig eP hp upd_same
    have mem : (ig, l) ∈ (ig, p) :: L := List.mem_cons_of_mem _ hl
    have s4 := s3'.putO (i := ig) (l := l) (t := .no) (u := DnO l es' ep') mem t3.at' dn_cell dn_cell trivial
    rw [set_no hn2] at s4
    have hp3 : (upd (upd H1 p (.lst [])) l (DnO l es' ep')) p = some (.lst []) := by rw [upd_ne (Ne.symm hpl)]; exact upd_same
    have s5 := s4.putO (i := ig) (l := p) (t := .no) (u := .lst ([] ++ [vl])) List.mem_cons_self hp3 rfl rfl trivial
    rw [set_no hn2] at s5
    have m1 : mask W (YL Y ((ig, p) :: L)) (upd (upd (upd H1 p (.lst [])) l (DnO l es' ep')) p (.lst ([] ++ [vl]))) = mask W (YL Y ((ig, p) :: L)) (upd H1 p (.lst [])) := by
      rw [mask_off (YL_l (p := (ig, p)) List.mem_cons_self), mask_off (YL_l (p := (ig, l)) mem)]
    have m2 : Same (mask W (YL Y L) H1) (mask W (YL Y ((ig, p) :: L)) (upd H1 p (.lst []))) := by
      rw [YL_also]; exact mask_new s2.okL hp
    have eqP : dnP xs' vs' = dnP q.xs q.vs ++ [(k, .ref p)] := by rw [hP]; exact putK_new _ hno
    refine ⟨.inl ⟨rfl, [], SqL.of hp3⟩, vl, hvl, p, [], vl, rfl, rfl, hp3, by rw [sizeLine_eq]; decide, ?_⟩
    refine N _ _ _ ((ig, p) :: L) _ ⟨es', ep', xs', vs'⟩ s5 (by simp) mem hn2 hl2 ⟨by rw [upd_ne hpl]; exact upd_same, ?_, ?_, ?_⟩ w2
    · rw [m1]
      refine dne_mask s3'.okL (hE.ext fun b' ys ⟨o, po, e⟩ => ⟨o, po, ?_⟩)
      rw [upd_ne] at e
      · exact e
      · rintro rfl
        rw [upd_same] at e; cases e
    · show RG _ (dnP xs' vs') _
      rw [eqP, addG_new t1.p hno]
      refine Paired.snoc (Paired.mapP t1.p fun a c ⟨h0, a', xs2, h1, h2, h3, h4⟩ => ⟨h0, a', xs2, h1, List.mem_cons_of_mem _ h2, ?_, ?_⟩) ⟨rfl, p, [] ++ [vl], rfl, List.mem_cons_self, upd_same, ?_⟩
      · have n1 : a' ≠ p := ne_of_none h3 hp
        have n2 : a' ≠ l := by
          rintro rfl
          have := t1.at'
          rw [h3] at this
          cases this
        rw [upd_ne n1, upd_ne n2, upd_ne n1]; exact h3
      · unfold Dms; rw [m1]; exact Dns.same m2 _ _ h4
      · unfold Dms; rw [m1]; exact .cons (Dn.up hdl m2) .nil
    · show ((dnP xs' vs').map (·.2)).Nodup
      rw [eqP, List.map_append, List.nodup_append]
      refine ⟨t1.nd, by simp, fun u hu u2 hu2 e => ?_⟩
      obtain rfl : u2 = .ref p := by simpa using hu2
      subst e
      obtain ⟨ds3, a', xs3, h0, _, h2, _⟩ := RG.mem t1.p hu
      cases h0
      rw [hp] at h2
      cases h2
theorem RG.pr {Hm : Hp} {R : V → List D → Prop} {l : List (NestedKey × V)} {acc : List (NestedKey × List D)} (h : RG R l acc) (k : ∀ v ds, R v ds → Dn K Hm v (.lst ds)) : PR K Hm l (acc.map fun x => (x.1, D.lst x.2)) := by
  induction h with
  | nil => exact .nil
  | @cons p q ps qs h1 t ih => exact .cons ⟨h1.1, k _ _ h1.2⟩ ih
theorem tell_end {Y : Addr → Bool} {B : Bases} {σ : L2.St} {H : Hp} {ρ : Env} {L : List (Nat × Addr)} {ig : Nat} {l : Addr} {acc : List (NestedKey × List D)} {q : QT}
    (s : SR W Y B σ H ρ L) (hl : (ig, l) ∈ L) (hn : ρ[ig]? = some .no) (hσ : σ[ig]? = some (some (.ref l))) (t : Tl W Y L H ig l w acc q) : SRx W Y B σ H (ρ.set ig (.dn w (acc.map (·.1)) (acc.map fun x => .lst x.2))) := by
  have less : ∀ a, YL Y (L.filter fun p => !(p.1 == ig && p.2 != l)) a = true → YL Y L a = true := fun a ha => by
    rcases YL_or ha with h | ⟨p, hp, rfl⟩
    · exact YL_y h
    · exact YL_l (List.mem_filter.mp hp).1
  have keep : ∀ {j : Nat} {a : Addr}, j ≠ ig → (j, a) ∈ L → (j, a) ∈ L.filter fun p => !(p.1 == ig && p.2 != l) := fun hj h => List.mem_filter.mpr ⟨h, by simp [hj]⟩
  refine ⟨L.filter fun p => !(p.1 == ig && p.2 != l), s.ok, s.bs, by simp [s.len], fun p hp => s.fre p (List.mem_filter.mp hp).1, (List.Sublist.map _ List.filter_sublist).nodup s.nd, fun j t' ht => ?_⟩
  rcases getElem?_set' ht with ⟨rfl, _, rfl⟩ | ⟨hne, h⟩
  · refine ⟨l, q, hσ, List.mem_filter.mpr ⟨hl, by simp⟩, t.at', ?_⟩
    have e' := dnE_up t.e (mask_anti (H := H) (W := W) less)
    have pr : PR K (mask W (YL Y (L.filter fun p => !(p.1 == ig && p.2 != l))) H) (dnP q.xs q.vs) (acc.map fun x => (x.1, D.lst x.2)) := RG.pr t.p fun v ds ⟨a, xs, h0, h1, h2, h3⟩ => by
      subst h0
      refine .lst (mask_at h2 ?_ fun _ _ _ z => nomatch z) (h3.less less)
      cases z : YL Y (L.filter fun p => !(p.1 == ig && p.2 != l)) a with
      | false => rfl
      | true =>
        rcases YL_or z with h | ⟨p, hp, e⟩
        · rw [(s.fre _ h1).2.2.1] at h; cases h
        · obtain ⟨hp1, hp2⟩ := List.mem_filter.mp hp
          have := nd_inj s.nd hp1 h1 e
          subst this
          have hal : a = l := by simpa using hp2
          subst hal
          have := t.at'
          rw [h2] at this
          cases this
    have := putP_q (ep := q.ep) e' pr
    simpa [List.map_map, Function.comp_def] using this
  · have hne' : j ≠ ig := fun z => hne z.symm
    have q0 := s.sl j t' h
    cases t' with
    | no => trivial
    | dat d' => obtain ⟨w, h1, h2⟩ := q0; exact ⟨w, h1, h2.less less⟩
    | own ds' => obtain ⟨l', zs, g1, g2, g3, g4⟩ := q0; exact ⟨l', zs, g1, keep hne' g2, g3, g4.less less⟩
    | dkR _ => exact q0.elim
    | dk ds' => obtain ⟨l', zs, g1, g2, g3, g4⟩ := q0; exact ⟨l', zs, g1, keep hne' g2, g3, g4.less less⟩
    | dn w0 ks0 ds' => obtain ⟨l', zs, g1, g2, g3, g4⟩ := q0; exact ⟨l', zs, g1, keep hne' g2, g3, DnQ.less g4 less⟩
    | row => exact q0
    | slf k C ns ds => obtain ⟨x, dx, fs, g1, gS, g2, g3, g4, g5, g6⟩ := q0; exact ⟨x, dx, fs, g1, gS, keep hne' g2, g3, g4, g5, g6.less less⟩
theorem gs_tell {ig il is : Nat} {wi : TI} {mi : Env → M (List D)} {te : TE} {m : Env → M D} (hi : GI W E wi mi) (he : GE W E te m) (his : is ≠ ig := by decide) (hli : il ≠ is := by decide) (hlg : il ≠ ig := by decide) : GS W E (tFor wi (gName il) (tTell K w ig il is te)) (sTell w ig il is mi m) := fun Y B σ H ρ De ⟨L, s⟩ wq => by
  unfold sTell at wq
  split at wq
  case h_2 => exact wq.elim
  rename_i w' hw'
  split at wq
  case isFalse => exact wq.elim
  rename_i hlen
  by_cases ew : w' = w
  case neg => rw [if_neg ew] at wq; exact wq.elim
  rw [if_pos ew] at wq
  subst ew
  refine hi.seq s.okL s.envA wq (fun _ _ h => h.at' s) fun ds w1 J G Yw H2 e2 wk hG hY => ?_
  have su := s.up e2
  obtain ⟨l, q0, g1, g2, g3, g4⟩ := su.sl ig _ hw'
  have hig : ig < ρ.length := (List.getElem?_eq_some_iff.mp hw').1
  have s2 := (su.drop ig).base
  let B2 : Bases := ⟨(H2, YL Y L) :: B.l, B.s⟩
  let Rr : List (NestedKey × List D) × Env → Prop := fun r => FlP W Y B De (.nx (r.2.set ig (.dn w' (r.1.map (·.1)) (r.1.map fun x => .lst x.2))))
  have w1' : (toldGo il is m ds [] (ρ.set ig .no)).wp Rr (ErrB W E B2) := M.wp_mono (fun _ h => h) (fun c q h cls o H' k he => h cls o H' (Bok.tail k) he) _ ((M.wp_bind _).mp w1)
  let Pv : Nat → L2.St → Hp → Prop := fun i σ' H' => ∃ ρ' L' acc q, SR W Y B2 σ' H' ρ' L' ∧ (il < ρ'.length ∧ is < ρ'.length) ∧ (ig, l) ∈ L' ∧ ρ'[ig]? = some .no ∧ σ'[ig]? = some (some (.ref l)) ∧ Tl W Y L' H' ig l w' acc q ∧ (toldGo il is m (ds.drop i) acc ρ').wp Rr (ErrB W E B2)
  have hx0 : q0.xs = [] := by
    have := g4.2.1
    exact List.map_eq_nil_iff.mp this.symm
  have hv0 : q0.vs = [] := by
    have := g4.1.len.2
    rw [hx0] at this
    exact List.length_eq_zero_iff.mp this
  have t0 : Tl W Y L H2 ig l w' [] q0 := ⟨g3, g4.1, by rw [hx0, hv0]; exact .nil, by rw [hx0]; exact .nil⟩
  refine for_it wk Pv ⟨ρ.set ig .no, L, [], q0, s2, by simpa using hlen, g2, by simp [hig], g1, t0, by simpa using w1'⟩ (fun i σ' H' _ ⟨ρ', L', acc, q, s', _⟩ => hG H' (s'.bs _ List.mem_cons_self).2) (fun i x σ' Ha Hb hlt ⟨ρ', L', acc, q, s', hz, m1, hn, hσ, t, w'⟩ y => ?_) (fun σ' H' ⟨ρ', L', acc, q, s', hz, m1, hn, hσ, t, w'⟩ => ?_)
  · have st := (s'.bs _ List.mem_cons_self).2
    obtain ⟨eb, d, hd, hx⟩ := hY i Ha x Hb (YL Y L') hlt st s'.okL (fun a ha => by
      rcases YL_or ha with h | ⟨q, hq, rfl⟩
      · exact .inl (YL_y h)
      · rcases (s'.fre q hq).1 _ List.mem_cons_self with h | h
        · exact .inr h
        · exact .inl h) y
    have eB : Ext W Ha Hb := .of s'.ok.1 eb
    have sb := (s'.up eB).set il hx
    have tb := t.up s' m1 eB
    have hdr : ds.drop i = d :: ds.drop (i + 1) := by
      obtain ⟨hl, hg⟩ := List.getElem?_eq_some_iff.mp hd
      rw [List.drop_eq_getElem_cons hl, hg]
    rw [hdr] at w'
    unfold toldGo at w'
    exact tell_turn he his hli sb m1 (by rw [List.getElem?_set_ne hlg]; exact hn) (by rw [List.getElem?_set_ne hlg]; exact hσ) (by simp [hz.1]) (by simpa using hz.2) tb w' (fun σ3 H3 ρ3 L3 acc3 q3 a a' b c d e f => ⟨ρ3, L3, acc3, q3, a, by rw [a']; simpa using hz, b, c, d, e, f⟩)
  · rw [List.drop_length] at w'
    have w2 : Rr (acc, ρ') := w'
    exact w2 σ' H' (tell_end s'.unbase m1 hn hσ t)
end
end
end Mi

namespace Cc
open PySem PySem.Spec L2 PyProof.Rows HT
section
variable {prog : Program} {w : World} {A : Around} {E : Value → Shared → Prop} {s : Shared}
theorem noI_tuple_add : typeLookup (.type "tuple") (dunderI "add") = pure none := by rfl
theorem icat_tup {t b : Addr} {vs ws : List Value} {Q : Value → Shared → Prop} (ht : IsTup s.heap t vs.toArray) (hb : IsTup s.heap b ws.toArray) (hv : vs ≠ [])
    (h1 : ws = [] → Q (.ref t) s) (h2 : ws ≠ [] → Q (.ref s.heap.objs.size) { s with heap := s.heap.push { cls := .type "tuple", data := .seq (vs ++ ws).toArray } })
    (hsz : vs.length + ws.length ≤ sizeLine) : wpAny (model prog w) A (inplaceOp .Add (.ref t) (.ref b)) Q E s := by
  obtain ⟨⟨cls, dd, data, sl⟩, ho, hc, n, hd⟩ := id ht
  obtain ⟨⟨cls2, dd2, data2, sl2⟩, ho2, hc2, n2, hd2⟩ := id hb
  simp only at hc hd hc2 hd2
  subst hc hd hc2 hd2
  have e : vs.toArray ++ ws.toArray = (vs ++ ws).toArray := by simp
  have ha : s.TypeIs (.ref t) "tuple" := ⟨_, ho, rfl⟩
  by_cases hw : ws = []
  · exact wpAny_inplaceOp_concat ha ⟨_, ho2, rfl⟩ noI_tuple_add noFill_tuple_add seq_tuple_add (call_meets PySem.F.slot_tuple_add ha PySem.F.entry_tuple_add (PySem.F.args_tuple_add_2 _ _)
      (tuple_addW1 t b vs.toArray ws.toArray n n2 dd dd2 sl sl2 (by simpa using hv) (by simp [hw])) ⟨ho, ho2, h1 hw⟩)
  · refine wpAny_inplaceOp_concat ha ⟨_, ho2, rfl⟩ noI_tuple_add noFill_tuple_add seq_tuple_add (call_meets PySem.F.slot_tuple_add ha PySem.F.entry_tuple_add (PySem.F.args_tuple_add_2 _ _)
      (tuple_addW2 t b vs.toArray ws.toArray n n2 dd dd2 sl sl2 (by simpa using hv) (by simpa using hw) (by rw [List.size_toArray, List.size_toArray]; exact hsz)) ⟨ho, ho2, ?_⟩)
    rw [e]
    exact h2 hw
theorem icat_tup0 {t b : Addr} {ws : List Value} {Q : Value → Shared → Prop} (ht : IsTup s.heap t ([] : List Value).toArray) (hb : IsTup s.heap b ws.toArray) (h : Q (.ref b) s) : wpAny (model prog w) A (inplaceOp .Add (.ref t) (.ref b)) Q E s := by
  obtain ⟨⟨cls, dd, data, sl⟩, ho, hc, n, hd⟩ := id ht
  obtain ⟨⟨cls2, dd2, data2, sl2⟩, ho2, hc2, n2, hd2⟩ := id hb
  simp only at hc hd hc2 hd2
  subst hc hd hc2 hd2
  have ha : s.TypeIs (.ref t) "tuple" := ⟨_, ho, rfl⟩
  exact wpAny_inplaceOp_concat ha ⟨_, ho2, rfl⟩ noI_tuple_add noFill_tuple_add seq_tuple_add (call_meets PySem.F.slot_tuple_add ha PySem.F.entry_tuple_add (PySem.F.args_tuple_add_2 _ _)
    (tuple_addW0 t b ([] : List Value).toArray ws.toArray n n2 dd dd2 sl sl2 (by simp)) ⟨ho, ho2, h⟩)
end
section
variable {X : Cx}
theorem ip_catP : PIp X .Add rCatP := by
  intro pins s σ H x y v u Q I rx ry h
  obtain ⟨a, b, xs, ys, rfl, rfl, ha, hb, hz, q0, q1, q2⟩ := h
  cases rx
  cases ry
  obtain ⟨its, r1, p1, _⟩ := I.tuple (ha.sq (K := X.K))
  obtain ⟨its2, r2, p2, _⟩ := I.tuple (hb.sq (K := X.K))
  by_cases hx : xs = []
  · subst hx
    cases r1
    exact icat_tup0 p1 p2 ⟨.ref b, H, I, rfl, q0 rfl⟩
  refine icat_tup p1 p2 (fun z => hx (r1.nil_iff.mp z)) (fun z => ⟨.ref a, H, I, rfl, q1 hx (r2.nil_iff.mp z)⟩) (fun z => ?_) (by rw [← r1.length, ← r2.length]; exact hz)
  have hg := Heap.get?_push_size (h := s.heap) (o := { cls := .type "tuple", data := .seq (its ++ its2).toArray }) rfl
  refine ⟨.ref s.heap.objs.size, upd H s.heap.objs.size (.frz { cls := .type "tuple", data := .seq (its ++ its2).toArray } (.tup (xs ++ ys))), I.laid (t' := s.toks) (fun b ob q => Heap.get?_push_of_some _ q) (Nat.le_refl _) ⟨?_, by rw [List.length_append]; exact hz, its ++ its2, r1.append r2, ?_⟩, rfl, q2 hx (fun w => z (r2.nil_iff.mpr w)) _ _ (I.hok.fresh (Nat.le_refl _)) ⟨rfl, rfl⟩⟩
  · simpa using hg
  · simpa using IsTup.new _ _
end
end Cc

namespace Cc
open PySem PySem.Spec L2 PyProof.Rows
def rLenSet (w : World) : List V → Hp → VK → Prop := fun vs H Q => ∃ (a : Addr) (S : Int → Bool) (n : Nat), vs = [V.ref a] ∧ H a = some (SetO w a S n) ∧ n < 64 ∧ Q (.int (n : Nat)) H
theorem crLenSet {X : Cx} {w : World} (hw : X.w = w := by rfl) : CallR X (.builtin "len") (rLenSet w) := by
  subst hw
  intro pins s σ H vs us Q I r h
  obtain ⟨a, S, n, rfl, ha, h64, q⟩ := h
  obtain ⟨o, es, ep, t, ho, hex, hd, _, _, _, _, hf, hn, _⟩ := setO_get I ha
  rw [Vals.ref1 r]
  exact call_len_set ho hex hd hf (by rw [hn]; omega) ⟨.int n, H, I.tok _, ⟨_, by rw [hn]⟩, q⟩
end Cc
namespace Mi
open PySem L2 Cc
section
variable {K : Fg} {W : Wd K} {E : XK} {J : It} {n : Nat} {G : Hp → Prop} {Y : Nat → Hp → V → Hp → Prop}
theorem sc_gen {w : World} {wi : TI} {g : TG} {tt : TT} {te : TE} {vs is : List Nat} {mi : Env → M (List D)} {p : Pat} {c : Env → M Bool} {e : Env → M D} (hi : GI W E wi mi) (hp : GP K g p is) (hc : GT W E tt c) (he : GE W E te e) (hv : ∀ i ∈ is, i ∈ vs := by decide) {R : List D → Prop} {Q : VK} {Y : Addr → Bool} {σ : L2.St} {H : Hp} {ρ : Env} (o : Ok W Y H) (r : EnvR W (mask W Y H) σ ρ) (w0 : (mSortSc mi p c e vs ρ).wp R (ErrP W E H))
    (fin : ∀ (Dl : Addr) (acc : List Int) H', Ext W H H' → Ok W Y H' → H' Dl = some (SetL w Dl acc) → acc.Pairwise (· < ·) → acc.length < 64 → R (acc.map D.int) → Q (.ref Dl) H') : tScI w wi g tt te vs σ H Q :=

  hi.seq o r w0 (fun _ _ h => h) fun ds w1 J G Yw H2 e2 wk hG hY Dl hD => by
    have o2 := o.ext e2
    have eD : Same H2 (upd H2 Dl (SetO w Dl (fun _ => false) 0)) := Same.new hD
    have frD := W.new o2.1 hD
    have YD : Y Dl = false := o2.fresh hD
    have rr : EnvR W (mask W (also Y Dl) (upd H2 Dl (SetO w Dl (fun _ => false) 0))) (wipe σ vs) (wipeE ρ vs) := env_wipe ((r.up o e2).same (mask_new o2 hD)) vs
    refine sc_it wk (fun i H' => Ext W H2 H' ∧ Ok W (also Y Dl) H' ∧ EnvR W (mask W (also Y Dl) H') (wipe σ vs) (wipeE ρ vs) ∧ ∃ acc, H' Dl = some (SetL w Dl acc) ∧ acc.Pairwise (· < ·) ∧ acc.length < 64 ∧ (scGo p c e (wipeE ρ vs) acc (ds.drop i)).wp R (ErrP W E H))
      ⟨.of o2.1 eD, okAlsoS o2 hD, rr, [], by rw [upd_same]; exact congrArg some (SetO.congr (fun _ => by simp) rfl), .nil, by simp, by simpa using w1⟩ (fun i H' _ q => hG H' (.ext q.1 o2.2.1)) (fun i x Ha Hb hlt q y => ?_) (fun H' q => ?_)
    · obtain ⟨q1, q2, q3, acc, q4, q5, q6, q7⟩ := q
      obtain ⟨eb, d, hd, hx⟩ := hY i Ha x Hb (also Y Dl) hlt (.ext q1 o2.2.1) q2 (fun a h => by
        by_cases ea : a = Dl
        · subst ea; exact .inr hD
        · exact .inl (by simpa [Mi.also, ea] using h)) y
      have eb' : Ext W Ha Hb := .of q2.1 eb
      have ob := q2.ext eb'
      have e2b := q1.trans eb'
      have rb := q3.up q2 eb'
      have hdr : ds.drop i = d :: ds.drop (i + 1) := by
        obtain ⟨hl, hg⟩ := List.getElem?_eq_some_iff.mp hd
        rw [List.drop_eq_getElem_cons hl, hg]
      rw [hdr] at q7
      unfold scGo at q7
      cases hpd : p d (wipeE ρ vs) with
      | none => rw [hpd] at q7; exact q7.elim
      | some ρ1 =>
        rw [hpd] at q7
        refine hp _ Hb x d (wipe σ vs) (wipeE ρ vs) ρ1 _ (mask_le (W := W) (Y := also Y Dl) (H := Hb)) hx hpd fun σ1 s1 => ⟨wipe_setR s1 hv |>.trans (wipe_wipe σ vs), ?_⟩
        have r1 := rb.sets s1
        have eHb := e2.trans e2b
        refine hc.seq (Er := ErrP W E H) ob r1 q7 (fun _ _ h => h.up eHb) fun k H3 e3 o3 r3 w3 => ?_
        have YDl : W.X Dl = false := o2.x YD
        have l3 : H3 Dl = some (SetL w Dl acc) := e3.1 _ _ (eb _ _ q4) YDl
        cases k with
        | false => exact (if_neg Bool.false_ne_true).mpr ⟨e2b.trans e3, o3, rb.up ob e3, acc, l3, q5, q6, by simpa using w3⟩
        | true =>
          refine (if_pos rfl).mpr (he.seq (Er := ErrP W E H) o3 r3 (by simpa using w3) (fun _ _ h => h.up (eHb.trans e3)) fun dv y' H4 e4 o4 r4 hy w4 => ?_)
          have l4 : H4 Dl = some (SetL w Dl acc) := e4.1 _ _ l3 YDl
          cases hy with
          | int i0 =>
            dsimp only at w4
            split at w4
            case isFalse => exact w4.elim
            rename_i room
            refine ⟨i0, _, _, rfl, l4, by unfold scanBound; omega, ?_⟩
            rw [SetL.add q5]
            have mo : mask W (also Y Dl) (upd H4 Dl (SetL w Dl (insU i0 acc))) = mask W (also Y Dl) H4 := mask_off (by simp [Mi.also])
            have I4 : W.I (upd H4 Dl (SetL w Dl (insU i0 acc))) := W.off o4.1 frD l4 set_cell
            have e24 := (e2b.trans e3).trans e4
            refine ⟨⟨fun b u hb hx => ?_, I4⟩, ⟨I4, o4.2.1, fun a ha => ?_⟩, by rw [mo]; exact (rb.up ob e3).up o3 e4, insU i0 acc, upd_same, insU_asc q5, ?_, w4⟩
            · rw [upd_ne (ne_of_none hb hD)]; exact e24.1 b u hb hx
            · by_cases ea : a = Dl
              · subst ea; exact ⟨_, upd_same, set_cell⟩
              · rw [upd_ne ea]; exact o4.2.2 a ha
            · by_cases hm : i0 ∈ acc
              · rw [insU_same q5 hm]; exact q6
              · rw [insU_len hm]; omega
          | _ => exact w4.elim
    · obtain ⟨q1, q2, q3, acc, q4, q5, q6, q7⟩ := q
      rw [List.drop_length] at q7
      have q7' : R (acc.map D.int) := q7
      have eH := e2.trans q1
      exact fin Dl acc H' eH (o.ext eH) q4 q5 q6 q7'

def mLenSc (mi : Env → M (List D)) (p : Pat) (c : Env → M Bool) (e : Env → M D) (vs : List Nat) : Env → M D := fun ρ => (mSortSc mi p c e vs ρ).bind fun ds => .ret (.int (ds.length : Nat))
theorem ge_lenSc {w : World} {wi : TI} {g : TG} {tt : TT} {te : TE} {vs is : List Nat} {mi : Env → M (List D)} {p : Pat} {c : Env → M Bool} {e : Env → M D} (hi : GI W E wi mi) (hp : GP K g p is) (hc : GT W E tt c) (he : GE W E te e) (hv : ∀ i ∈ is, i ∈ vs := by decide) : GE W E (tCB (rLenSet w) (tCons (tScI w wi g tt te vs) tNil)) (mLenSc mi p c e vs) := fun Y σ H ρ Q o r w0 =>
  sc_gen (Q := fun x H' => rLenSet w [x] H' Q) hi hp hc he hv o r ((M.wp_bind _).mp w0) fun Dl acc H' eH oH h1 h2 h3 h4 => by
    have h4' : RetP W Y H Q (.int ((acc.map D.int).length : Nat)) := h4
    rw [List.length_map] at h4'
    exact ⟨Dl, _, _, rfl, h1, h3, h4' _ H' eH (.int _)⟩
def sAugT (i : Nat) (f : D → D → Option D) (m : Env → M D) : Env → M Fl := fun ρ => match look ρ i with
  | some d => (m ρ).bind fun e => (M.ofO (f d e)).bind fun z => .ret (.nx (ρ.set i (.dat z)))
  | none => .bad
theorem gs_augT {i : Nat} {te : TE} {m : Env → M D} {r : R2} {f : D → D → Option D} (h : GE W E te m) (hr : R2M W r f) : GS W E (tAug i te r) (sAugT i f m) := fun Y B σ H ρ Dn ⟨L, s⟩ w => by
  unfold sAugT at w
  split at w
  case h_2 => exact w.elim
  rename_i d hl
  obtain ⟨v, h1, h2⟩ := s.envA.2.1 i _ hl
  refine ⟨v, h1, h.seq s.okL s.envA w (fun _ _ h => h.at' s) fun e u H1 e1 o1 r1 hu w1 => ?_⟩
  obtain ⟨z, hz, w2⟩ := M.wp_ofO ((M.wp_bind _).mp w1)
  have s1 := s.up e1
  have w2' : FlP W Y B Dn (.nx (ρ.set i (.dat z))) := w2
  exact hr _ H1 v u d e z _ o1 (Dm.up h2 s.okL e1) hu hz fun x H2 e2 hx => w2' _ H2 ⟨L, (s1.up e2).set i hx⟩
end
end Mi

namespace My
open PySem L2 Cc
abbrev topS (i : Nat) : Stmt := PySem.Challenge.pw_coldcrates_k35_speaking_rejected.main.body.getD i (.Pass ⟨0, 0, 0, 0⟩)
abbrev s_is_number : Stmt := topS 12
theorem sc_is_number : FnScope ["value", "low", "high"] ["value", "low", "high"] (defScope s_is_number) := ⟨rfl, rfl, rfl, by decide +kernel, rfl, by decide +kernel, by decide +kernel⟩
abbrev s_check_number : Stmt := topS 13
theorem sc_check_number : FnScope ["value", "low", "high"] ["value", "low", "high"] (defScope s_check_number) := ⟨rfl, rfl, rfl, by decide +kernel, rfl, by decide +kernel, by decide +kernel⟩
abbrev s_is_word : Stmt := topS 14
theorem sc_is_word : FnScope ["value", "letter"] ["value"] (defScope s_is_word) := ⟨rfl, rfl, rfl, by decide +kernel, rfl, by decide +kernel, by decide +kernel⟩
abbrev s_subsets : Stmt := topS 16
theorem sc_subsets : FnScope ["parts", "others", "with_first", "some"] ["parts"] (defScope s_subsets) := ⟨rfl, rfl, rfl, by decide +kernel, rfl, by decide +kernel, by decide +kernel⟩
abbrev s_length_and_items : Stmt := topS 17
theorem sc_length_and_items : FnScope ["chosen"] ["chosen"] (defScope s_length_and_items) := ⟨rfl, rfl, rfl, by decide +kernel, rfl, by decide +kernel, by decide +kernel⟩
abbrev s_doors_fit : Stmt := topS 25
theorem sc_doors_fit : FnScope ["doors", "door"] ["doors"] (defScope s_doors_fit) := ⟨rfl, rfl, rfl, by decide +kernel, rfl, by decide +kernel, by decide +kernel⟩
abbrev s_is_door : Stmt := topS 26
theorem sc_is_door : FnScope ["value"] ["value"] (defScope s_is_door) := ⟨rfl, rfl, rfl, by decide +kernel, rfl, by decide +kernel, by decide +kernel⟩
abbrev s_crates_fit : Stmt := topS 27
theorem sc_crates_fit : FnScope ["crates", "size", "one", "other", "name"] ["crates", "size"] (defScope s_crates_fit) := ⟨rfl, rfl, rfl, by decide +kernel, rfl, by decide +kernel, by decide +kernel⟩
abbrev s_places_behind : Stmt := topS 28
theorem sc_places_behind : FnScope ["doors", "found", "begin", "door", "end"] ["doors"] (defScope s_places_behind) := ⟨rfl, rfl, rfl, by decide +kernel, rfl, by decide +kernel, by decide +kernel⟩
abbrev s_all_layouts : Stmt := topS 29
theorem sc_all_layouts : FnScope ["store"] ["store"] (defScope s_all_layouts) := ⟨rfl, rfl, rfl, by decide +kernel, rfl, by decide +kernel, by decide +kernel⟩
abbrev s_arrangements : Stmt := topS 30
theorem sc_arrangements : FnScope ["names", "free", "found", "at", "name", "others", "rest"] ["names", "free"] (defScope s_arrangements) := ⟨rfl, rfl, rfl, by decide +kernel, rfl, by decide +kernel, by decide +kernel⟩
abbrev s_is_layout : Stmt := topS 31
theorem sc_is_layout : FnScope ["store", "value", "names", "name"] ["store", "value"] (defScope s_is_layout) := ⟨rfl, rfl, rfl, by decide +kernel, rfl, by decide +kernel, by decide +kernel⟩
abbrev s_check_layout : Stmt := topS 32
theorem sc_check_layout : FnScope ["store", "layout"] ["store", "layout"] (defScope s_check_layout) := ⟨rfl, rfl, rfl, by decide +kernel, rfl, by decide +kernel, by decide +kernel⟩
abbrev s_check_crate : Stmt := topS 33
theorem sc_check_crate : FnScope ["store", "name"] ["store", "name"] (defScope s_check_crate) := ⟨rfl, rfl, rfl, by decide +kernel, rfl, by decide +kernel, by decide +kernel⟩
abbrev s_has_door : Stmt := topS 34
theorem sc_has_door : FnScope ["store", "door"] ["store", "door"] (defScope s_has_door) := ⟨rfl, rfl, rfl, by decide +kernel, rfl, by decide +kernel, by decide +kernel⟩
abbrev s_check_door : Stmt := topS 35
theorem sc_check_door : FnScope ["store", "door"] ["store", "door"] (defScope s_check_door) := ⟨rfl, rfl, rfl, by decide +kernel, rfl, by decide +kernel, by decide +kernel⟩
abbrev s_contents : Stmt := topS 36
theorem sc_contents : FnScope ["store", "layout", "door", "place"] ["store", "layout", "door"] (defScope s_contents) := ⟨rfl, rfl, rfl, by decide +kernel, rfl, by decide +kernel, by decide +kernel⟩
abbrev s_told_apart : Stmt := topS 38
theorem sc_told_apart : FnScope ["store", "left", "doors", "groups", "layout", "seen", "door"] ["store", "left", "doors"] (defScope s_told_apart) := ⟨rfl, rfl, rfl, by decide +kernel, rfl, by decide +kernel, by decide +kernel⟩
abbrev s_check_question : Stmt := topS 41
theorem sc_check_question : FnScope ["store", "layout", "name", "rows", "at", "row", "door"] ["store", "layout", "name", "rows"] (defScope s_check_question) := ⟨rfl, rfl, rfl, by decide +kernel, rfl, by decide +kernel, by decide +kernel⟩
abbrev s_spoken : Stmt := topS 42
theorem sc_spoken : FnScope ["store", "layout", "name", "rows", "words", "ahead", "left", "said"] ["store", "layout", "name", "rows"] (defScope s_spoken) := ⟨rfl, rfl, rfl, by decide +kernel, rfl, by decide +kernel, by decide +kernel⟩
abbrev s_one_round : Stmt := topS 43
theorem sc_one_round : FnScope ["store", "layout", "name", "rows", "left", "said", "row", "knowing", "word", "other"] ["store", "layout", "name", "rows", "left"] (defScope s_one_round) := ⟨rfl, rfl, rfl, by decide +kernel, rfl, by decide +kernel, by decide +kernel⟩
abbrev s_who_know : Stmt := topS 44
theorem sc_who_know : FnScope ["store", "left", "name", "row", "knowing", "same", "layout", "known"] ["store", "left", "name", "row"] (defScope s_who_know) := ⟨rfl, rfl, rfl, by decide +kernel, rfl, by decide +kernel, by decide +kernel⟩
abbrev s_first_to_know : Stmt := topS 45
theorem sc_first_to_know : FnScope ["store", "layout", "name", "rows", "words", "_", "turn"] ["store", "layout", "name", "rows"] (defScope s_first_to_know) := ⟨rfl, rfl, rfl, by decide +kernel, rfl, by decide +kernel, by decide +kernel⟩
abbrev s_needed_doors : Stmt := topS 46
theorem sc_needed_doors : FnScope ["store", "layout", "name", "rows", "person", "chosen", "enough", "doors"] ["store", "layout", "name", "rows", "person"] (defScope s_needed_doors) := ⟨rfl, rfl, rfl, by decide +kernel, rfl, by decide +kernel, by decide +kernel⟩
abbrev s_knows_first : Stmt := topS 47
theorem sc_knows_first : FnScope ["store", "layout", "name", "ahead", "row", "said", "_"] ["store", "layout", "name", "ahead", "row"] (defScope s_knows_first) := ⟨rfl, rfl, rfl, by decide +kernel, rfl, by decide +kernel, by decide +kernel⟩
abbrev s__law_taken : Stmt := topS 49
theorem sc__law_taken : FnScope ["_law_row", "_law_many", "_law_found", "_law_cell"] ["_law_row", "_law_many"] (defScope s__law_taken) := ⟨rfl, rfl, rfl, by decide +kernel, rfl, by decide +kernel, by decide +kernel⟩
abbrev s__law_told : Stmt := topS 50
theorem sc__law_told : FnScope ["_law_work", "e"] ["_law_work"] (defScope s__law_told) := ⟨rfl, rfl, rfl, by decide +kernel, rfl, by decide +kernel, by decide +kernel⟩
abbrev s_law : Stmt := topS 51
theorem sc_law : FnScope ["_law_script", "_law_row", "_law_turn", "_law_pick", "_law_wrong", "_law_k", "_law_some", "_law_is_bad", "_law_due", "_law_late", "_law_layout", "_law_name", "_law_person", "_law_rows", "_law_store", "_law_j"] ["_law_script"] (defScope s_law) := ⟨rfl, rfl, rfl, by decide +kernel, rfl, by decide +kernel, by decide +kernel⟩
abbrev s_InvalidStore___init__ : Stmt := inClass (topS 3) 0
abbrev s_InvalidRows___init__ : Stmt := inClass (topS 8) 0
abbrev s_Store___init__ : Stmt := inClass (topS 24) 0
theorem sc_Store___init__ : FnScope ["self", "doors", "crates", "places"] ["self", "doors", "crates"] (defScope s_Store___init__) := ⟨rfl, rfl, rfl, by decide +kernel, rfl, by decide +kernel, by decide +kernel⟩
abbrev s_Store___len__ : Stmt := inClass (topS 24) 2
theorem sc_Store___len__ : FnScope ["self"] ["self"] (defScope s_Store___len__) := ⟨rfl, rfl, rfl, by decide +kernel, rfl, by decide +kernel, by decide +kernel⟩
abbrev s_Store_crates : Stmt := inClass (topS 24) 4
theorem sc_Store_crates : FnScope ["self"] ["self"] (defScope s_Store_crates) := ⟨rfl, rfl, rfl, by decide +kernel, rfl, by decide +kernel, by decide +kernel⟩
abbrev s_Store_size : Stmt := inClass (topS 24) 5
theorem sc_Store_size : FnScope ["self"] ["self"] (defScope s_Store_size) := ⟨rfl, rfl, rfl, by decide +kernel, rfl, by decide +kernel, by decide +kernel⟩
abbrev s_Store_places_of : Stmt := inClass (topS 24) 7
theorem sc_Store_places_of : FnScope ["self", "door"] ["self", "door"] (defScope s_Store_places_of) := ⟨rfl, rfl, rfl, by decide +kernel, rfl, by decide +kernel, by decide +kernel⟩
end My

namespace My
open PySem L2 RZ Cc Mi CcK
variable [PW]
def errNames : List Str := ["InvalidLayout", "InvalidNumber", "InvalidRows", "InvalidStore", "UnknownCrate", "UnknownDoor"]
abbrev storeNs : List Str := ["_places", "_size", "_doors", "_crates"]
def stP (ns : List Str) : Bool := !ns.isEmpty && ns.isPrefixOf storeNs
structure Tx (P : Program) (w : World) (K : Fg) (mg : Str → Option Value) (C : Addr) (W : Wd K) (ea fI : Str → Addr) : Prop where
  b_all : mg "all" = none
  b_bool : mg "bool" = none
  b_enumerate : mg "enumerate" = none
  b_int : mg "int" = none
  b_isinstance : mg "isinstance" = none
  b_len : mg "len" = none
  b_list : mg "list" = none
  b_min : mg "min" = none
  b_range : mg "range" = none
  b_sorted : mg "sorted" = none
  b_str : mg "str" = none
  b_sum : mg "sum" = none
  b_tuple : mg "tuple" = none
  b_zip : mg "zip" = none
  m_LETTERS : Cst mg "LETTERS" (.str "abcdefghijklmnopqrstuvwxyz")
  m_LONGEST_WORD : Cst mg "LONGEST_WORD" (.int 8)
  m_MOST_BEHIND : Cst mg "MOST_BEHIND" (.int 4)
  m_MOST_CRATES : Cst mg "MOST_CRATES" (.int 5)
  m_MOST_DOORS : Cst mg "MOST_DOORS" (.int 4)
  m_MOST_PEOPLE : Cst mg "MOST_PEOPLE" (.int 3)
  m_MOST_PLACES : Cst mg "MOST_PLACES" (.int 6)
  m_MOST_WARMTH : Cst mg "MOST_WARMTH" (.int 99)
  hw : w = PW.w
  cls : Cls K C
  hp : ∀ ns C', stP ns = true → W.ct ns = some C' → C' = C
  hcp : ∀ ns, stP ns = true → W.ct ns = some C
  cls0 : W.cls 0 = C
  g_Store : Cst mg "Store" (.ref C)
  isi : IsiC K C
  n_places : NoAttr K C "_places"
  n_size : NoAttr K C "_size"
  n_doors : NoAttr K C "_doors"
  n_crates : NoAttr K C "_crates"
  x_InvalidLayout : ErrT K mg "InvalidLayout" (ea "InvalidLayout")
  ea_InvalidLayout : W.ea "InvalidLayout" = some (ea "InvalidLayout")
  x_InvalidNumber : ErrT K mg "InvalidNumber" (ea "InvalidNumber")
  ea_InvalidNumber : W.ea "InvalidNumber" = some (ea "InvalidNumber")
  x_InvalidRows : ErrF P w K mg "InvalidRows" (ea "InvalidRows") (fI "InvalidRows") "index"
  ea_InvalidRows : W.ea "InvalidRows" = some (ea "InvalidRows")
  ef_InvalidRows : W.ef "InvalidRows" = (["index"] : List Str)
  x_InvalidStore : ErrF P w K mg "InvalidStore" (ea "InvalidStore") (fI "InvalidStore") "part"
  ea_InvalidStore : W.ea "InvalidStore" = some (ea "InvalidStore")
  ef_InvalidStore : W.ef "InvalidStore" = (["part"] : List Str)
  x_UnknownCrate : ErrT K mg "UnknownCrate" (ea "UnknownCrate")
  ea_UnknownCrate : W.ea "UnknownCrate" = some (ea "UnknownCrate")
  x_UnknownDoor : ErrT K mg "UnknownDoor" (ea "UnknownDoor")
  ea_UnknownDoor : W.ea "UnknownDoor" = some (ea "UnknownDoor")
  h_InvalidLayout : mg "InvalidLayout" = some (.ref (ea "InvalidLayout"))
  xm_InvalidLayout : ∀ c ∈ errNames, ∀ A, W.ea c = some A → PySem.W.exmOne K (.ref A) (.ref (ea "InvalidLayout")) = some (hitC "InvalidLayout" c)
  h_InvalidNumber : mg "InvalidNumber" = some (.ref (ea "InvalidNumber"))
  xm_InvalidNumber : ∀ c ∈ errNames, ∀ A, W.ea c = some A → PySem.W.exmOne K (.ref A) (.ref (ea "InvalidNumber")) = some (hitC "InvalidNumber" c)
  h_InvalidRows : mg "InvalidRows" = some (.ref (ea "InvalidRows"))
  xm_InvalidRows : ∀ c ∈ errNames, ∀ A, W.ea c = some A → PySem.W.exmOne K (.ref A) (.ref (ea "InvalidRows")) = some (hitC "InvalidRows" c)
  xr_InvalidRows : XfC K (ea "InvalidRows")
  xn_InvalidRows_index : PySem.W.findIn K (.ref (ea "InvalidRows")) "index" = some none
  h_UnknownCrate : mg "UnknownCrate" = some (.ref (ea "UnknownCrate"))
  xm_UnknownCrate : ∀ c ∈ errNames, ∀ A, W.ea c = some A → PySem.W.exmOne K (.ref A) (.ref (ea "UnknownCrate")) = some (hitC "UnknownCrate" c)
section
noncomputable section
variable [PW]
variable {P : Program} {w : World} {K : Fg} {mg : Str → Option Value} {base : Heap} {C : Addr} {W : Wd K} {ea fI : Str → Addr}
def m_is_number : List D → M D := defM 3 3
    (sRet (mAnd (mIsT "int" (mVar 0)) (mAnd (mNot (mIsT "bool" (mVar 0))) (mChain fLe fLe (mVar 1) (mVar 0) (mVar 2)))))
theorem ok_is_number {f : Addr} {fd : FuncData} (F : Fun K "is_number" "is_number" s_is_number f fd) (T : Tx P w K mg C W ea fI)  : FnOk P w K mg base CX0 1 f fd ["value", "low", "high"] (spC W m_is_number) :=
  ok_defC F sc_is_number (by decide) fun cdv A outer s H E hr => ⟨_, (pss_one (ps_ret (pe_and (pe_callB (isiK K) (by rfl) T.b_isinstance (by decide +kernel) (pa_cons (pv 0) (pa_cons (pe_ty (T := "int") T.b_int) pa_nil))) (pe_and (pe_not (pe_callB (isiK K) (by rfl) T.b_isinstance (by decide +kernel) (pa_cons (pv 0) (pa_cons (pe_ty (T := "bool") T.b_bool) pa_nil)))) (pe_one (pe_chain op_le op_le (pv 1) (pv 0) (pv 2))))))),
    (gs_ret (ge_and (ge_isT ge_var) (ge_and (ge_not (ge_isT ge_var)) (ge_chain ge_var ge_var r2_B ge_var r2_B))))⟩
def m_check_number : List D → M D := defM 3 3
    (sIf (cNot (cOf (mCall (fun ds => (m_is_number ds).calm) (mCons (mVar 0) (mCons (mVar 1) (mCons (mVar 2) mNil)))))) (sErrE "InvalidNumber" (mJs [(mC (.str "this is no number from ")), (mFmt (mVar 1)), (mC (.str " to ")), (mFmt (mVar 2))])) sNext)
theorem ok_check_number {f : Addr} {fd : FuncData} (F : Fun K "check_number" "check_number" s_check_number f fd) (T : Tx P w K mg C W ea fI) (C_is_number : Cal P w K mg base CX0 1 "is_number" ["value", "low", "high"] (spC W m_is_number)) : FnOk P w K mg base (L2.CX P w) 2 f fd ["value", "low", "high"] (spM W m_check_number) :=
  ok_defM F sc_check_number (by decide) fun cdv A outer s H E hr => ⟨_, (pss_one (ps_if (pt_not (pt_val (pe_cal (E := Cc.E0) C_is_number hr pass0 (pa_cons (pv 0) (pa_cons (pv 1) (pa_cons (pv 2) pa_nil)))))) (pss_one (ps_raiseE rfl (takes_of rfl rfl rfl rfl) T.x_InvalidNumber (pe_joined (PJ.cons pe_str (PJ.cons (pe_fmt (pv 1)) (PJ.cons pe_str (PJ.cons (pe_fmt (pv 2)) PJ.nil))))))) pss_nil)),
    (gs_if (gt_not (gt_ofB (ge_call (ga_cons ge_var (ga_cons ge_var (ga_cons ge_var ga_nil)))))) (gs_errE T.ea_InvalidNumber (fun _ _ _ _ h => h) (ge_js (GJ.cons ge_str (GJ.cons (ge_fmt ge_var) (GJ.cons ge_str (GJ.cons (ge_fmt ge_var) GJ.nil)))))) gs_next)⟩
def m_Store___len__ : List D → M D := defM 1 1
    (sRet (mCB fLen (mCons (mFld stP "_doors" (mVar 0)) mNil)))
theorem ok_Store___len__ {f : Addr} {fd : FuncData} (F : Fun K "__len__" "Store.__len__" s_Store___len__ f fd) (T : Tx P w K mg C W ea fI)  : FnOk P w K mg base CX0 1 f fd ["self"] (spC W m_Store___len__) :=
  ok_defC F sc_Store___len__ (by decide) fun cdv A outer s H E hr => ⟨_, (pss_one (ps_ret (pe_callB (lenK K) (by rfl) T.b_len (by decide +kernel) (pa_cons (pe_fK K (pv 0)) pa_nil)))),
    (gs_ret (ge_cb (ga_cons (ge_fld T.hp T.cls T.n_doors ge_var) ga_nil) rc_len))⟩
def m_is_word : List D → M D := defM 2 1
    (sSeq (sIf (cOr (cNot (cOf (mIsT "str" (mVar 0)))) (cNot (cOf (mChain fLe fLe (mC (.int 1)) (mCB fLen (mCons (mVar 0) mNil)) (mC (.int 8)))))) (sRet (mC (.bl false))) sNext)
    (sRet (mCB fAll (mCons (mNew (mLc (iS (mVar 0)) (pName 1) cYes (mOp (fInS false) (mVar 1) (mC (.str "abcdefghijklmnopqrstuvwxyz"))) [1])) mNil))))
theorem ok_is_word {f : Addr} {fd : FuncData} (F : Fun K "is_word" "is_word" s_is_word f fd) (T : Tx P w K mg C W ea fI)  : FnOk P w K mg base CX0 1 f fd ["value"] (spC W m_is_word) :=
  ok_defC F sc_is_word (by decide) fun cdv A outer s H E hr => ⟨_, (pss_cons (ps_if (PW.pt (pw_or (pt_not (pt_val (pe_callB (isiK K) (by rfl) T.b_isinstance (by decide +kernel) (pa_cons (pv 0) (pa_cons (pe_ty (T := "str") T.b_str) pa_nil))))) (pw_or1 (pt_not (pt_chain op_le op_le pe_int (pe_callB (lenK K) (by rfl) T.b_len (by decide +kernel) (pa_cons (pv 0) pa_nil)) (pe_gc T.m_LONGEST_WORD)))))) (pss_one (ps_ret pe_bl)) pss_nil)
      (pss_one (ps_ret (pe_callB (allK K) (by rfl) T.b_all (by decide +kernel) (pa_cons (pe_lc (own := [("letter", 1)]) (g := gName 1) rfl sc_is_word.nd (pi_str (pv 0)) (blkOk_by (own := [("letter", 1)]) (N := ["value", "letter"]) (sc := defScope s_is_word) (by decide +kernel)) (fun _ _ _ _ _ => (pg_name (i := 1) sc_is_word.nd rfl (Or.inl rfl))) (fun _ _ _ _ _ => pts_nil) (fun _ _ _ _ _ => (pe_cmpR op_in_sign (pv 1) (pe_gc T.m_LETTERS) rfl))) pa_nil))))),
    (gs_seq (gs_if (gt_or (gt_not (gt_ofB (ge_isT ge_var))) (gt_not (gt_of (ge_chain ge_int (ge_cb (ga_cons ge_var ga_nil) rc_len) r2_B ge_int r2_B)))) (gs_ret ge_bl) gs_next)
      (gs_ret (ge_cb (ga_cons (GN.ge (gn_lc (gi_str ge_var) gp_name gt_yes (ge_op ge_var ge_str r2_inS))) ga_nil) rc_all)))⟩
def m_subsets : Nat → List D → M D
  | 0 => fun _ => .bad
  | fuel + 1 => defM 4 1
    (sSeq (sIf (cOf (mOp fEq (mCB fLen (mCons (mVar 0) mNil)) (mC (.int 0)))) (sRet (mNew (mLst (mCons (mTup mNil) mNil)))) sNext)
    (sSeq (sAsg 1 (mCall (fun ds => (m_subsets fuel ds).calm) (mCons (mSlT (mVar 0) (oSome (mC (.int 1))) oNone) mNil)))
    (sSeq (sAsg 2 (mNew (mLc (iL (mVar 1)) (pName 3) cYes (mOp fCatT (mSlT (mVar 0) oNone (oSome (mC (.int 1)))) (mVar 3)) [3])))
    (sRet (mNew (mOpN fCatL (mNew (mOpN fCatL (mNew (mLst (mCons (mTup mNil) mNil))) (mVar 2))) (mNew (mSlL (mVar 1) (oSome (mC (.int 1))) oNone))))))))
theorem ok_subsets {f : Addr} {fd : FuncData} (F : Fun K "subsets" "subsets" s_subsets f fd) (T : Tx P w K mg C W ea fI)  (hg : mg "subsets" = some (.ref f)) (hk : PySem.W.keepIn K (.ref f) = true) (hb : L2.Binds K fd ["parts"] []) : ∀ fuel : Nat, FnOk P w K mg base CX0 (fuel + 1) f fd ["parts"] (spC W (m_subsets fuel))
  | 0 => F.ok sc_subsets (fun vs H Q E h => by obtain ⟨Y, ds, o, hd, w⟩ := h; exact w.elim) (fun cdv A outer s H vs Q E hr h => by obtain ⟨Y, ds, o, hd, w⟩ := h; exact w.elim)
  | fuel + 1 =>
    have C_subsets : Cal P w K mg base CX0 (fuel + 1) "subsets" ["parts"] (spC W (m_subsets fuel)) := ⟨_, _, ok_subsets F T  hg hk hb fuel, hg, hk, hb⟩
    ok_defC F sc_subsets (by decide) fun cdv A outer s H E hr => ⟨_, (pss_cons (ps_if (pt_cmpR (eqK K hr.units) (pe_callB (lenK K) (by rfl) T.b_len (by decide +kernel) (pa_cons (pv 0) pa_nil)) pe_int (nomark _)) (pss_one (ps_ret (pe_lst (pa_cons (pe_tupP pa_nil) pa_nil)))) pss_nil)
      (pss_cons (ps_set (i := 1) sc_subsets.nd rfl (Or.inl rfl) (pe_cal (E := Cc.E0) C_subsets hr pass0 (pa_cons (pe_slice sl_tupP (pv 0) (po_some pe_int) po_none) pa_nil) (hn := Nat.le_refl _)))
      (pss_cons (ps_setLc (i := 2) (own := [("some", 3)]) (g := gName 3) rfl sc_subsets.nd rfl rfl (sw_true rfl rfl rfl (by decide +kernel)) (pi_lK K (pv 1)) (blkOk_by (own := [("some", 3)]) (N := ["parts", "others", "with_first", "some"]) (sc := defScope s_subsets) (by decide +kernel)) (fun _ _ _ _ _ => (pg_name (i := 3) sc_subsets.nd rfl (Or.inl rfl))) (fun _ _ _ _ _ => pts_nil) (fun _ _ _ _ _ => (pe_op op_catP (pe_slice sl_tupP (pv 0) po_none (po_some pe_int)) (pv 3))))
      (pss_one (ps_ret (pe_op op_cat (pe_op op_cat (pe_lst (pa_cons (pe_tupP pa_nil) pa_nil)) (pv 2)) (pe_slice (slL K) (pv 1) (po_some pe_int) po_none))))))),
    (gs_seq (gs_if (gt_of (ge_op (ge_cb (ga_cons ge_var ga_nil) rc_len) ge_int r2_eq)) (gs_ret (GN.ge (gn_lst (ga_cons (ge_tup ga_nil) ga_nil)))) gs_next)
      (gs_seq (gs_asg (ge_call (ga_cons (ge_slT ge_var (go_some ge_int) go_none) ga_nil)))
      (gs_seq (gs_asg (GN.ge (gn_lc (gi_list ge_var) gp_name gt_yes (ge_op (ge_slT ge_var go_none (go_some ge_int)) ge_var r2_catT))))
      (gs_ret (GN.ge (gn_opN (GN.ge (gn_opN (GN.ge (gn_lst (ga_cons (ge_tup ga_nil) ga_nil))) ge_var r2_catL)) (GN.ge (gn_slL ge_var (go_some ge_int) go_none)) r2_catL))))))⟩
def m_length_and_items : List D → M D := defM 1 1
    (sRet (mTup (mCons (mCB fLen (mCons (mVar 0) mNil)) (mCons (mVar 0) mNil))))
theorem ok_length_and_items {f : Addr} {fd : FuncData} (F : Fun K "length_and_items" "length_and_items" s_length_and_items f fd) (T : Tx P w K mg C W ea fI)  : FnOk P w K mg base CX0 1 f fd ["chosen"] (spC W m_length_and_items) :=
  ok_defC F sc_length_and_items (by decide) fun cdv A outer s H E hr => ⟨_, (pss_one (ps_ret (pe_tupP (pa_cons (pe_callB (lenK K) (by rfl) T.b_len (by decide +kernel) (pa_cons (pv 0) pa_nil)) (pa_cons (pv 0) pa_nil))))),
    (gs_ret (ge_tup (ga_cons (ge_cb (ga_cons ge_var ga_nil) rc_len) (ga_cons ge_var ga_nil))))⟩
def m_is_door : List D → M D := defM 1 1
    (sSeq (sIf (cOr (cNot (cOf (mIsT "tuple" (mVar 0)))) (cOf (mOp fNe (mCB fLen (mCons (mVar 0) mNil)) (mC (.int 2))))) (sRet (mC (.bl false))) sNext)
    (sRet (mAnd (mCall (fun ds => (m_is_number ds).calm) (mCons (mOp fIx (mVar 0) (mC (.int 0))) (mCons (mC (.int 1)) (mCons (mC (.int 99)) mNil)))) (mCall (fun ds => (m_is_number ds).calm) (mCons (mOp fIx (mVar 0) (mC (.int 1))) (mCons (mC (.int 1)) (mCons (mC (.int 4)) mNil)))))))
theorem ok_is_door {f : Addr} {fd : FuncData} (F : Fun K "is_door" "is_door" s_is_door f fd) (T : Tx P w K mg C W ea fI) (C_is_number : Cal P w K mg base CX0 1 "is_number" ["value", "low", "high"] (spC W m_is_number)) : FnOk P w K mg base CX0 2 f fd ["value"] (spC W m_is_door) :=
  ok_defC F sc_is_door (by decide) fun cdv A outer s H E hr => ⟨_, (pss_cons (ps_if (PW.pt (pw_or (pt_not (pt_val (pe_callB (isiK K) (by rfl) T.b_isinstance (by decide +kernel) (pa_cons (pv 0) (pa_cons (pe_ty (T := "tuple") T.b_tuple) pa_nil))))) (pw_or1 (pt_cmpR (neK K hr.units) (pe_callB (lenK K) (by rfl) T.b_len (by decide +kernel) (pa_cons (pv 0) pa_nil)) pe_int (nomark _))))) (pss_one (ps_ret pe_bl)) pss_nil)
      (pss_one (ps_ret (pe_and (pe_cal (E := Cc.E0) C_is_number hr pass0 (pa_cons (pe_ix (ixA K) (pv 0) pe_int (fun _ _ => rfl)) (pa_cons pe_int (pa_cons (pe_gc T.m_MOST_WARMTH) pa_nil)))) (pe_one (pe_cal (E := Cc.E0) C_is_number hr pass0 (pa_cons (pe_ix (ixA K) (pv 0) pe_int (fun _ _ => rfl)) (pa_cons pe_int (pa_cons (pe_gc T.m_MOST_BEHIND) pa_nil))))))))),
    (gs_seq (gs_if (gt_or (gt_not (gt_ofB (ge_isT ge_var))) (gt_of (ge_op (ge_cb (ga_cons ge_var ga_nil) rc_len) ge_int r2_ne))) (gs_ret ge_bl) gs_next)
      (gs_ret (ge_and (ge_call (ga_cons (ge_op ge_var ge_int r2_ix) (ga_cons ge_int (ga_cons ge_int ga_nil)))) (ge_call (ga_cons (ge_op ge_var ge_int r2_ix) (ga_cons ge_int (ga_cons ge_int ga_nil)))))))⟩
def m_doors_fit : List D → M D := defM 2 1
    (sSeq (sIf (cOr (cNot (cOf (mIsT "tuple" (mVar 0)))) (cNot (cOf (mChain fLe fLe (mC (.int 1)) (mCB fLen (mCons (mVar 0) mNil)) (mC (.int 4)))))) (sRet (mC (.bl false))) sNext)
    (sSeq (sIf (cNot (cOf (mCB fAll (mCons (mNew (mLc (iT (mVar 0)) (pName 1) cYes (mCall (fun ds => (m_is_door ds).calm) (mCons (mVar 1) mNil)) [1])) mNil)))) (sRet (mC (.bl false))) sNext)
    (sRet (mOp fLe (mCB fSum (mCons (mNew (mLc (iT (mVar 0)) (pName 1) cYes (mOp fIx (mVar 1) (mC (.int 1))) [1])) mNil)) (mC (.int 6))))))
theorem ok_doors_fit {f : Addr} {fd : FuncData} (F : Fun K "doors_fit" "doors_fit" s_doors_fit f fd) (T : Tx P w K mg C W ea fI) (C_is_door : Cal P w K mg base CX0 2 "is_door" ["value"] (spC W m_is_door)) : FnOk P w K mg base CX0 3 f fd ["doors"] (spC W m_doors_fit) :=
  ok_defC F sc_doors_fit (by decide) fun cdv A outer s H E hr => ⟨_, (pss_cons (ps_if (PW.pt (pw_or (pt_not (pt_val (pe_callB (isiK K) (by rfl) T.b_isinstance (by decide +kernel) (pa_cons (pv 0) (pa_cons (pe_ty (T := "tuple") T.b_tuple) pa_nil))))) (pw_or1 (pt_not (pt_chain op_le op_le pe_int (pe_callB (lenK K) (by rfl) T.b_len (by decide +kernel) (pa_cons (pv 0) pa_nil)) (pe_gc T.m_MOST_DOORS)))))) (pss_one (ps_ret pe_bl)) pss_nil)
      (pss_cons (ps_if (pt_not (pt_val (pe_callB (allK K) (by rfl) T.b_all (by decide +kernel) (pa_cons (pe_lc (own := [("door", 1)]) (g := gName 1) rfl sc_doors_fit.nd (pi_tK K (pv 0)) (blkOk_by (own := [("door", 1)]) (N := ["doors", "door"]) (sc := defScope s_doors_fit) (by decide +kernel)) (fun _ _ _ _ _ => (pg_name (i := 1) sc_doors_fit.nd rfl (Or.inl rfl))) (fun _ _ _ _ _ => pts_nil) (fun _ _ _ _ _ => (pe_cal (E := Cc.E0) C_is_door hr pass0 (pa_cons (pv 1) pa_nil)))) pa_nil)))) (pss_one (ps_ret pe_bl)) pss_nil)
      (pss_one (ps_ret (pe_cmpR op_le (pe_callB (sumK K) (by rfl) T.b_sum (by decide +kernel) (pa_cons (pe_lc (own := [("door", 1)]) (g := gName 1) rfl sc_doors_fit.nd (pi_tK K (pv 0)) (blkOk_by (own := [("door", 1)]) (N := ["doors", "door"]) (sc := defScope s_doors_fit) (by decide +kernel)) (fun _ _ _ _ _ => (pg_name (i := 1) sc_doors_fit.nd rfl (Or.inl rfl))) (fun _ _ _ _ _ => pts_nil) (fun _ _ _ _ _ => (pe_ix (ixA K) (pv 1) pe_int (fun _ _ => rfl)))) pa_nil)) (pe_gc T.m_MOST_PLACES) (nomark _)))))),
    (gs_seq (gs_if (gt_or (gt_not (gt_ofB (ge_isT ge_var))) (gt_not (gt_of (ge_chain ge_int (ge_cb (ga_cons ge_var ga_nil) rc_len) r2_B ge_int r2_B)))) (gs_ret ge_bl) gs_next)
      (gs_seq (gs_if (gt_not (gt_ofB (ge_cb (ga_cons (GN.ge (gn_lc (gi_tup ge_var) gp_name gt_yes (ge_call (ga_cons ge_var ga_nil)))) ga_nil) rc_all))) (gs_ret ge_bl) gs_next)
      (gs_ret (ge_op (ge_cb (ga_cons (GN.ge (gn_lc (gi_tup ge_var) gp_name gt_yes (ge_op ge_var ge_int r2_ix))) ga_nil) rc_sum) ge_int r2_B))))⟩
def m_crates_fit : List D → M D := defM 5 2
    (sSeq (sIf (cOr (cNot (cOf (mIsT "tuple" (mVar 0)))) (cNot (cOf (mChain fLe fLe (mC (.int 1)) (mCB fLen (mCons (mVar 0) mNil)) (mCB fMin2 (mCons (mC (.int 5)) (mCons (mVar 1) mNil))))))) (sRet (mC (.bl false))) sNext)
    (sSeq (sIf (cNot (cOf (mCB fAll (mCons (mNew (mLc (iT (mVar 0)) (pName 4) cYes (mCall (fun ds => (m_is_word ds).calm) (mCons (mVar 4) mNil)) [4])) mNil)))) (sRet (mC (.bl false))) sNext)
    (sRet (mCB fAll (mCons (mNew (mLc (iZp (mVar 0) (mSlT (mVar 0) (oSome (mC (.int 1))) oNone)) (pTup [(pName 2), (pName 3)]) cYes (mOp fLtS (mVar 2) (mVar 3)) [2, 3])) mNil)))))
theorem ok_crates_fit {f : Addr} {fd : FuncData} (F : Fun K "crates_fit" "crates_fit" s_crates_fit f fd) (T : Tx P w K mg C W ea fI) (C_is_word : Cal P w K mg base CX0 1 "is_word" ["value"] (spC W m_is_word)) : FnOk P w K mg base CX0 2 f fd ["crates", "size"] (spC W m_crates_fit) :=
  ok_defC F sc_crates_fit (by decide) fun cdv A outer s H E hr => ⟨_, (pss_cons (ps_if (PW.pt (pw_or (pt_not (pt_val (pe_callB (isiK K) (by rfl) T.b_isinstance (by decide +kernel) (pa_cons (pv 0) (pa_cons (pe_ty (T := "tuple") T.b_tuple) pa_nil))))) (pw_or1 (pt_not (pt_chain op_le op_le pe_int (pe_callB (lenK K) (by rfl) T.b_len (by decide +kernel) (pa_cons (pv 0) pa_nil)) (pe_callB (call_min2 rfl) (by rfl) T.b_min (by decide +kernel) (pa_cons (pe_gc T.m_MOST_CRATES) (pa_cons (pv 1) pa_nil)))))))) (pss_one (ps_ret pe_bl)) pss_nil)
      (pss_cons (ps_if (pt_not (pt_val (pe_callB (allK K) (by rfl) T.b_all (by decide +kernel) (pa_cons (pe_lc (own := [("name", 4)]) (g := gName 4) rfl sc_crates_fit.nd (pi_tK K (pv 0)) (blkOk_by (own := [("name", 4)]) (N := ["crates", "size", "one", "other", "name"]) (sc := defScope s_crates_fit) (by decide +kernel)) (fun _ _ _ _ _ => (pg_name (i := 4) sc_crates_fit.nd rfl (Or.inl rfl))) (fun _ _ _ _ _ => pts_nil) (fun _ _ _ _ _ => (pe_cal (E := Cc.E0) C_is_word hr pass0 (pa_cons (pv 4) pa_nil)))) pa_nil)))) (pss_one (ps_ret pe_bl)) pss_nil)
      (pss_one (ps_ret (pe_callB (allK K) (by rfl) T.b_all (by decide +kernel) (pa_cons (pe_lc (own := [("one", 2), ("other", 3)]) rfl sc_crates_fit.nd (pi_zK K T.b_zip (pa_cons (pv 0) (pa_cons (pe_slice sl_tupP (pv 0) (po_some pe_int) po_none) pa_nil))) (blkOk_by (own := [("one", 2), ("other", 3)]) (N := ["crates", "size", "one", "other", "name"]) (sc := defScope s_crates_fit) (by decide +kernel)) (fun _ _ _ _ _ => (pg_tK K (n := 2) rfl (pgs_cons (pg_name (i := 2) sc_crates_fit.nd rfl (Or.inl rfl)) (pgs_cons (pg_name (i := 3) sc_crates_fit.nd rfl (Or.inl rfl)) pgs_nil)))) (fun _ _ _ _ _ => pts_nil) (fun _ _ _ _ _ => (pe_cmpR op_lt_str (pv 2) (pv 3) (nomark _)))) pa_nil)))))),
    (gs_seq (gs_if (gt_or (gt_not (gt_ofB (ge_isT ge_var))) (gt_not (gt_of (ge_chain ge_int (ge_cb (ga_cons ge_var ga_nil) rc_len) r2_B (ge_cb (ga_cons ge_int (ga_cons ge_var ga_nil)) rc_min2) r2_B)))) (gs_ret ge_bl) gs_next)
      (gs_seq (gs_if (gt_not (gt_ofB (ge_cb (ga_cons (GN.ge (gn_lc (gi_tup ge_var) gp_name gt_yes (ge_call (ga_cons ge_var ga_nil)))) ga_nil) rc_all))) (gs_ret ge_bl) gs_next)
      (gs_ret (ge_cb (ga_cons (GN.ge (gn_lc (gi_zip ge_var (ge_slT ge_var (go_some ge_int) go_none)) (gp_tup (gps_cons gp_name (gps_cons gp_name gps_nil))) gt_yes (ge_op ge_var ge_var r2_S))) ga_nil) rc_all))))⟩
def m_places_behind : List D → M D := defM 5 1
    (sSeq (sOwn 1 (mLst mNil))
    (sSeq (sAsg 2 (mC (.int 0)))
    (sSeq (sFor (iT (mVar 0)) (pName 3) (sSeq (sAsg 4 (mOp fAdd (mVar 2) (mOp fIx (mVar 3) (mC (.int 1)))))
    (sSeq (sApp 1 (mPt (rg2 (mVar 2) (mVar 4))))
    (sAsg 2 (mVar 4)))))
    (sRet (mCB fTup (mCons (mVar 1) mNil))))))
theorem ok_places_behind {f : Addr} {fd : FuncData} (F : Fun K "places_behind" "places_behind" s_places_behind f fd) (T : Tx P w K mg C W ea fI)  : FnOk P w K mg base CX0 1 f fd ["doors"] (spC W m_places_behind) :=
  ok_defC F sc_places_behind (by decide) fun cdv A outer s H E hr => ⟨_, (pss_cons (ps_set (i := 1) sc_places_behind.nd rfl (Or.inl rfl) (pe_lst pa_nil))
      (pss_cons (ps_set (i := 2) sc_places_behind.nd rfl (Or.inl rfl) pe_int)
      (pss_cons (ps_for PassesOwn.never rfl (pi_tK K (pv 0)) (pg_name (i := 3) sc_places_behind.nd rfl (Or.inl rfl)) (pss_cons (ps_set (i := 4) sc_places_behind.nd rfl (Or.inl rfl) (pe_op op_add (pv 2) (pe_ix (ixA K) (pv 3) pe_int (fun _ _ => rfl))))
      (pss_cons (ps_expr (pe_bm PySem.F.plainAttrs_list PySem.F.slot_list_append PySem.F.type_list_append mt_append (pv 1) (pa_cons (pe_tupRgP rfl (by rfl) T.b_tuple (prg_2 (by rfl) T.b_range (pv 2) (pv 4))) pa_nil)))
      (pss_one (ps_set (i := 2) sc_places_behind.nd rfl (Or.inl rfl) (pv 4))))))
      (pss_one (ps_ret (pe_callTy (tupPK K) (by rfl) T.b_tuple (by decide +kernel) (pa_cons (pv 1) pa_nil))))))),
    (gs_seq (gs_own (gn_lst ga_nil))
      (gs_seq (gs_asg ge_int)
      (gs_seq (gs_for (gi_tup ge_var) gp_name (gs_seq (gs_asg (ge_op ge_var (ge_op ge_var ge_int r2_ix) r2_add))
      (gs_seq (gs_app (ge_tupRg2 ge_var ge_var))
      (gs_asg ge_var))))
      (gs_ret (ge_cb (ga_cons ge_var ga_nil) rc_tup)))))⟩
def m_Store_crates : List D → M D := defM 1 1
    (sRet (mFld stP "_crates" (mVar 0)))
theorem ok_Store_crates {f : Addr} {fd : FuncData} (F : Fun K "crates" "Store.crates" s_Store_crates f fd) (T : Tx P w K mg C W ea fI)  : FnOk P w K mg base CX0 1 f fd ["self"] (spC W m_Store_crates) :=
  ok_defC F sc_Store_crates (by decide) fun cdv A outer s H E hr => ⟨_, (pss_one (ps_ret (pe_fK K (pv 0)))),
    (gs_ret (ge_fld T.hp T.cls T.n_crates ge_var))⟩
def m_Store_size : List D → M D := defM 1 1
    (sRet (mFld stP "_size" (mVar 0)))
theorem ok_Store_size {f : Addr} {fd : FuncData} (F : Fun K "size" "Store.size" s_Store_size f fd) (T : Tx P w K mg C W ea fI)  : FnOk P w K mg base CX0 1 f fd ["self"] (spC W m_Store_size) :=
  ok_defC F sc_Store_size (by decide) fun cdv A outer s H E hr => ⟨_, (pss_one (ps_ret (pe_fK K (pv 0)))),
    (gs_ret (ge_fld T.hp T.cls T.n_size ge_var))⟩
def m_arrangements : Nat → List D → M D
  | 0 => fun _ => .bad
  | fuel + 1 => defM 7 2
    (sSeq (sIf (cAnd (cOf (mOp fEq (mCB fLen (mCons (mVar 0) mNil)) (mC (.int 0)))) (cOf (mOp fEq (mVar 1) (mC (.int 0))))) (sRet (mNew (mLst (mCons (mTup mNil) mNil)))) sNext)
    (sSeq (sOwn 2 (mLst mNil))
    (sSeq (sIf (cOf (mOp fGt (mVar 1) (mC (.int 0)))) (sExt 2 (mNew (mLc (iL (mCall (fun ds => (m_arrangements fuel ds).calm) (mCons (mVar 0) (mCons (mOp fSub (mVar 1) (mC (.int 1))) mNil)))) (pName 6) cYes (mOp fCatT (mTup (mCons (mC .non) mNil)) (mVar 6)) [6]))) sNext)
    (sSeq (sFor (iEnT (mVar 0)) (pTup [(pName 3), (pName 4)]) (sSeq (sAsg 5 (mOp fCatT (mSlT (mVar 0) oNone (oSome (mVar 3))) (mSlT (mVar 0) (oSome (mOp fAdd (mVar 3) (mC (.int 1)))) oNone)))
    (sExt 2 (mNew (mLc (iL (mCall (fun ds => (m_arrangements fuel ds).calm) (mCons (mVar 5) (mCons (mVar 1) mNil)))) (pName 6) cYes (mOp fCatT (mTup (mCons (mVar 4) mNil)) (mVar 6)) [6])))))
    (sRet (mVar 2))))))
theorem ok_arrangements {f : Addr} {fd : FuncData} (F : Fun K "arrangements" "arrangements" s_arrangements f fd) (T : Tx P w K mg C W ea fI)  (hg : mg "arrangements" = some (.ref f)) (hk : PySem.W.keepIn K (.ref f) = true) (hb : L2.Binds K fd ["names", "free"] []) : ∀ fuel : Nat, FnOk P w K mg base CX0 (fuel + 1) f fd ["names", "free"] (spC W (m_arrangements fuel))
  | 0 => F.ok sc_arrangements (fun vs H Q E h => by obtain ⟨Y, ds, o, hd, w⟩ := h; exact w.elim) (fun cdv A outer s H vs Q E hr h => by obtain ⟨Y, ds, o, hd, w⟩ := h; exact w.elim)
  | fuel + 1 =>
    have C_arrangements : Cal P w K mg base CX0 (fuel + 1) "arrangements" ["names", "free"] (spC W (m_arrangements fuel)) := ⟨_, _, ok_arrangements F T  hg hk hb fuel, hg, hk, hb⟩
    ok_defC F sc_arrangements (by decide) fun cdv A outer s H E hr => ⟨_, (pss_cons (ps_if (PW.pt (pw_and (pt_cmpR (eqK K hr.units) (pe_callB (lenK K) (by rfl) T.b_len (by decide +kernel) (pa_cons (pv 0) pa_nil)) pe_int (nomark _)) (pw_and1 (pt_cmpR (eqK K hr.units) (pv 1) pe_int (nomark _))))) (pss_one (ps_ret (pe_lst (pa_cons (pe_tupP pa_nil) pa_nil)))) pss_nil)
      (pss_cons (ps_set (i := 2) sc_arrangements.nd rfl (Or.inl rfl) (pe_lst pa_nil))
      (pss_cons (ps_if (pt_cmpR op_gt (pv 1) pe_int (nomark _)) (pss_one (ps_expr (pe_bm PySem.F.plainAttrs_list PySem.F.slot_list_extend PySem.F.type_list_extend mt_extend (pv 2) (pa_cons (pe_lc (own := [("rest", 6)]) (g := gName 6) rfl sc_arrangements.nd (pi_lK K (pe_cal (E := Cc.E0) C_arrangements hr pass0 (pa_cons (pv 0) (pa_cons (pe_op op_sub (pv 1) pe_int) pa_nil)) (hn := Nat.le_refl _))) (blkOk_by (own := [("rest", 6)]) (N := ["names", "free", "found", "at", "name", "others", "rest"]) (sc := defScope s_arrangements) (by decide +kernel)) (fun _ _ _ _ _ => (pg_name (i := 6) sc_arrangements.nd rfl (Or.inl rfl))) (fun _ _ _ _ _ => pts_nil) (fun _ _ _ _ _ => (pe_op op_catP (pe_tupP (pa_cons pe_non pa_nil)) (pv 6)))) pa_nil)))) pss_nil)
      (pss_cons (ps_for PassesOwn.never rfl (CcE.pi_enumT K T.b_enumerate (pa_cons (pv 0) pa_nil)) (pg_tK K (n := 2) rfl (pgs_cons (pg_name (i := 3) sc_arrangements.nd rfl (Or.inl rfl)) (pgs_cons (pg_name (i := 4) sc_arrangements.nd rfl (Or.inr rfl)) pgs_nil))) (pss_cons (ps_set (i := 5) sc_arrangements.nd rfl (Or.inl rfl) (pe_op op_catP (pe_slice sl_tupP (pv 0) po_none (po_some (pv 3))) (pe_slice sl_tupP (pv 0) (po_some (pe_op op_add (pv 3) pe_int)) po_none)))
      (pss_one (ps_expr (pe_bm PySem.F.plainAttrs_list PySem.F.slot_list_extend PySem.F.type_list_extend mt_extend (pv 2) (pa_cons (pe_lc (own := [("rest", 6)]) (g := gName 6) rfl sc_arrangements.nd (pi_lK K (pe_cal (E := Cc.E0) C_arrangements hr pass0 (pa_cons (pv 5) (pa_cons (pv 1) pa_nil)) (hn := Nat.le_refl _))) (blkOk_by (own := [("rest", 6)]) (N := ["names", "free", "found", "at", "name", "others", "rest"]) (sc := defScope s_arrangements) (by decide +kernel)) (fun _ _ _ _ _ => (pg_name (i := 6) sc_arrangements.nd rfl (Or.inl rfl))) (fun _ _ _ _ _ => pts_nil) (fun _ _ _ _ _ => (pe_op op_catP (pe_tupP (pa_cons (pv 4) pa_nil)) (pv 6)))) pa_nil))))))
      (pss_one (ps_ret (pv 2))))))),
    (gs_seq (gs_if (gt_and (gt_of (ge_op (ge_cb (ga_cons ge_var ga_nil) rc_len) ge_int r2_eq)) (gt_of (ge_op ge_var ge_int r2_eq))) (gs_ret (GN.ge (gn_lst (ga_cons (ge_tup ga_nil) ga_nil)))) gs_next)
      (gs_seq (gs_own (gn_lst ga_nil))
      (gs_seq (gs_if (gt_of (ge_op ge_var ge_int r2_B)) (gs_ext (GN.ge (gn_lc (gi_list (ge_call (ga_cons ge_var (ga_cons (ge_op ge_var ge_int r2_sub) ga_nil)))) gp_name gt_yes (ge_op (ge_tup (ga_cons ge_non ga_nil)) ge_var r2_catT)))) gs_next)
      (gs_seq (gs_for (gi_enT ge_var) (gp_tup (gps_cons gp_name (gps_cons gp_name gps_nil))) (gs_seq (gs_asg (ge_op (ge_slT ge_var go_none (go_some ge_var)) (ge_slT ge_var (go_some (ge_op ge_var ge_int r2_add)) go_none) r2_catT))
      (gs_ext (GN.ge (gn_lc (gi_list (ge_call (ga_cons ge_var (ga_cons ge_var ga_nil)))) gp_name gt_yes (ge_op (ge_tup (ga_cons ge_var ga_nil)) ge_var r2_catT))))))
      (gs_ret ge_var)))))⟩
def m_all_layouts : List D → M D := defM 1 1
    (sRet (mCall (fun ds => (m_arrangements 13 ds).calm) (mCons (mProp stP m_Store_crates (mVar 0)) (mCons (mOp fSub (mProp stP m_Store_size (mVar 0)) (mCB fLen (mCons (mProp stP m_Store_crates (mVar 0)) mNil))) mNil))))
theorem ok_all_layouts {f : Addr} {fd : FuncData} (F : Fun K "all_layouts" "all_layouts" s_all_layouts f fd) (T : Tx P w K mg C W ea fI) (M_crates : CPrp P w K mg base CX0 1 C "crates" (spC W m_Store_crates)) (M_size : CPrp P w K mg base CX0 1 C "size" (spC W m_Store_size)) (C_arrangements : Cal P w K mg base CX0 14 "arrangements" ["names", "free"] (spC W (m_arrangements 13))) : FnOk P w K mg base CX0 15 f fd ["store"] (spC W m_all_layouts) :=
  ok_defC F sc_all_layouts (by decide) fun cdv A outer s H E hr => ⟨_, (pss_one (ps_ret (pe_cal (E := Cc.E0) C_arrangements hr pass0 (pa_cons (pe_prp (E := Cc.E0) M_crates hr pass0 (pv 0)) (pa_cons (pe_op op_sub (pe_prp (E := Cc.E0) M_size hr pass0 (pv 0)) (pe_callB (lenK K) (by rfl) T.b_len (by decide +kernel) (pa_cons (pe_prp (E := Cc.E0) M_crates hr pass0 (pv 0)) pa_nil))) pa_nil))))),
    (gs_ret (ge_call (ga_cons (ge_prop T.hp ge_var) (ga_cons (ge_op (ge_prop T.hp ge_var) (ge_cb (ga_cons (ge_prop T.hp ge_var) ga_nil) rc_len) r2_sub) ga_nil))))⟩
def m_is_layout : List D → M D := defM 4 2
    (sSeq (sIf (cOr (cNot (cOf (mIsT "tuple" (mVar 1)))) (cOf (mOp fNe (mCB fLen (mCons (mVar 1) mNil)) (mProp stP m_Store_size (mVar 0))))) (sRet (mC (.bl false))) sNext)
    (sSeq (sAsg 2 (mNew (mLc (iT (mVar 1)) (pName 3) (cOf (mOp fNotN (mVar 3) (mC .non))) (mVar 3) [3])))
    (sRet (mAnd (mCB fAll (mCons (mNew (mLc (iL (mVar 2)) (pName 3) cYes (mIsT "str" (mVar 3)) [3])) mNil)) (mOp fEq (mNew (mCBn fSortD (mCons (mVar 2) mNil))) (mNew (mCBn fList (mCons (mProp stP m_Store_crates (mVar 0)) mNil))))))))
theorem ok_is_layout {f : Addr} {fd : FuncData} (F : Fun K "is_layout" "is_layout" s_is_layout f fd) (T : Tx P w K mg C W ea fI) (M_crates : CPrp P w K mg base CX0 1 C "crates" (spC W m_Store_crates)) (M_size : CPrp P w K mg base CX0 1 C "size" (spC W m_Store_size)) : FnOk P w K mg base CX0 3 f fd ["store", "value"] (spC W m_is_layout) :=
  ok_defC F sc_is_layout (by decide) fun cdv A outer s H E hr => ⟨_, (pss_cons (ps_if (PW.pt (pw_or (pt_not (pt_val (pe_callB (isiK K) (by rfl) T.b_isinstance (by decide +kernel) (pa_cons (pv 1) (pa_cons (pe_ty (T := "tuple") T.b_tuple) pa_nil))))) (pw_or1 (pt_cmpR (neK K hr.units) (pe_callB (lenK K) (by rfl) T.b_len (by decide +kernel) (pa_cons (pv 1) pa_nil)) (pe_prp (E := Cc.E0) M_size hr pass0 (pv 0)) (nomark _))))) (pss_one (ps_ret pe_bl)) pss_nil)
      (pss_cons (ps_setLc (i := 2) (own := [("name", 3)]) (g := gName 3) rfl sc_is_layout.nd rfl rfl (sw_true rfl rfl rfl (by decide +kernel)) (pi_tK K (pv 1)) (blkOk_by (own := [("name", 3)]) (N := ["store", "value", "names", "name"]) (sc := defScope s_is_layout) (by decide +kernel)) (fun _ _ _ _ _ => (pg_name (i := 3) sc_is_layout.nd rfl (Or.inl rfl))) (fun _ _ _ _ _ => (pts_one (pt_cmpR op_notN (pv 3) pe_non (nomark _)))) (fun _ _ _ _ _ => (pv 3)))
      (pss_one (ps_ret (pe_and (pe_callB (allK K) (by rfl) T.b_all (by decide +kernel) (pa_cons (pe_lc (own := [("name", 3)]) (g := gName 3) rfl sc_is_layout.nd (pi_lK K (pv 2)) (blkOk_by (own := [("name", 3)]) (N := ["store", "value", "names", "name"]) (sc := defScope s_is_layout) (by decide +kernel)) (fun _ _ _ _ _ => (pg_name (i := 3) sc_is_layout.nd rfl (Or.inl rfl))) (fun _ _ _ _ _ => pts_nil) (fun _ _ _ _ _ => (pe_callB (isiK K) (by rfl) T.b_isinstance (by decide +kernel) (pa_cons (pv 3) (pa_cons (pe_ty (T := "str") T.b_str) pa_nil))))) pa_nil)) (pe_one (pe_cmpR (eqK K hr.units) (pe_callB (CcS.sortD hr.units65) (by rfl) T.b_sorted (by decide +kernel) (pa_cons (pv 2) pa_nil)) (pe_callTy (lstK K) (by rfl) T.b_list (by decide +kernel) (pa_cons (pe_prp (E := Cc.E0) M_crates hr pass0 (pv 0)) pa_nil)) (nomark _)))))))),
    (gs_seq (gs_if (gt_or (gt_not (gt_ofB (ge_isT ge_var))) (gt_of (ge_op (ge_cb (ga_cons ge_var ga_nil) rc_len) (ge_prop T.hp ge_var) r2_ne))) (gs_ret ge_bl) gs_next)
      (gs_seq (gs_asg (GN.ge (gn_lc (gi_tup ge_var) gp_name (gt_of (ge_op ge_var ge_non r2_notN)) ge_var)))
      (gs_ret (ge_and (ge_cb (ga_cons (GN.ge (gn_lc (gi_list ge_var) gp_name gt_yes (ge_isT ge_var))) ga_nil) rc_all) (ge_op (GN.ge (gn_cb (ga_cons ge_var ga_nil) rc_sortD)) (GN.ge (gn_cb (ga_cons (ge_prop T.hp ge_var) ga_nil) rc_list)) r2_eq)))))⟩
def m_check_layout : List D → M D := defM 2 2
    (sIf (cNot (cOf (mCall (fun ds => (m_is_layout ds).calm) (mCons (mVar 0) (mCons (mVar 1) mNil))))) (sErr "InvalidLayout") sNext)
theorem ok_check_layout {f : Addr} {fd : FuncData} (F : Fun K "check_layout" "check_layout" s_check_layout f fd) (T : Tx P w K mg C W ea fI) (C_is_layout : Cal P w K mg base CX0 3 "is_layout" ["store", "value"] (spC W m_is_layout)) : FnOk P w K mg base (L2.CX P w) 4 f fd ["store", "layout"] (spM W m_check_layout) :=
  ok_defM F sc_check_layout (by decide) fun cdv A outer s H E hr => ⟨_, (pss_one (ps_if (pt_not (pt_val (pe_cal (E := Cc.E0) C_is_layout hr pass0 (pa_cons (pv 0) (pa_cons (pv 1) pa_nil))))) (pss_one (ps_raiseT rfl (takes_of rfl rfl rfl rfl) T.x_InvalidLayout)) pss_nil)),
    (gs_if (gt_not (gt_ofB (ge_call (ga_cons ge_var (ga_cons ge_var ga_nil))))) (gs_err T.ea_InvalidLayout fun _ _ _ _ h => h) gs_next)⟩
def m_check_crate : List D → M D := defM 2 2
    (sIf (cOf (mOp (fIn true) (mVar 1) (mProp stP m_Store_crates (mVar 0)))) (sErr "UnknownCrate") sNext)
theorem ok_check_crate {f : Addr} {fd : FuncData} (F : Fun K "check_crate" "check_crate" s_check_crate f fd) (T : Tx P w K mg C W ea fI) (M_crates : CPrp P w K mg base CX0 1 C "crates" (spC W m_Store_crates)) : FnOk P w K mg base (L2.CX P w) 3 f fd ["store", "name"] (spM W m_check_crate) :=
  ok_defM F sc_check_crate (by decide) fun cdv A outer s H E hr => ⟨_, (pss_one (ps_if (pt_cmpR (niK K) (pv 1) (pe_prp (E := Cc.E0) M_crates hr pass0 (pv 0)) rfl) (pss_one (ps_raiseT rfl (takes_of rfl rfl rfl rfl) T.x_UnknownCrate)) pss_nil)),
    (gs_if (gt_of (ge_op ge_var (ge_prop T.hp ge_var) r2_in)) (gs_err T.ea_UnknownCrate fun _ _ _ _ h => h) gs_next)⟩
def m_has_door : List D → M D := defM 2 2
    (sRet (mCall (fun ds => (m_is_number ds).calm) (mCons (mVar 1) (mCons (mC (.int 0)) (mCons (mOp fSub (mLenI stP m_Store___len__ (mVar 0)) (mC (.int 1))) mNil)))))
theorem ok_has_door {f : Addr} {fd : FuncData} (F : Fun K "has_door" "has_door" s_has_door f fd) (T : Tx P w K mg C W ea fI) (L_Store : LenC P w K mg base 1 C (spC W m_Store___len__)) (C_is_number : Cal P w K mg base CX0 1 "is_number" ["value", "low", "high"] (spC W m_is_number)) : FnOk P w K mg base CX0 3 f fd ["store", "door"] (spC W m_has_door) :=
  ok_defC F sc_has_door (by decide) fun cdv A outer s H E hr => ⟨_, (pss_one (ps_ret (pe_cal (E := Cc.E0) C_is_number hr pass0 (pa_cons (pv 1) (pa_cons pe_int (pa_cons (pe_op op_sub (pe_callB (call_lenI L_Store hr) (by rfl) T.b_len PySem.boot_len (pa_cons (pv 0) pa_nil)) pe_int) pa_nil)))))),
    (gs_ret (ge_call (ga_cons ge_var (ga_cons ge_int (ga_cons (ge_op (ge_lenI T.hp ge_var) ge_int r2_sub) ga_nil)))))⟩
def m_check_door : List D → M D := defM 2 2
    (sIf (cNot (cOf (mCall (fun ds => (m_has_door ds).calm) (mCons (mVar 0) (mCons (mVar 1) mNil))))) (sErr "UnknownDoor") sNext)
theorem ok_check_door {f : Addr} {fd : FuncData} (F : Fun K "check_door" "check_door" s_check_door f fd) (T : Tx P w K mg C W ea fI) (C_has_door : Cal P w K mg base CX0 3 "has_door" ["store", "door"] (spC W m_has_door)) : FnOk P w K mg base (L2.CX P w) 4 f fd ["store", "door"] (spM W m_check_door) :=
  ok_defM F sc_check_door (by decide) fun cdv A outer s H E hr => ⟨_, (pss_one (ps_if (pt_not (pt_val (pe_cal (E := Cc.E0) C_has_door hr pass0 (pa_cons (pv 0) (pa_cons (pv 1) pa_nil))))) (pss_one (ps_raiseT rfl (takes_of rfl rfl rfl rfl) T.x_UnknownDoor)) pss_nil)),
    (gs_if (gt_not (gt_ofB (ge_call (ga_cons ge_var (ga_cons ge_var ga_nil))))) (gs_err T.ea_UnknownDoor fun _ _ _ _ h => h) gs_next)⟩
def m_Store_places_of : List D → M D := defM 2 2
    (sSeq (sExpr (mCall m_check_door (mCons (mVar 0) (mCons (mVar 1) mNil))))
    (sRet (mOp fIx (mFld stP "_places" (mVar 0)) (mVar 1))))
theorem ok_Store_places_of {f : Addr} {fd : FuncData} (F : Fun K "places_of" "Store.places_of" s_Store_places_of f fd) (T : Tx P w K mg C W ea fI) (C_check_door : Cal P w K mg base (L2.CX P w) 4 "check_door" ["store", "door"] (spM W m_check_door)) : FnOk P w K mg base (L2.CX P w) 5 f fd ["self", "door"] (spM W m_Store_places_of) :=
  ok_defM F sc_Store_places_of (by decide) fun cdv A outer s H E hr => ⟨_, (pss_cons (ps_expr (pe_calS C_check_door hr (takes_of rfl rfl rfl rfl) (pa_cons (pv 0) (pa_cons (pv 1) pa_nil))))
      (pss_one (ps_ret (pe_ix (ixA K) (pe_fK K (pv 0)) (pv 1) (fun _ _ => rfl))))),
    (gs_seq (gs_expr (ge_calS (fun _ => rfl) (ga_cons ge_var (ga_cons ge_var ga_nil))))
      (gs_ret (ge_op (ge_fld T.hp T.cls T.n_places ge_var) ge_var r2_ix)))⟩
def m_contents : List D → M D := defM 4 3
    (sRet (mCB fTup (mCons (mNew (mLc (iT (mMeth stP "places_of" m_Store_places_of (mVar 0) (mCons (mVar 2) mNil))) (pName 3) cYes (mOp fIx (mVar 1) (mVar 3)) [3])) mNil)))
theorem ok_contents {f : Addr} {fd : FuncData} (F : Fun K "contents" "contents" s_contents f fd) (T : Tx P w K mg C W ea fI) (M_places_of : CMet P w K mg base (L2.CX P w) 5 C "places_of" ["self", "door"] (spM W m_Store_places_of)) : FnOk P w K mg base (L2.CX P w) 6 f fd ["store", "layout", "door"] (spM W m_contents) :=
  ok_defM F sc_contents (by decide) fun cdv A outer s H E hr => ⟨_, (pss_one (ps_ret (pe_callTy (tupPK K) (by rfl) T.b_tuple (by decide +kernel) (pa_cons (pe_lc (own := [("place", 3)]) (g := gName 3) rfl sc_contents.nd (pi_tK K (pe_met M_places_of hr (passes_call (takes_of rfl rfl rfl rfl) fun _ _ _ _ h => h) (pv 0) (pa_cons (pv 2) pa_nil))) (blkOk_by (own := [("place", 3)]) (N := ["store", "layout", "door", "place"]) (sc := defScope s_contents) (by decide +kernel)) (fun _ _ _ _ _ => (pg_name (i := 3) sc_contents.nd rfl (Or.inl rfl))) (fun _ _ _ _ _ => pts_nil) (fun _ _ _ _ _ => (pe_ix (ixA K) (pv 1) (pv 3) (fun _ _ => rfl)))) pa_nil)))),
    (gs_ret (ge_cb (ga_cons (GN.ge (gn_lc (gi_tup (ge_methM T.hp ge_var (ga_cons ge_var ga_nil))) gp_name gt_yes (ge_op ge_var ge_var r2_ix))) ga_nil) rc_tup))⟩
def m_told_apart : List D → M D := defM 7 3
    (sSeq (sDnNew PW.w 3)
    (sSeq (sTell PW.w 3 4 5 (iL (mVar 1)) (mCB fTup (mCons (mNew (mLc (iT (mVar 2)) (pName 6) cYes (mCall (fun ds => (m_contents ds).calm) (mCons (mVar 0) (mCons (mVar 4) (mCons (mVar 6) mNil)))) [6])) mNil)))
    (sRet (mNew (mDnVals PW.w (mVar 3))))))
theorem ok_told_apart {f : Addr} {fd : FuncData} (F : Fun K "told_apart" "told_apart" s_told_apart f fd) (T : Tx P w K mg C W ea fI) (D_contents : Cal P w K mg base CX0 6 "contents" ["store", "layout", "door"] (spC W m_contents)) : FnOk P w K mg base (L2.CX P w) 7 f fd ["store", "left", "doors"] (spM W m_told_apart) :=
  ok_defM F sc_told_apart (by decide) fun cdv A outer s H E hr => ⟨_, (pss_cons (ps_set (i := 3) sc_told_apart.nd rfl (Or.inl rfl) pe_dnNew)
      (pss_cons (ps_for (passes_of rfl) rfl (pi_lK K (pv 1)) (pg_name (i := 4) sc_told_apart.nd rfl (Or.inr rfl)) (pss_cons (ps_set (i := 5) sc_told_apart.nd rfl (Or.inl rfl) (pe_callTy (tupPK K) (by rfl) T.b_tuple (by decide +kernel) (pa_cons (pe_lc (own := [("door", 6)]) (g := gName 6) rfl sc_told_apart.nd (pi_tK K (pv 2)) (blkOk_by (own := [("door", 6)]) (N := ["store", "left", "doors", "groups", "layout", "seen", "door"]) (sc := defScope s_told_apart) (by decide +kernel)) (fun _ _ _ _ _ => (pg_name (i := 6) sc_told_apart.nd rfl (Or.inl rfl))) (fun _ _ _ _ _ => pts_nil) (fun _ _ _ _ _ => (pe_cal (E := Cc.E0) D_contents hr pass0 (pa_cons (pv 0) (pa_cons (pv 4) (pa_cons (pv 6) pa_nil)))))) pa_nil))) (pss_one (ps_expr (pe_bm PySem.F.plainAttrs_list PySem.F.slot_list_append PySem.F.type_list_append mt_append (pe_bmD PySem.F.slot_dict_setdefault PySem.F.type_dict_setdefault (mt_dnSd T.hw (room9 hr.units65)) (pv 3) (pa_cons (pv 5) (pa_cons (pe_lst pa_nil) pa_nil))) (pa_cons (pv 4) pa_nil))))))
      (pss_one (ps_ret (pe_dnVals rfl (pv 3) (by rfl) T.b_list (by decide +kernel)))))),
    (gs_seq gs_dnNew
      (gs_seq (gs_tell (ig := 3) (il := 4) (is := 5) (gi_list ge_var) (ge_cb (ga_cons (GN.ge (gn_lc (gi_tup ge_var) gp_name gt_yes (ge_call (ga_cons ge_var (ga_cons ge_var (ga_cons ge_var ga_nil)))))) ga_nil) rc_tup))
      (gs_ret (GN.ge (gn_dnVals ge_var)))))⟩
def m_check_question : List D → M D := defM 7 4
    (sSeq (sExpr (mCall m_check_layout (mCons (mVar 0) (mCons (mVar 1) mNil))))
    (sSeq (sExpr (mCall m_check_crate (mCons (mVar 0) (mCons (mVar 2) mNil))))
    (sSeq (sIf (cOf (mOp fEq (mCB fLen (mCons (mVar 3) mNil)) (mC (.int 0)))) (sErrF "InvalidRows" (mC (.int 0))) sNext)
    (sFor (iEnT (mVar 3)) (pTup [(pName 4), (pName 5)]) (sIf (cOr (cOf (mOp fGe (mVar 4) (mC (.int 3)))) (cNot (cOf (mCB fAll (mCons (mNew (mLc (iT (mVar 5)) (pName 6) cYes (mCall (fun ds => (m_has_door ds).calm) (mCons (mVar 0) (mCons (mVar 6) mNil))) [6])) mNil))))) (sErrF "InvalidRows" (mVar 4)) sNext)))))
theorem ok_check_question {f : Addr} {fd : FuncData} (F : Fun K "check_question" "check_question" s_check_question f fd) (T : Tx P w K mg C W ea fI) (C_check_crate : Cal P w K mg base (L2.CX P w) 3 "check_crate" ["store", "name"] (spM W m_check_crate)) (C_check_layout : Cal P w K mg base (L2.CX P w) 4 "check_layout" ["store", "layout"] (spM W m_check_layout)) (C_has_door : Cal P w K mg base CX0 3 "has_door" ["store", "door"] (spC W m_has_door)) : FnOk P w K mg base (L2.CX P w) 5 f fd ["store", "layout", "name", "rows"] (spM W m_check_question) :=
  ok_defM F sc_check_question (by decide) fun cdv A outer s H E hr => ⟨_, (pss_cons (ps_expr (pe_calS C_check_layout hr (takes_of rfl rfl rfl rfl) (pa_cons (pv 0) (pa_cons (pv 1) pa_nil))))
      (pss_cons (ps_expr (pe_calS C_check_crate hr (takes_of rfl rfl rfl rfl) (pa_cons (pv 0) (pa_cons (pv 2) pa_nil))))
      (pss_cons (ps_if (pt_cmpR (eqK K hr.units) (pe_callB (lenK K) (by rfl) T.b_len (by decide +kernel) (pa_cons (pv 3) pa_nil)) pe_int (nomark _)) (pss_one (ps_raiseF rfl (takes_of rfl rfl rfl rfl) T.x_InvalidRows hr (by decide) (pa_cons pe_int pa_nil))) pss_nil)
      (pss_one (ps_for (passes_of rfl) rfl (CcE.pi_enumT K T.b_enumerate (pa_cons (pv 3) pa_nil)) (pg_tK K (n := 2) rfl (pgs_cons (pg_name (i := 4) sc_check_question.nd rfl (Or.inl rfl)) (pgs_cons (pg_name (i := 5) sc_check_question.nd rfl (Or.inl rfl)) pgs_nil))) (pss_one (ps_if (PW.pt (pw_or (pt_cmpR op_ge (pv 4) (pe_gc T.m_MOST_PEOPLE) (nomark _)) (pw_or1 (pt_not (pt_val (pe_callB (allK K) (by rfl) T.b_all (by decide +kernel) (pa_cons (pe_lc (own := [("door", 6)]) (g := gName 6) rfl sc_check_question.nd (pi_tK K (pv 5)) (blkOk_by (own := [("door", 6)]) (N := ["store", "layout", "name", "rows", "at", "row", "door"]) (sc := defScope s_check_question) (by decide +kernel)) (fun _ _ _ _ _ => (pg_name (i := 6) sc_check_question.nd rfl (Or.inl rfl))) (fun _ _ _ _ _ => pts_nil) (fun _ _ _ _ _ => (pe_cal (E := Cc.E0) C_has_door hr pass0 (pa_cons (pv 0) (pa_cons (pv 6) pa_nil))))) pa_nil))))))) (pss_one (ps_raiseF rfl (takes_of rfl rfl rfl rfl) T.x_InvalidRows hr (by decide) (pa_cons (pv 4) pa_nil))) pss_nil))))))),
    (gs_seq (gs_expr (ge_calS (fun _ => rfl) (ga_cons ge_var (ga_cons ge_var ga_nil))))
      (gs_seq (gs_expr (ge_calS (fun _ => rfl) (ga_cons ge_var (ga_cons ge_var ga_nil))))
      (gs_seq (gs_if (gt_of (ge_op (ge_cb (ga_cons ge_var ga_nil) rc_len) ge_int r2_eq)) (gs_errF T.ea_InvalidRows T.ef_InvalidRows (fun _ _ _ _ h => h) ge_int) gs_next)
      (gs_for (gi_enT ge_var) (gp_tup (gps_cons gp_name (gps_cons gp_name gps_nil))) (gs_if (gt_or (gt_of (ge_op ge_var ge_int r2_B)) (gt_not (gt_ofB (ge_cb (ga_cons (GN.ge (gn_lc (gi_tup ge_var) gp_name gt_yes (ge_call (ga_cons ge_var (ga_cons ge_var ga_nil))))) ga_nil) rc_all)))) (gs_errF T.ea_InvalidRows T.ef_InvalidRows (fun _ _ _ _ h => h) ge_var) gs_next)))))⟩
def m_who_know : List D → M D := defM 8 4
    (sSeq (sDnNew PW.w 4)
    (sSeq (sFor (iL (mCall m_told_apart (mCons (mVar 0) (mCons (mVar 1) (mCons (mVar 3) mNil))))) (pName 5) (sSeq (sAsg 7 (mOp fEq (mLenSc (iL (mVar 5)) (pName 6) cYes (mTIdx (mVar 6) (mVar 2)) [6]) (mC (.int 1))))
    (sFor (iL (mVar 5)) (pName 6) (sDnPut PW.w 4 (mVar 6) (mVar 7)))))
    (sRet (mVar 4))))
theorem ok_who_know {f : Addr} {fd : FuncData} (F : Fun K "who_know" "who_know" s_who_know f fd) (T : Tx P w K mg C W ea fI) (C_told_apart : Cal P w K mg base (L2.CX P w) 7 "told_apart" ["store", "left", "doors"] (spM W m_told_apart)) : FnOk P w K mg base (L2.CX P w) 8 f fd ["store", "left", "name", "row"] (spM W m_who_know) :=
  ok_defM F sc_who_know (by decide) fun cdv A outer s H E hr => ⟨_, (pss_cons (ps_set (i := 4) sc_who_know.nd rfl (Or.inl rfl) pe_dnNew)
      (pss_cons (ps_for (passes_of rfl) rfl (pi_lK K (pe_calS C_told_apart hr (takes_of rfl rfl rfl rfl) (pa_cons (pv 0) (pa_cons (pv 1) (pa_cons (pv 3) pa_nil))))) (pg_name (i := 5) sc_who_know.nd rfl (Or.inl rfl)) (pss_cons (ps_set (i := 7) sc_who_know.nd rfl (Or.inl rfl) (pe_cmpR (eqK K hr.units) (pe_callB (crLenSet rfl) (by rfl) T.b_len PySem.boot_len (pa_cons (pe_scI (own := [("layout", 6)]) (g := gName 6) (pi_lK K (pv 5)) (blkOk_by (own := [("layout", 6)]) (N := ["store", "left", "name", "row", "knowing", "same", "layout", "known"]) (sc := defScope s_who_know) (by decide +kernel)) (fun _ _ _ _ _ => (pg_name (i := 6) sc_who_know.nd rfl (Or.inl rfl))) (fun _ _ _ _ _ => pts_nil) (fun _ _ _ _ _ => (pe_bmP PySem.F.slot_tuple_index PySem.F.type_tuple_index (mt_idxT (K := K)) (pv 6) (pa_cons (pv 2) pa_nil))) rfl sc_who_know.nd) pa_nil)) pe_int (nomark _)))
      (pss_one (ps_for (passes_of rfl) rfl (pi_lK K (pv 5)) (pg_name (i := 6) sc_who_know.nd rfl (Or.inl rfl)) (pss_one (ps_asg (pv 7) (pg_sub (pv 4) (pv 6) (set_dn T.hw (room9 hr.units65)))))))))
      (pss_one (ps_ret (pv 4))))),
    (gs_seq gs_dnNew
      (gs_seq (gs_for (gi_list (ge_calS (fun _ => rfl) (ga_cons ge_var (ga_cons ge_var (ga_cons ge_var ga_nil))))) gp_name (gs_seq (gs_asg (ge_op (ge_lenSc (gi_list ge_var) gp_name gt_yes (ge_tidx ge_var ge_var)) ge_int r2_eq))
      (gs_for (gi_list ge_var) gp_name (gs_dnPut (i := 4) ge_var ge_var))))
      (gs_ret ge_var)))⟩
def m_one_round : List D → M D := defM 10 5
    (sSeq (sAsg 5 (mTup mNil))
    (sSeq (sFor (iT (mVar 3)) (pName 6) (sSeq (sAsg 7 (mCall m_who_know (mCons (mVar 0) (mCons (mVar 4) (mCons (mVar 2) (mCons (mVar 6) mNil))))))
    (sSeq (sAsg 8 (mOp (fDnGet PW.w) (mVar 7) (mVar 1)))
    (sSeq (sAsg 4 (mNew (mLc (iL (mVar 4)) (pName 9) (cOf (mOp fEq (mOp (fDnGet PW.w) (mVar 7) (mVar 9)) (mVar 8))) (mVar 9) [9])))
    (sAugT 5 fCatT (mTup (mCons (mVar 8) mNil)))))))
    (sRet (mTup (mCons (mVar 5) (mCons (mVar 4) mNil))))))
theorem ok_one_round {f : Addr} {fd : FuncData} (F : Fun K "one_round" "one_round" s_one_round f fd) (T : Tx P w K mg C W ea fI) (C_who_know : Cal P w K mg base (L2.CX P w) 8 "who_know" ["store", "left", "name", "row"] (spM W m_who_know)) : FnOk P w K mg base (L2.CX P w) 9 f fd ["store", "layout", "name", "rows", "left"] (spM W m_one_round) :=
  ok_defM F sc_one_round (by decide) fun cdv A outer s H E hr => ⟨_, (pss_cons (ps_set (i := 5) sc_one_round.nd rfl (Or.inl rfl) (pe_tupP pa_nil))
      (pss_cons (ps_for (passes_of rfl) rfl (pi_tK K (pv 3)) (pg_name (i := 6) sc_one_round.nd rfl (Or.inl rfl)) (pss_cons (ps_set (i := 7) sc_one_round.nd rfl (Or.inr rfl) (pe_calS C_who_know hr (takes_of rfl rfl rfl rfl) (pa_cons (pv 0) (pa_cons (pv 4) (pa_cons (pv 2) (pa_cons (pv 6) pa_nil))))))
      (pss_cons (ps_set (i := 8) sc_one_round.nd rfl (Or.inr rfl) (pe_dnIx T.hw (room9 hr.units65) (pv 7) (pv 1) (fun _ _ => rfl)))
      (pss_cons (ps_setLc (i := 4) (own := [("other", 9)]) (g := gName 9) rfl sc_one_round.nd rfl rfl (sw_true rfl rfl rfl (by decide +kernel)) (pi_lK K (pv 4)) (blkOk_by (own := [("other", 9)]) (N := ["store", "layout", "name", "rows", "left", "said", "row", "knowing", "word", "other"]) (sc := defScope s_one_round) (by decide +kernel)) (fun _ _ _ _ _ => (pg_name (i := 9) sc_one_round.nd rfl (Or.inl rfl))) (fun _ _ _ _ _ => (pts_one (pt_cmpR (eqK K hr.units) (pe_dnIx T.hw (room9 hr.units65) (pv 7) (pv 9) (fun _ _ => rfl)) (pv 8) (nomark _)))) (fun _ _ _ _ _ => (pv 9)))
      (pss_one (ps_aug (i := 5) sc_one_round.nd rfl (Or.inl rfl) (pe_tupP (pa_cons (pv 8) pa_nil)) ip_catP))))))
      (pss_one (ps_ret (pe_tupP (pa_cons (pv 5) (pa_cons (pv 4) pa_nil))))))),
    (gs_seq (gs_asg (ge_tup ga_nil))
      (gs_seq (gs_for (gi_tup ge_var) gp_name (gs_seq (gs_asg (ge_calS (fun _ => rfl) (ga_cons ge_var (ga_cons ge_var (ga_cons ge_var (ga_cons ge_var ga_nil))))))
      (gs_seq (gs_asg (ge_op ge_var ge_var r2_dnGet))
      (gs_seq (gs_asg (GN.ge (gn_lc (gi_list ge_var) gp_name (gt_of (ge_op (ge_op ge_var ge_var r2_dnGet) ge_var r2_eq)) ge_var)))
      (gs_augT (ge_tup (ga_cons ge_var ga_nil)) r2_catT)))))
      (gs_ret (ge_tup (ga_cons ge_var (ga_cons ge_var ga_nil))))))⟩
def m_spoken : List D → M D := defM 8 4
    (sSeq (sExpr (mCall m_check_question (mCons (mVar 0) (mCons (mVar 1) (mCons (mVar 2) (mCons (mVar 3) mNil))))))
    (sSeq (sAsg 4 (mTup mNil))
    (sSeq (sPar 5 6 (mCons (mNew (mLst mNil)) (mCons (mCall (fun ds => (m_all_layouts ds).calm) (mCons (mVar 0) mNil)) mNil)))
    (sSeq (whGo (cOf (mOp fNe (mCB fLen (mCons (mVar 5) mNil)) (mCB fLen (mCons (mVar 6) mNil)))) (sSeq (sAsg 5 (mVar 6))
    (sSeq (sPat (pTup [(pName 7), (pName 6)]) (mCall m_one_round (mCons (mVar 0) (mCons (mVar 1) (mCons (mVar 2) (mCons (mVar 3) (mCons (mVar 6) mNil)))))))
    (sAugT 4 fCatT (mVar 7)))) 1000)
    (sRet (mTup (mCons (mVar 4) (mCons (mCB fLen (mCons (mVar 6) mNil)) mNil))))))))
theorem ok_spoken {f : Addr} {fd : FuncData} (F : Fun K "spoken" "spoken" s_spoken f fd) (T : Tx P w K mg C W ea fI) (C_all_layouts : Cal P w K mg base CX0 15 "all_layouts" ["store"] (spC W m_all_layouts)) (C_check_question : Cal P w K mg base (L2.CX P w) 5 "check_question" ["store", "layout", "name", "rows"] (spM W m_check_question)) (C_one_round : Cal P w K mg base (L2.CX P w) 9 "one_round" ["store", "layout", "name", "rows", "left"] (spM W m_one_round)) : FnOk P w K mg base (L2.CX P w) 16 f fd ["store", "layout", "name", "rows"] (spM W m_spoken) :=
  ok_defM F sc_spoken (by decide) fun cdv A outer s H E hr => ⟨_, (pss_cons (ps_expr (pe_calS C_check_question hr (takes_of rfl rfl rfl rfl) (pa_cons (pv 0) (pa_cons (pv 1) (pa_cons (pv 2) (pa_cons (pv 3) pa_nil))))))
      (pss_cons (ps_set (i := 4) sc_spoken.nd rfl (Or.inl rfl) (pe_tupP pa_nil))
      (pss_cons (ps_par (i := 5) (j := 6) rfl sc_spoken.nd rfl rfl (by decide) rfl rfl (pa_cons (pe_lst pa_nil) (pa_cons (pe_cal (E := Cc.E0) C_all_layouts hr pass0 (pa_cons (pv 0) pa_nil)) pa_nil)) (by rfl))
      (pss_cons (ps_while (passes_of rfl) (pt_cmpR (neK K hr.units) (pe_callB (lenK K) (by rfl) T.b_len (by decide +kernel) (pa_cons (pv 5) pa_nil)) (pe_callB (lenK K) (by rfl) T.b_len (by decide +kernel) (pa_cons (pv 6) pa_nil)) (nomark _)) (pss_cons (ps_set (i := 5) sc_spoken.nd rfl (Or.inl rfl) (pv 6))
      (pss_cons (ps_asg (pe_calS C_one_round hr (takes_of rfl rfl rfl rfl) (pa_cons (pv 0) (pa_cons (pv 1) (pa_cons (pv 2) (pa_cons (pv 3) (pa_cons (pv 6) pa_nil)))))) (pg_tK K (n := 2) rfl (pgs_cons (pg_name (i := 7) sc_spoken.nd rfl (Or.inl rfl)) (pgs_cons (pg_name (i := 6) sc_spoken.nd rfl (Or.inl rfl)) pgs_nil))))
      (pss_one (ps_aug (i := 4) sc_spoken.nd rfl (Or.inl rfl) (pv 7) ip_catP)))))
      (pss_one (ps_ret (pe_tupP (pa_cons (pv 4) (pa_cons (pe_callB (lenK K) (by rfl) T.b_len (by decide +kernel) (pa_cons (pv 6) pa_nil)) pa_nil))))))))),
    (gs_seq (gs_expr (ge_calS (fun _ => rfl) (ga_cons ge_var (ga_cons ge_var (ga_cons ge_var (ga_cons ge_var ga_nil))))))
      (gs_seq (gs_asg (ge_tup ga_nil))
      (gs_seq (gs_par (ga_cons (GN.ge (gn_lst ga_nil)) (ga_cons (ge_call (ga_cons ge_var ga_nil)) ga_nil)))
      (gs_seq (gs_while (n := 1000) (gt_of (ge_op (ge_cb (ga_cons ge_var ga_nil) rc_len) (ge_cb (ga_cons ge_var ga_nil) rc_len) r2_ne)) (gs_seq (gs_asg ge_var)
      (gs_seq (gs_pat (ge_calS (fun _ => rfl) (ga_cons ge_var (ga_cons ge_var (ga_cons ge_var (ga_cons ge_var (ga_cons ge_var ga_nil)))))) (gp_tup (gps_cons gp_name (gps_cons gp_name gps_nil))))
      (gs_augT ge_var r2_catT))))
      (gs_ret (ge_tup (ga_cons ge_var (ga_cons (ge_cb (ga_cons ge_var ga_nil) rc_len) ga_nil))))))))⟩
def m_first_to_know : List D → M D := defM 7 4
    (sSeq (sPat (pTup [(pName 4), (pName 5)]) (mCall m_spoken (mCons (mVar 0) (mCons (mVar 1) (mCons (mVar 2) (mCons (mVar 3) mNil))))))
    (sSeq (sIf (cOf (mOp (fIn true) (mC (.bl true)) (mVar 4))) (sRet (mC .non)) sNext)
    (sSeq (sAsg 6 (mTIdx (mVar 4) (mC (.bl true))))
    (sRet (mTup (mCons (mVar 6) (mCons (mOp fMod (mVar 6) (mCB fLen (mCons (mVar 3) mNil))) mNil)))))))
theorem ok_first_to_know {f : Addr} {fd : FuncData} (F : Fun K "first_to_know" "first_to_know" s_first_to_know f fd) (T : Tx P w K mg C W ea fI) (C_spoken : Cal P w K mg base (L2.CX P w) 16 "spoken" ["store", "layout", "name", "rows"] (spM W m_spoken)) : FnOk P w K mg base (L2.CX P w) 17 f fd ["store", "layout", "name", "rows"] (spM W m_first_to_know) :=
  ok_defM F sc_first_to_know (by decide) fun cdv A outer s H E hr => ⟨_, (pss_cons (ps_asg (pe_calS C_spoken hr (takes_of rfl rfl rfl rfl) (pa_cons (pv 0) (pa_cons (pv 1) (pa_cons (pv 2) (pa_cons (pv 3) pa_nil))))) (pg_tK K (n := 2) rfl (pgs_cons (pg_name (i := 4) sc_first_to_know.nd rfl (Or.inl rfl)) (pgs_cons (pg_name (i := 5) sc_first_to_know.nd rfl (Or.inl rfl)) pgs_nil))))
      (pss_cons (ps_if (pt_cmpR (niK K) pe_bl (pv 4) rfl) (pss_one (ps_ret pe_non)) pss_nil)
      (pss_cons (ps_set (i := 6) sc_first_to_know.nd rfl (Or.inl rfl) (pe_bmP PySem.F.slot_tuple_index PySem.F.type_tuple_index (mt_idxT (K := K)) (pv 4) (pa_cons pe_bl pa_nil)))
      (pss_one (ps_ret (pe_tupP (pa_cons (pv 6) (pa_cons (pe_op op_mod (pv 6) (pe_callB (lenK K) (by rfl) T.b_len (by decide +kernel) (pa_cons (pv 3) pa_nil))) pa_nil)))))))),
    (gs_seq (gs_pat (ge_calS (fun _ => rfl) (ga_cons ge_var (ga_cons ge_var (ga_cons ge_var (ga_cons ge_var ga_nil))))) (gp_tup (gps_cons gp_name (gps_cons gp_name gps_nil))))
      (gs_seq (gs_if (gt_of (ge_op ge_bl ge_var r2_in)) (gs_ret ge_non) gs_next)
      (gs_seq (gs_asg (ge_tidx ge_var ge_bl))
      (gs_ret (ge_tup (ga_cons ge_var (ga_cons (ge_op ge_var (ge_cb (ga_cons ge_var ga_nil) rc_len) r2_mod) ga_nil)))))))⟩
def m_knows_first : List D → M D := defM 7 5
    (sSeq (sPat (pTup [(pName 5), (pName 6)]) (mCall m_one_round (mCons (mVar 0) (mCons (mVar 1) (mCons (mVar 2) (mCons (mOp fCatT (mVar 3) (mTup (mCons (mVar 4) mNil))) (mCons (mCall (fun ds => (m_all_layouts ds).calm) (mCons (mVar 0) mNil)) mNil)))))))
    (sRet (mOp fIx (mVar 5) (mUn fNeg (mC (.int 1))))))
theorem ok_knows_first {f : Addr} {fd : FuncData} (F : Fun K "knows_first" "knows_first" s_knows_first f fd) (T : Tx P w K mg C W ea fI) (C_all_layouts : Cal P w K mg base CX0 15 "all_layouts" ["store"] (spC W m_all_layouts)) (C_one_round : Cal P w K mg base (L2.CX P w) 9 "one_round" ["store", "layout", "name", "rows", "left"] (spM W m_one_round)) : FnOk P w K mg base (L2.CX P w) 16 f fd ["store", "layout", "name", "ahead", "row"] (spM W m_knows_first) :=
  ok_defM F sc_knows_first (by decide) fun cdv A outer s H E hr => ⟨_, (pss_cons (ps_asg (pe_calS C_one_round hr (takes_of rfl rfl rfl rfl) (pa_cons (pv 0) (pa_cons (pv 1) (pa_cons (pv 2) (pa_cons (pe_op op_catP (pv 3) (pe_tupP (pa_cons (pv 4) pa_nil))) (pa_cons (pe_cal (E := Cc.E0) C_all_layouts hr pass0 (pa_cons (pv 0) pa_nil)) pa_nil)))))) (pg_tK K (n := 2) rfl (pgs_cons (pg_name (i := 5) sc_knows_first.nd rfl (Or.inl rfl)) (pgs_cons (pg_name (i := 6) sc_knows_first.nd rfl (Or.inl rfl)) pgs_nil))))
      (pss_one (ps_ret (pe_ix (ixA K) (pv 5) (pe_un un_neg pe_int) (fun _ _ => rfl))))),
    (gs_seq (gs_pat (ge_calS (fun _ => rfl) (ga_cons ge_var (ga_cons ge_var (ga_cons ge_var (ga_cons (ge_op ge_var (ge_tup (ga_cons ge_var ga_nil)) r2_catT) (ga_cons (ge_call (ga_cons ge_var ga_nil)) ga_nil)))))) (gp_tup (gps_cons gp_name (gps_cons gp_name gps_nil))))
      (gs_ret (ge_op ge_var (ge_un ge_int r1_neg) r2_ix)))⟩
def m_needed_doors : List D → M D := defM 8 5
    (sSeq (sExpr (mCall m_check_question (mCons (mVar 0) (mCons (mVar 1) (mCons (mVar 2) (mCons (mVar 3) mNil))))))
    (sSeq (sExpr (mCall m_check_number (mCons (mVar 4) (mCons (mC (.int 0)) (mCons (mOp fSub (mCB fLen (mCons (mVar 3) mNil)) (mC (.int 1))) mNil)))))
    (sSeq (sAsg 5 (mCall (fun ds => (m_subsets 13 ds).calm) (mCons (mPt (rg1 (mLenI stP m_Store___len__ (mVar 0)))) mNil)))
    (sSeq (sAsg 6 (mNew (mLc (iL (mVar 5)) (pName 7) (cOf (mCall (fun ds => (m_knows_first ds).calm) (mCons (mVar 0) (mCons (mVar 1) (mCons (mVar 2) (mCons (mSlT (mVar 3) oNone (oSome (mVar 4))) (mCons (mOp fCatT (mOp fIx (mVar 3) (mVar 4)) (mVar 7)) mNil))))))) (mVar 7) [7])))
    (sRet (mMinK m_length_and_items (mVar 6)))))))
theorem ok_needed_doors {f : Addr} {fd : FuncData} (F : Fun K "needed_doors" "needed_doors" s_needed_doors f fd) (T : Tx P w K mg C W ea fI) (L_Store : LenC P w K mg base 1 C (spC W m_Store___len__)) (D_knows_first : Cal P w K mg base CX0 16 "knows_first" ["store", "layout", "name", "ahead", "row"] (spC W m_knows_first)) (C_check_number : Cal P w K mg base (L2.CX P w) 2 "check_number" ["value", "low", "high"] (spM W m_check_number)) (C_check_question : Cal P w K mg base (L2.CX P w) 5 "check_question" ["store", "layout", "name", "rows"] (spM W m_check_question)) (C_length_and_items : Cal P w K mg base CX0 1 "length_and_items" ["chosen"] (spC W m_length_and_items)) (C_subsets : Cal P w K mg base CX0 14 "subsets" ["parts"] (spC W (m_subsets 13))) : FnOk P w K mg base (L2.CX P w) 17 f fd ["store", "layout", "name", "rows", "person"] (spM W m_needed_doors) :=
  ok_defM F sc_needed_doors (by decide) fun cdv A outer s H E hr => ⟨_, (pss_cons (ps_expr (pe_calS C_check_question hr (takes_of rfl rfl rfl rfl) (pa_cons (pv 0) (pa_cons (pv 1) (pa_cons (pv 2) (pa_cons (pv 3) pa_nil))))))
      (pss_cons (ps_expr (pe_calS C_check_number hr (takes_of rfl rfl rfl rfl) (pa_cons (pv 4) (pa_cons pe_int (pa_cons (pe_op op_sub (pe_callB (lenK K) (by rfl) T.b_len (by decide +kernel) (pa_cons (pv 3) pa_nil)) pe_int) pa_nil)))))
      (pss_cons (ps_set (i := 5) sc_needed_doors.nd rfl (Or.inl rfl) (pe_cal (E := Cc.E0) C_subsets hr pass0 (pa_cons (pe_tupRgP rfl (by rfl) T.b_tuple (prg_1 (by rfl) T.b_range (pe_callB (call_lenI L_Store hr) (by rfl) T.b_len PySem.boot_len (pa_cons (pv 0) pa_nil)))) pa_nil)))
      (pss_cons (ps_setLc (i := 6) (own := [("doors", 7)]) (g := gName 7) rfl sc_needed_doors.nd rfl rfl (sw_true rfl rfl rfl (by decide +kernel)) (pi_lK K (pv 5)) (blkOk_by (own := [("doors", 7)]) (N := ["store", "layout", "name", "rows", "person", "chosen", "enough", "doors"]) (sc := defScope s_needed_doors) (by decide +kernel)) (fun _ _ _ _ _ => (pg_name (i := 7) sc_needed_doors.nd rfl (Or.inl rfl))) (fun _ _ _ _ _ => (pts_one (pt_val (pe_cal (E := Cc.E0) D_knows_first hr pass0 (pa_cons (pv 0) (pa_cons (pv 1) (pa_cons (pv 2) (pa_cons (pe_slice sl_tupP (pv 3) po_none (po_some (pv 4))) (pa_cons (pe_op op_catP (pe_ix (ixA K) (pv 3) (pv 4) (fun _ _ => rfl)) (pv 7)) pa_nil))))))))) (fun _ _ _ _ _ => (pv 7)))
      (pss_one (ps_ret (pe_minF rfl C_length_and_items hr T.b_min (pa_cons (pv 6) pa_nil) (fun f hf => pk_cons (pe_gc ⟨_, hf, rfl⟩) pk_nil)))))))),
    (gs_seq (gs_expr (ge_calS (fun _ => rfl) (ga_cons ge_var (ga_cons ge_var (ga_cons ge_var (ga_cons ge_var ga_nil))))))
      (gs_seq (gs_expr (ge_calS (fun _ => rfl) (ga_cons ge_var (ga_cons ge_int (ga_cons (ge_op (ge_cb (ga_cons ge_var ga_nil) rc_len) ge_int r2_sub) ga_nil)))))
      (gs_seq (gs_asg (ge_call (ga_cons (ge_tupRg1 (ge_lenI T.hp ge_var)) ga_nil)))
      (gs_seq (gs_asg (GN.ge (gn_lc (gi_list ge_var) gp_name (gt_ofB (ge_call (ga_cons ge_var (ga_cons ge_var (ga_cons ge_var (ga_cons (ge_slT ge_var go_none (go_some ge_var)) (ga_cons (ge_op (ge_op ge_var ge_var r2_ix) ge_var r2_catT) ga_nil))))))) ge_var)))
      (gs_ret (ge_minK ge_var))))))⟩
def m_Store___init__ (C : Addr) : List D → M D := defI 0 C 4 3
    (sSeq (sIf (cNot (cOf (mCall (fun ds => (m_doors_fit ds).calm) (mCons (mVar 1) mNil)))) (sErrF "InvalidStore" (mC (.str "doors"))) sNext)
    (sSeq (sFldS 0 0 stP "_places" (mCall (fun ds => (m_places_behind ds).calm) (mCons (mVar 1) mNil)))
    (sSeq (sFldS 0 0 stP "_size" (mCB fSum (mCons (mNew (mLc (iT (mFld stP "_places" (mVar 0))) (pName 3) cYes (mCB fLen (mCons (mVar 3) mNil)) [3])) mNil)))
    (sSeq (sIf (cNot (cOf (mCall (fun ds => (m_crates_fit ds).calm) (mCons (mVar 2) (mCons (mFld stP "_size" (mVar 0)) mNil))))) (sErrF "InvalidStore" (mC (.str "crates"))) sNext)
    (sSeq (sFldS 0 0 stP "_doors" (mVar 1))
    (sFldS 0 0 stP "_crates" (mVar 2)))))))
theorem ok_Store___init__ {f : Addr} {fd : FuncData} (F : Fun K "__init__" "Store.__init__" s_Store___init__ f fd) (T : Tx P w K mg C W ea fI) (C_crates_fit : Cal P w K mg base CX0 2 "crates_fit" ["crates", "size"] (spC W m_crates_fit)) (C_doors_fit : Cal P w K mg base CX0 3 "doors_fit" ["doors"] (spC W m_doors_fit)) (C_places_behind : Cal P w K mg base CX0 1 "places_behind" ["doors"] (spC W m_places_behind)) : FnOk P w K mg base (L2.CX P w) 4 f fd ["self", "doors", "crates"] (spI W C (m_Store___init__ C)) :=
  ok_defI F sc_Store___init__ (by decide) T.cls0 fun cdv A outer s H E hr => ⟨_, (pss_cons (ps_if (pt_not (pt_val (pe_cal (E := Cc.E0) C_doors_fit hr pass0 (pa_cons (pv 1) pa_nil)))) (pss_one (ps_raiseF rfl (takes_of rfl rfl rfl rfl) T.x_InvalidStore hr (by decide) (pa_cons pe_str pa_nil))) pss_nil)
      (pss_cons (ps_fld (pv 0) (pe_cal (E := Cc.E0) C_places_behind hr pass0 (pa_cons (pv 1) pa_nil)) rfl)
      (pss_cons (ps_fld (pv 0) (pe_callB (sumK K) (by rfl) T.b_sum (by decide +kernel) (pa_cons (pe_lc (own := [("places", 3)]) (g := gName 3) rfl sc_Store___init__.nd (pi_tK K (pe_fK K (pv 0))) (blkOk_by (own := [("places", 3)]) (N := ["self", "doors", "crates", "places"]) (sc := defScope s_Store___init__) (by decide +kernel)) (fun _ _ _ _ _ => (pg_name (i := 3) sc_Store___init__.nd rfl (Or.inl rfl))) (fun _ _ _ _ _ => pts_nil) (fun _ _ _ _ _ => (pe_callB (lenK K) (by rfl) T.b_len (by decide +kernel) (pa_cons (pv 3) pa_nil)))) pa_nil)) rfl)
      (pss_cons (ps_if (pt_not (pt_val (pe_cal (E := Cc.E0) C_crates_fit hr pass0 (pa_cons (pv 2) (pa_cons (pe_fK K (pv 0)) pa_nil))))) (pss_one (ps_raiseF rfl (takes_of rfl rfl rfl rfl) T.x_InvalidStore hr (by decide) (pa_cons pe_str pa_nil))) pss_nil)
      (pss_cons (ps_fld (pv 0) (pv 1) rfl)
      (pss_one (ps_fld (pv 0) (pv 2) rfl))))))),
    (gs_seq (gs_if (gt_not (gt_ofB (ge_call (ga_cons ge_var ga_nil)))) (gs_errF T.ea_InvalidStore T.ef_InvalidStore (fun _ _ _ _ h => h) ge_str) gs_next)
      (gs_seq (gs_fld T.hcp T.cls0 T.cls T.n_places (ge_call (ga_cons ge_var ga_nil)))
      (gs_seq (gs_fld T.hcp T.cls0 T.cls T.n_size (ge_cb (ga_cons (GN.ge (gn_lc (gi_tup (ge_fld T.hp T.cls T.n_places ge_var)) gp_name gt_yes (ge_cb (ga_cons ge_var ga_nil) rc_len))) ga_nil) rc_sum))
      (gs_seq (gs_if (gt_not (gt_ofB (ge_call (ga_cons ge_var (ga_cons (ge_fld T.hp T.cls T.n_size ge_var) ga_nil))))) (gs_errF T.ea_InvalidStore T.ef_InvalidStore (fun _ _ _ _ h => h) ge_str) gs_next)
      (gs_seq (gs_fld T.hcp T.cls0 T.cls T.n_doors ge_var)
      (gs_fld T.hcp T.cls0 T.cls T.n_crates ge_var))))))⟩
end
end
end My

namespace My
open PySem L2 RZ Cc Mi CcK
section
noncomputable section
variable [PW]
variable {P : Program} {w : World} {K : Fg} {mg : Str → Option Value} {base : Heap} {C : Addr} {W : Wd K} {ea fI : Str → Addr}
def m__law_told : M D → M D := defL 2 (fun m => (sSeq (sTry 2 errNames (sAct m) [("InvalidLayout", none, fun p => (sRet (mC (.str "layout")))), ("UnknownCrate", none, fun p => (sRet (mC (.str "crate")))), ("InvalidRows", (some 1), fun p => (sRet (mTup (mCons (mC (.str "rows")) (mCons (mXf 1 0 p) mNil))))), ("InvalidNumber", none, fun p => (sRet (mC (.str "number"))))])
    (sRet (mC .non))))
theorem gv__law_told {X : Cx} {g : Addr} {cdg : Value} {q : Str} (T : Tx P w K mg C W ea fI) (hK : X.K = K) (hm : X.mg = mg) : LamX.GivesTo X ["_law_work", "e"] "_law_told" (defScope s__law_told) g cdg (defBody s__law_told) "_law_work" q (TTw W m__law_told) := by
  subst hK hm
  exact gives_of (N := ["_law_work", "e"]) (by decide) fun f c' s H tl act => ⟨_, (pss_cons (ps_tryN rfl rfl LamX.takes0 (fun E pn xe tk => (pss_one (ps_expr (act _ pn xe E _ _ tk (fun _ _ _ _ h => h))))) (ClausesOk.plain ⟨rfl, by decide, .inl T.h_InvalidLayout⟩ (fun a oe cls d pn hz hf => (pss_one (ps_ret pe_str))) (ClausesOk.plain ⟨rfl, by decide, .inl T.h_UnknownCrate⟩ (fun a oe cls d pn hz hf => (pss_one (ps_ret pe_str))) (ClausesOk.named (i := 1) ⟨rfl, by decide, .inl T.h_InvalidRows⟩ sc__law_told.nd rfl rfl (fun a oe cls d pn hz hf => (pss_one (ps_ret (pe_tupP (pa_cons pe_str (pa_cons (pe_xg hz hf (pv 1)) pa_nil)))))) (ClausesOk.plain ⟨rfl, by decide, .inl T.h_InvalidNumber⟩ (fun a oe cls d pn hz hf => (pss_one (ps_ret pe_str))) ClausesOk.nil)))))
      (pss_one (ps_ret pe_non))),
    fun Y0 m A => (gs_seq (gs_try (fun _ _ _ _ h => h) (fun E' => (gs_act A)) (ClR.cons T.xm_InvalidLayout (fun a A c' o p vs hE hc => (gs_ret ge_str)) (ClR.cons T.xm_UnknownCrate (fun a A c' o p vs hE hc => (gs_ret ge_str)) (ClR.cons T.xm_InvalidRows (fun a A c' o p vs hE hc => (gs_ret (ge_tup (ga_cons ge_str (ga_cons (ge_xg (j := 0) hE hc T.ea_InvalidRows T.ef_InvalidRows T.xr_InvalidRows T.xn_InvalidRows_index) ga_nil))))) (ClR.cons T.xm_InvalidNumber (fun a A c' o p vs hE hc => (gs_ret ge_str)) ClR.nil)))))
      (gs_ret ge_non))⟩
def b_law (C : Addr) : Mi.Env → M Fl :=
    (sSeq (sAsg 14 (mCall (m_Store___init__ C) (mCons (mTup (mCons (mTup (mCons (mC (.int 5)) (mCons (mC (.int 1)) mNil))) (mCons (mTup (mCons (mC (.int 3)) (mCons (mC (.int 2)) mNil))) mNil))) (mCons (mTup (mCons (mC (.str "fig")) (mCons (mC (.str "plum")) mNil))) mNil))))
    (sSeq (sFor (rg1 (mC (.int 8))) (pName 2) (sSeq (sAsg 3 (mOp fIx (mNew (mLst (mCons (mC (.int 0)) (mCons (mC (.int 0)) (mCons (mDraw 1 (mC (.int 3))) mNil))))) (mDraw 1 (mC (.int 3)))))
    (sSeq (sAsg 10 (mOp fIx (mNew (mLst (mCons (mTup (mCons (mC (.str "fig")) (mCons (mC .non) (mCons (mC (.str "plum")) mNil)))) (mCons (mTup (mCons (mC .non) (mCons (mC (.str "fig")) (mCons (mC (.str "fig")) mNil)))) (mCons (mTup (mCons (mC (.str "fig")) (mCons (mC (.str "plum")) mNil))) mNil))))) (mVar 3)))
    (sSeq (sTupX [11, 13, 4] [.d (mOp fIx (mNew (mLst (mCons (mC (.str "fig")) (mCons (mC (.str "plum")) (mCons (mC (.str "kiwi")) (mCons (mC (.str "")) mNil)))))) (mOp fIx (mNew (mLst (mCons (mC (.int 0)) (mCons (mC (.int 1)) (mCons (mDraw 1 (mC (.int 4))) mNil))))) (mDraw 1 (mC (.int 3))))), .n (mLst mNil), .d (mNew (mLst mNil))])
    (sSeq (sFor (rg1 (mDraw 1 (mC (.int 5)))) (pName 5) (sSeq (sAsg 6 (mNew (mLc (rg1 (mDraw 1 (mC (.int 3)))) (pName 15) cYes (mDraw 1 (mC (.int 2))) [15])))
    (sSeq (sAsg 7 (mOp fEq (mDraw 1 (mC (.int 6))) (mC (.int 0))))
    (sSeq (sAsg 6 (mNew (mOpN fCatL (mVar 6) (mNew (mOpN fRepL (mNew (mLst (mCons (mOp fIx (mNew (mLst (mCons (mC (.int 2)) (mCons (mOp fSub (mC (.int 0)) (mC (.int 1))) (mCons (mC (.bl true)) mNil))))) (mDraw 1 (mC (.int 3)))) mNil))) (mCB fInt (mCons (mVar 7) mNil)))))))
    (sSeq (sAsg 4 (mNew (mOpN fCatL (mVar 4) (mNew (mOpN fRepL (mNew (mLst (mCons (mVar 5) mNil))) (mCB fInt (mCons (mOr (mVar 7) (mOp fEq (mVar 5) (mC (.int 3)))) mNil)))))))
    (sApp 13 (mCB fTup (mCons (mVar 6) mNil))))))))
    (sSeq (sAsgB 8 (mIf (cOf (mOp fNe (mVar 4) (mNew (mLst mNil)))) (mTup (mCons (mC (.str "rows")) (mCons (mOp fIx (mVar 4) (mC (.int 0))) mNil))) (mIf (cOf (mOp fEq (mVar 13) (mNew (mLst mNil)))) (mTup (mCons (mC (.str "rows")) (mCons (mC (.int 0)) mNil))) (mC .non))))
    (sSeq (sAsg 8 (mIf (cOf (mOp (fIn true) (mVar 11) (mTup (mCons (mC (.str "fig")) (mCons (mC (.str "plum")) mNil))))) (mC (.str "crate")) (mVar 8)))
    (sSeq (sAsg 8 (mIf (cOf (mOp fNe (mVar 10) (mTup (mCons (mC (.str "fig")) (mCons (mC .non) (mCons (mC (.str "plum")) mNil)))))) (mC (.str "layout")) (mVar 8)))
    (sSeq (sIf (cOf (mOp fNe (fun ρ => (m__law_told ((mCall m_spoken (mCons (mVar 14) (mCons (mVar 10) (mCons (mVar 11) (mCons (mCB fTup (mCons (mVar 13) mNil)) mNil))))) ρ)).calm) (mVar 8))) (sRet (mC (.bl false))) sNext)
    (sSeq (sIf (cOf (mOp fNe (fun ρ => (m__law_told ((mCall m_first_to_know (mCons (mVar 14) (mCons (mVar 10) (mCons (mVar 11) (mCons (mCB fTup (mCons (mVar 13) mNil)) mNil))))) ρ)).calm) (mVar 8))) (sRet (mC (.bl false))) sNext)
    (sSeq (sAsg 12 (mOp fSub (mDraw 1 (mC (.int 5))) (mC (.int 1))))
    (sSeq (sAsgB 9 (mIf (cOf (mOp fNotN (mVar 8) (mC .non))) (mVar 8) (mIf (cOf (mChain fLe fLt (mC (.int 0)) (mVar 12) (mCB fLen (mCons (mVar 13) mNil)))) (mC .non) (mC (.str "number")))))
    (sIf (cOf (mOp fNe (fun ρ => (m__law_told ((mCall m_needed_doors (mCons (mVar 14) (mCons (mVar 10) (mCons (mVar 11) (mCons (mCB fTup (mCons (mVar 13) mNil)) (mCons (mVar 12) mNil)))))) ρ)).calm) (mVar 9))) (sRet (mC (.bl false))) sNext)))))))))))))
    (sRet (mC (.bl true)))))
def m_law (C : Addr) : M D := lawM 16 (b_law C)
theorem ok_law {ct : List Str → Option Addr} {cls : Nat → Addr} {ea' : Str → Option Addr} {ef : Str → List Str} {f : Addr} {c0 P0 : Addr} {oc dc pm ctv kV : Value} {od an : Option Addr} {sl : Array (Option Value)} (lk : K.lookup f = some ⟨oc, od, .func (PySem.W.fnOf "law" "law" (defArgs s_law) (defBody s_law) (defScope s_law) .none kV dc pm an (.ref c0) ctv), sl⟩) (hcd : PySem.W.codeIn K (.ref c0) "law" = true) (tb : LamX.TabB base mg c0 P0) {g__law_told : Addr} {cd__law_told : Value} (G__law_told : ∀ X : Cx, X.K = K → X.mg = mg → Taker X "_law_told" "_law_work" ["_law_work", "e"] g__law_told (defBody s__law_told) (defScope s__law_told) cd__law_told) (T : ∀ (S : Addr × List Int) (r : Addr), Tx P w K mg C (lamB K ct cls ea' ef S r P0 qLam) ea fI) (C_Store : ∀ (S : Addr × List Int) (r : Addr), CMk P w K mg base (L2.CX P w) 4 "Store" C ["self", "doors", "crates"] (spI (lamB K ct cls ea' ef S r P0 qLam) C (m_Store___init__ C))) (C__law_taken : ∀ (S : Addr × List Int) (r : Addr), Cal P w K mg base CX0 1 "_law_taken" ["_law_row", "_law_many"] (spTaken K)) (C_first_to_know : ∀ (S : Addr × List Int) (r : Addr), Cal P w K mg base (L2.CX P w) 17 "first_to_know" ["store", "layout", "name", "rows"] (spM (lamB K ct cls ea' ef S r P0 qLam) m_first_to_know)) (C_needed_doors : ∀ (S : Addr × List Int) (r : Addr), Cal P w K mg base (L2.CX P w) 17 "needed_doors" ["store", "layout", "name", "rows", "person"] (spM (lamB K ct cls ea' ef S r P0 qLam) m_needed_doors)) (C_spoken : ∀ (S : Addr × List Int) (r : Addr), Cal P w K mg base (L2.CX P w) 16 "spoken" ["store", "layout", "name", "rows"] (spM (lamB K ct cls ea' ef S r P0 qLam) m_spoken)) (hw : Wp (m_law C) (fun d => d = .bl true) (fun _ _ => False)) : FnOk P w K mg base CX0 20 f (PySem.W.fnOf "law" "law" (defArgs s_law) (defBody s_law) (defScope s_law) .none kV dc pm an (.ref c0) ctv) ["_law_script"] (spLawP K P0) :=
  Mi.ok_lawL (ct := ct) (cls := cls) (ea := ea') (ef := ef) lk hcd sc_law (by decide) (fun A outer s H E hr => ⟨_, pss_cons (ps_set (i := 1) sc_law.nd rfl (Or.inr rfl) (pe_lst (pa_cons (pv 0) (pa_cons pe_int (pa_cons pe_int (pa_cons pe_int pa_nil)))))) (pss_any fun i => (pss_cons (ps_set (i := 14) sc_law.nd rfl (Or.inr rfl) (pe_mk (C_Store i.1 i.2) hr (passes_call LamX.takes0 fun _ _ _ _ h => h) (pa_cons (pe_tupP (pa_cons (pe_tupP (pa_cons pe_int (pa_cons pe_int pa_nil))) (pa_cons (pe_tupP (pa_cons pe_int (pa_cons pe_int pa_nil))) pa_nil))) (pa_cons (pe_tupP (pa_cons pe_str (pa_cons pe_str pa_nil))) pa_nil))))
      (pss_cons (ps_for PassesOwn.never rfl (pi_range1 (by rfl) (T i.1 i.2).b_range (pa_cons pe_int pa_nil)) (pg_name (i := 2) sc_law.nd rfl (Or.inl rfl)) (pss_cons (ps_set (i := 3) sc_law.nd rfl (Or.inl rfl) (pe_ix (ixA K) (pe_lst (pa_cons pe_int (pa_cons pe_int (pa_cons (pe_cal (E := Cc.E0) (C__law_taken i.1 i.2) hr pass0 (pa_cons (pv 1) (pa_cons pe_int pa_nil))) pa_nil)))) (pe_cal (E := Cc.E0) (C__law_taken i.1 i.2) hr pass0 (pa_cons (pv 1) (pa_cons pe_int pa_nil))) (fun _ _ => rfl)))
      (pss_cons (ps_set (i := 10) sc_law.nd rfl (Or.inr rfl) (pe_ix (ixA K) (pe_lst (pa_cons (pe_tupP (pa_cons pe_str (pa_cons pe_non (pa_cons pe_str pa_nil)))) (pa_cons (pe_tupP (pa_cons pe_non (pa_cons pe_str (pa_cons pe_str pa_nil)))) (pa_cons (pe_tupP (pa_cons pe_str (pa_cons pe_str pa_nil))) pa_nil)))) (pv 3) (fun _ _ => rfl)))
      (pss_cons (ps_asg (pe_tupP (pa_cons (pe_ix (ixA K) (pe_lst (pa_cons pe_str (pa_cons pe_str (pa_cons pe_str (pa_cons pe_str pa_nil))))) (pe_ix (ixA K) (pe_lst (pa_cons pe_int (pa_cons pe_int (pa_cons (pe_cal (E := Cc.E0) (C__law_taken i.1 i.2) hr pass0 (pa_cons (pv 1) (pa_cons pe_int pa_nil))) pa_nil)))) (pe_cal (E := Cc.E0) (C__law_taken i.1 i.2) hr pass0 (pa_cons (pv 1) (pa_cons pe_int pa_nil))) (fun _ _ => rfl)) (fun _ _ => rfl)) (pa_cons (pe_lst pa_nil) (pa_cons (pe_lst pa_nil) pa_nil)))) (pg_tK K (n := 3) rfl (pgs_cons (pg_name (i := 11) sc_law.nd rfl (Or.inr rfl)) (pgs_cons (pg_name (i := 13) sc_law.nd rfl (Or.inr rfl)) (pgs_cons (pg_name (i := 4) sc_law.nd rfl (Or.inl rfl)) pgs_nil)))))
      (pss_cons (ps_for PassesOwn.never rfl (pi_range1 (by rfl) (T i.1 i.2).b_range (pa_cons (pe_cal (E := Cc.E0) (C__law_taken i.1 i.2) hr pass0 (pa_cons (pv 1) (pa_cons pe_int pa_nil))) pa_nil)) (pg_name (i := 5) sc_law.nd rfl (Or.inl rfl)) (pss_cons (ps_setLc (i := 6) (own := [("_law_j", 15)]) (g := gName 15) rfl sc_law.nd rfl rfl (sw_true rfl rfl rfl (by decide +kernel)) (pi_range1 (by rfl) (T i.1 i.2).b_range (pa_cons (pe_cal (E := Cc.E0) (C__law_taken i.1 i.2) hr pass0 (pa_cons (pv 1) (pa_cons pe_int pa_nil))) pa_nil)) (blkOk_by (own := [("_law_j", 15)]) (N := ["_law_script", "_law_row", "_law_turn", "_law_pick", "_law_wrong", "_law_k", "_law_some", "_law_is_bad", "_law_due", "_law_late", "_law_layout", "_law_name", "_law_person", "_law_rows", "_law_store", "_law_j"]) (sc := defScope s_law) (by decide +kernel)) (fun _ _ _ _ _ => (pg_name (i := 15) sc_law.nd rfl (Or.inl rfl))) (fun _ _ _ _ _ => pts_nil) (fun _ _ _ _ _ => (pe_cal (E := Cc.E0) (C__law_taken i.1 i.2) hr pass0 (pa_cons (pv 1) (pa_cons pe_int pa_nil)))))
      (pss_cons (ps_set (i := 7) sc_law.nd rfl (Or.inl rfl) (pe_cmpR (eqK K hr.units) (pe_cal (E := Cc.E0) (C__law_taken i.1 i.2) hr pass0 (pa_cons (pv 1) (pa_cons pe_int pa_nil))) pe_int (nomark _)))
      (pss_cons (ps_set (i := 6) sc_law.nd rfl (Or.inl rfl) (pe_op op_cat (pv 6) (pe_op op_rep (pe_lst (pa_cons (pe_ix (ixA K) (pe_lst (pa_cons pe_int (pa_cons (pe_op op_sub pe_int pe_int) (pa_cons pe_bl pa_nil)))) (pe_cal (E := Cc.E0) (C__law_taken i.1 i.2) hr pass0 (pa_cons (pv 1) (pa_cons pe_int pa_nil))) (fun _ _ => rfl)) pa_nil)) (pe_callTy call_int1 (by rfl) (T i.1 i.2).b_int (by decide +kernel) (pa_cons (pv 7) pa_nil)))))
      (pss_cons (ps_set (i := 4) sc_law.nd rfl (Or.inl rfl) (pe_op op_cat (pv 4) (pe_op op_rep (pe_lst (pa_cons (pv 5) pa_nil)) (pe_callTy call_int1 (by rfl) (T i.1 i.2).b_int (by decide +kernel) (pa_cons (pe_or (pv 7) (pe_one (pe_cmpR (eqK K hr.units) (pv 5) pe_int (nomark _)))) pa_nil)))))
      (pss_one (ps_expr (pe_bm PySem.F.plainAttrs_list PySem.F.slot_list_append PySem.F.type_list_append mt_append (pv 13) (pa_cons (pe_callTy (tupPK K) (by rfl) (T i.1 i.2).b_tuple (by decide +kernel) (pa_cons (pv 6) pa_nil)) pa_nil)))))))))
      (pss_cons (ps_set (i := 8) sc_law.nd rfl (Or.inl rfl) (pe_ifExp (pt_cmpR (neK K hr.units) (pv 4) (pe_lst pa_nil) (nomark _)) (pe_tupP (pa_cons pe_str (pa_cons (pe_ix (ixA K) (pv 4) pe_int (fun _ _ => rfl)) pa_nil))) (pe_ifExp (pt_cmpR (eqK K hr.units) (pv 13) (pe_lst pa_nil) (nomark _)) (pe_tupP (pa_cons pe_str (pa_cons pe_int pa_nil))) pe_non)))
      (pss_cons (ps_set (i := 8) sc_law.nd rfl (Or.inl rfl) (pe_ifExp (pt_cmpR (niK K) (pv 11) (pe_tupP (pa_cons pe_str (pa_cons pe_str pa_nil))) rfl) pe_str (pv 8)))
      (pss_cons (ps_set (i := 8) sc_law.nd rfl (Or.inl rfl) (pe_ifExp (pt_cmpR (neK K hr.units) (pv 10) (pe_tupP (pa_cons pe_str (pa_cons pe_non (pa_cons pe_str pa_nil)))) (nomark _)) pe_str (pv 8)))
      (pss_cons (ps_if (pt_cmpR (neK K hr.units) (pe_lamS (T := [(P0, qLam)]) (P := P0) (k := 16) (G__law_told _ rfl rfl) sc__law_told (gv__law_told (T i.1 i.2) rfl rfl) tb rfl (List.mem_singleton.mpr rfl) (fun p hp _ => by rw [List.mem_singleton.mp hp]; rfl) hr (fun A outer s H E f c' hr => (pe_calS (C_spoken i.1 i.2) hr (takes_of rfl rfl rfl rfl) (pa_cons (pv 14) (pa_cons (pv 10) (pa_cons (pv 11) (pa_cons (pe_callTy (tupPK K) (by rfl) (T i.1 i.2).b_tuple (by decide +kernel) (pa_cons (pv 13) pa_nil)) pa_nil)))))) (LamX.lamS_by (show LamX.lamSB (defScope s_law) _ = true by decide +kernel))) (pv 8) (nomark _)) (pss_one (ps_ret pe_bl)) pss_nil)
      (pss_cons (ps_if (pt_cmpR (neK K hr.units) (pe_lamS (T := [(P0, qLam)]) (P := P0) (k := 17) (G__law_told _ rfl rfl) sc__law_told (gv__law_told (T i.1 i.2) rfl rfl) tb rfl (List.mem_singleton.mpr rfl) (fun p hp _ => by rw [List.mem_singleton.mp hp]; rfl) hr (fun A outer s H E f c' hr => (pe_calS (C_first_to_know i.1 i.2) hr (takes_of rfl rfl rfl rfl) (pa_cons (pv 14) (pa_cons (pv 10) (pa_cons (pv 11) (pa_cons (pe_callTy (tupPK K) (by rfl) (T i.1 i.2).b_tuple (by decide +kernel) (pa_cons (pv 13) pa_nil)) pa_nil)))))) (LamX.lamS_by (show LamX.lamSB (defScope s_law) _ = true by decide +kernel))) (pv 8) (nomark _)) (pss_one (ps_ret pe_bl)) pss_nil)
      (pss_cons (ps_set (i := 12) sc_law.nd rfl (Or.inr rfl) (pe_op op_sub (pe_cal (E := Cc.E0) (C__law_taken i.1 i.2) hr pass0 (pa_cons (pv 1) (pa_cons pe_int pa_nil))) pe_int))
      (pss_cons (ps_set (i := 9) sc_law.nd rfl (Or.inl rfl) (pe_ifExp (pt_cmpR op_notN (pv 8) pe_non (nomark _)) (pv 8) (pe_ifExp (pt_chain op_le op_lt pe_int (pv 12) (pe_callB (lenK K) (by rfl) (T i.1 i.2).b_len (by decide +kernel) (pa_cons (pv 13) pa_nil))) pe_non pe_str)))
      (pss_one (ps_if (pt_cmpR (neK K hr.units) (pe_lamS (T := [(P0, qLam)]) (P := P0) (k := 17) (G__law_told _ rfl rfl) sc__law_told (gv__law_told (T i.1 i.2) rfl rfl) tb rfl (List.mem_singleton.mpr rfl) (fun p hp _ => by rw [List.mem_singleton.mp hp]; rfl) hr (fun A outer s H E f c' hr => (pe_calS (C_needed_doors i.1 i.2) hr (takes_of rfl rfl rfl rfl) (pa_cons (pv 14) (pa_cons (pv 10) (pa_cons (pv 11) (pa_cons (pe_callTy (tupPK K) (by rfl) (T i.1 i.2).b_tuple (by decide +kernel) (pa_cons (pv 13) pa_nil)) (pa_cons (pv 12) pa_nil))))))) (LamX.lamS_by (show LamX.lamSB (defScope s_law) _ = true by decide +kernel))) (pv 9) (nomark _)) (pss_one (ps_ret pe_bl)) pss_nil))))))))))))))
      (pss_one (ps_ret pe_bl))))),
    fun i => (gs_seq (gs_asg (ge_make (ga_cons (ge_tup (ga_cons (ge_tup (ga_cons ge_int (ga_cons ge_int ga_nil))) (ga_cons (ge_tup (ga_cons ge_int (ga_cons ge_int ga_nil))) ga_nil))) (ga_cons (ge_tup (ga_cons ge_str (ga_cons ge_str ga_nil))) ga_nil))))
      (gs_seq (gs_for (gi_range1 ge_int) gp_name (gs_seq (gs_asg (ge_op (GN.ge (gn_lst (ga_cons ge_int (ga_cons ge_int (ga_cons (ge_draw lamB_ok ge_int) ga_nil))))) (ge_draw lamB_ok ge_int) r2_ix))
      (gs_seq (gs_asg (ge_op (GN.ge (gn_lst (ga_cons (ge_tup (ga_cons ge_str (ga_cons ge_non (ga_cons ge_str ga_nil)))) (ga_cons (ge_tup (ga_cons ge_non (ga_cons ge_str (ga_cons ge_str ga_nil)))) (ga_cons (ge_tup (ga_cons ge_str (ga_cons ge_str ga_nil))) ga_nil))))) ge_var r2_ix))
      (gs_seq (gs_tupX (is := [11, 13, 4]) (GX.d (ge_op (GN.ge (gn_lst (ga_cons ge_str (ga_cons ge_str (ga_cons ge_str (ga_cons ge_str ga_nil)))))) (ge_op (GN.ge (gn_lst (ga_cons ge_int (ga_cons ge_int (ga_cons (ge_draw lamB_ok ge_int) ga_nil))))) (ge_draw lamB_ok ge_int) r2_ix) r2_ix) (GX.n (gn_lst ga_nil) (GX.d (GN.ge (gn_lst ga_nil)) GX.nil))))
      (gs_seq (gs_for (gi_range1 (ge_draw lamB_ok ge_int)) gp_name (gs_seq (gs_asg (GN.ge (gn_lc (gi_range1 (ge_draw lamB_ok ge_int)) gp_name gt_yes (ge_draw lamB_ok ge_int))))
      (gs_seq (gs_asg (ge_op (ge_draw lamB_ok ge_int) ge_int r2_eq))
      (gs_seq (gs_asg (GN.ge (gn_opN ge_var (GN.ge (gn_opN (GN.ge (gn_lst (ga_cons (ge_op (GN.ge (gn_lst (ga_cons ge_int (ga_cons (ge_op ge_int ge_int r2_sub) (ga_cons ge_bl ga_nil))))) (ge_draw lamB_ok ge_int) r2_ix) ga_nil))) (ge_cb (ga_cons ge_var ga_nil) rc_int) r2_repL)) r2_catL)))
      (gs_seq (gs_asg (GN.ge (gn_opN ge_var (GN.ge (gn_opN (GN.ge (gn_lst (ga_cons ge_var ga_nil))) (ge_cb (ga_cons (ge_or ge_var (ge_op ge_var ge_int r2_eq)) ga_nil) rc_int) r2_repL)) r2_catL)))
      (gs_app (ge_cb (ga_cons ge_var ga_nil) rc_tup)))))))
      (gs_seq (gs_asgB (ge_if (gt_of (ge_op ge_var (GN.ge (gn_lst ga_nil)) r2_ne)) (ge_tup (ga_cons ge_str (ga_cons (ge_op ge_var ge_int r2_ix) ga_nil))) (ge_if (gt_of (ge_op ge_var (GN.ge (gn_lst ga_nil)) r2_eq)) (ge_tup (ga_cons ge_str (ga_cons ge_int ga_nil))) ge_non)))
      (gs_seq (gs_asg (ge_if (gt_of (ge_op ge_var (ge_tup (ga_cons ge_str (ga_cons ge_str ga_nil))) r2_in)) ge_str ge_var))
      (gs_seq (gs_asg (ge_if (gt_of (ge_op ge_var (ge_tup (ga_cons ge_str (ga_cons ge_non (ga_cons ge_str ga_nil)))) r2_ne)) ge_str ge_var))
      (gs_seq (gs_if (gt_of (ge_op (ge_lam lamB_tab lamB_ext (fun E' => (ge_calS (fun _ => rfl) (ga_cons ge_var (ga_cons ge_var (ga_cons ge_var (ga_cons (ge_cb (ga_cons ge_var ga_nil) rc_tup) ga_nil))))))) ge_var r2_ne)) (gs_ret ge_bl) gs_next)
      (gs_seq (gs_if (gt_of (ge_op (ge_lam lamB_tab lamB_ext (fun E' => (ge_calS (fun _ => rfl) (ga_cons ge_var (ga_cons ge_var (ga_cons ge_var (ga_cons (ge_cb (ga_cons ge_var ga_nil) rc_tup) ga_nil))))))) ge_var r2_ne)) (gs_ret ge_bl) gs_next)
      (gs_seq (gs_asg (ge_op (ge_draw lamB_ok ge_int) ge_int r2_sub))
      (gs_seq (gs_asgB (ge_if (gt_of (ge_op ge_var ge_non r2_notN)) ge_var (ge_if (gt_of (ge_chain ge_int ge_var r2_B (ge_cb (ga_cons ge_var ga_nil) rc_len) r2_B)) ge_non ge_str)))
      (gs_if (gt_of (ge_op (ge_lam lamB_tab lamB_ext (fun E' => (ge_calS (fun _ => rfl) (ga_cons ge_var (ga_cons ge_var (ga_cons ge_var (ga_cons (ge_cb (ga_cons ge_var ga_nil) rc_tup) (ga_cons ge_var ga_nil)))))))) ge_var r2_ne)) (gs_ret ge_bl) gs_next)))))))))))))
      (gs_ret ge_bl)))⟩) hw.out
end
end
end My

namespace Wm
def wl (l : List (Int × Int)) (j : Nat) : Int := (l.getD j (0, 0)).1
def rise (l : List (Int × Int)) (ws : List Int) : Option Nat → List Int
  | none => ws
  | some j => ws.set j (ws.getD j 0 + wl l j)
def cool (c : Int) (ws : List Int) : List Int := ws.map fun w => max 0 (w - c)
def hour (l : List (Int × Int)) (c : Int) (ws : List Int) (o : Option Nat) : List Int := cool c (rise l ws o)
def run (l : List (Int × Int)) (c : Int) (hs : List (Option Nat)) (ws : List Int) : List Int := hs.foldl (hour l c) ws
abbrev cold (l : List (Int × Int)) : List Int := List.replicate l.length 0
def hgt (l : List (Int × Int)) (ws : List Int) : Option Nat → Int
  | none => 0
  | some j => (rise l ws (some j)).getD j 0
def far (l : List (Int × Int)) (c : Int) (day : List (Option Nat)) (days : Int) : List Int :=
  if days = 0 then cold l else List.zipWith (fun e t => e + (days - 1) * (t - e)) (run l c day (cold l)) (run l c day (run l c day (cold l)))
def add (l : List (Int × Int)) (c : Int) (d : Nat) (o : Option Nat) : Int := (if o = some d then wl l d else 0) - c
def one (l : List (Int × Int)) (c : Int) (d : Nat) (x : Int) (o : Option Nat) : Int := max 0 (x + add l c d o)
def runD (l : List (Int × Int)) (c : Int) (d : Nat) (hs : List (Option Nat)) (x : Int) : Int := hs.foldl (one l c d) x
def low (l : List (Int × Int)) (c : Int) (d : Nat) : List (Option Nat) → Int → Int := runD l c d
section
variable {l : List (Int × Int)} {c : Int} {d : Nat}
end
def days (l : List (Int × Int)) (c : Int) (day : List (Option Nat)) : Nat → List Int
  | 0 => cold l
  | q + 1 => run l c day (days l c day q)
def seq (day : List (Option Nat)) (m : Nat) : List (Option Nat) := (List.range m).map fun h => day.getD (h % day.length) none
end Wm

namespace Wm
open Cc (minP ltP)
section
variable {l : List (Int × Int)} {c : Int} {day : List (Option Nat)}
def hv (l : List (Int × Int)) (c : Int) (day : List (Option Nat)) (m : Nat) : Int := hgt l (run l c (seq day m) (cold l)) (day.getD (m % day.length) none)
theorem hv_none {m : Nat} (ho : day.getD (m % day.length) none = none) : hv l c day m = 0 := by
  unfold hv
  rw [ho]
  rfl
end
section
variable {l : List (Int × Int)} {c : Int} {day : List (Option Nat)} {lim : Int}
def Hot (l : List (Int × Int)) (c : Int) (day : List (Option Nat)) (lim : Int) (m : Nat) : Prop := ∃ j, day.getD (m % day.length) none = some j ∧ hv l c day m > lim
end
end Wm

namespace Wm
open Cc (minP ltP)
section
variable {l : List (Int × Int)} {c : Int} {day : List (Option Nat)} {lim : Int}
def FirstB (l : List (Int × Int)) (c : Int) (day : List (Option Nat)) (lim : Int) (N : Nat) : Option (Int × Int) → Prop
  | none => ∀ m < N, ¬ Hot l c day lim m
  | some p => ∃ m j : Nat, p = ((m : Int), (j : Int)) ∧ day.getD (m % day.length) none = some j ∧ hv l c day m > lim ∧ ∀ m' < m, ¬ Hot l c day lim m'
theorem FirstB.step {N : Nat} {b : Option (Int × Int)} (h0 : 0 ≤ lim) (h : FirstB l c day lim N b) (hn : b = none → hv l c day N ≤ lim) : FirstB l c day lim (N + 1) b := by
  cases b with
  | some p => exact h
  | none =>
    intro m hm hot
    rcases Nat.lt_or_ge m N with h1 | h1
    · exact h m h1 hot
    · have : m = N := by omega
      subst this
      obtain ⟨j, _, h2⟩ := hot
      have := hn rfl
      omega
theorem FirstB.new {N : Nat} (h0 : 0 ≤ lim) (h : FirstB l c day lim N none) (hn : hv l c day N > lim) : ∃ j, day.getD (N % day.length) none = some j ∧ FirstB l c day lim (N + 1) (some ((N : Int), (j : Int))) := by
  cases ho : day.getD (N % day.length) none with
  | none =>
    have := hv_none (l := l) (c := c) ho
    omega
  | some j => exact ⟨j, rfl, N, j, rfl, ho, hn, fun m' hm' => h m' hm'⟩
end
end Wm

namespace Wm
end Wm

namespace Wm
section
variable {l : List (Int × Int)} {c lim : Int} {day : List (Option Nat)}
end
end Wm

namespace Wm
section
variable {l : List (Int × Int)} {c lim : Int} {day : List (Option Nat)}
end
end Wm

namespace My
open PySem L2 Cc Mi Wm
variable [PW]
def dT (p : Int × Int) : D := .ptup [.int p.1, .int p.2]
def dsT (l : List (Int × Int)) : D := .ptup (l.map dT)
abbrev stT (C : Addr) (l : List (Int × Int)) (a b c : D) : D := .ob C storeNs [a, b, dsT l, c]
theorem f_lenP {ds : List D} (h : ds.length ≤ 100000) : fLen [.ptup ds] = some (.int (ds.length : Nat)) := if_pos h
theorem f_lenL {ds : List D} (h : ds.length ≤ 100000) : fLen [.lst ds] = some (.int (ds.length : Nat)) := if_pos h
theorem at_nat {ds : List D} {j : Nat} {d : D} (h : ds[j]? = some d) : atI ds (.ofNat j) = some d := by
  obtain ⟨hj, he⟩ := List.getElem?_eq_some_iff.mp h
  unfold atI ixN
  simp [hj, he]
theorem f_ixP {ds : List D} {j : Nat} {d : D} (h : ds[j]? = some d) : fIx (.ptup ds) (.int (j : Nat)) = some d := at_nat h
theorem f_ixL {ds : List D} {j : Nat} {d : D} (h : ds[j]? = some d) : fIx (.lst ds) (.int (j : Nat)) = some d := at_nat h
section
variable {C : Addr} {l : List (Int × Int)} {a b c : D}
end
end My

namespace My
open PySem L2 Cc Mi Wm
variable [PW]
theorem f_tup {ds : List D} : fTup [.lst ds] = some (.ptup ds) := rfl
section
variable {C : Addr} {l : List (Int × Int)} {a b c : D}
theorem f_eqI {i j : Int} : fEq (.int i) (.int j) = some (.bl (i == j)) := by
  unfold fEq D.eqv
  simp [D.pl, D.shp, D.py, PyData.eqv]
  exact ⟨rfl, rfl⟩
theorem f_neI {i j : Int} : fNe (.int i) (.int j) = some (.bl (!(i == j))) := by
  unfold fNe D.eqv
  simp [D.pl, D.shp, D.py, PyData.eqv]
  exact ⟨rfl, rfl⟩
theorem cut_to {α : Type} (f : α → D) (xs : List α) {i : Int} (h : 0 ≤ i) : cutD (xs.map f) none (some i) = (xs.take i.toNat).map f := by
  obtain ⟨m, rfl⟩ : ∃ m : Nat, i = m := ⟨i.toNat, by omega⟩
  unfold cutD
  rw [HT.sIx_none, HT.sIx_nat, List.drop_zero, Nat.sub_zero, Int.toNat_natCast, List.map_take, List.length_map]
  by_cases h : m ≤ xs.length
  · rw [Nat.min_eq_left h]
  · rw [Nat.min_eq_right (by omega), List.take_of_length_le (by simp), List.take_of_length_le (by simp; omega)]
end
end My

namespace My
open PySem L2 Cc Mi Wm
variable [PW]
section
variable {C : Addr} {l : List (Int × Int)} {a b c : D}
end
end My

namespace My
open PySem L2 Cc Mi Wm
variable [PW]
abbrev jD (js : List Nat) : List D := js.map fun (j : Nat) => D.int (j : Int)
section
variable {C : Addr} {l : List (Int × Int)} {a b c : D}
theorem all_map (bs : List Bool) : fAll [.lst (bs.map D.bl)] = some (.bl (bs.all id)) := by
  unfold fAll
  dsimp only
  rw [blsO_map]
end
end My

namespace Arr
variable {α : Type} [DecidableEq α]
def step (S : List α) (F : Nat) (p : List (Option α)) : List (List (Option α)) := (if p.count none < F then [p ++ [none]] else []) ++ (S.filter fun x => decide (some x ∉ p)).map fun x => p ++ [some x]
end Arr

namespace Arr
variable {α : Type} [DecidableEq α]
def nm (q : List (Option α)) : List α := q.filterMap id
end Arr

namespace My
open PySem L2 Cc Mi Wm
variable [PW]
def oF {α : Type} (f : α → D) : Option α → D
  | none => .non
  | some x => f x
def rowF {α : Type} (f : α → D) (q : List (Option α)) : D := .ptup (q.map (oF f))
theorem f_catT {ds es : List D} (h : ds.length + es.length ≤ 100000) : fCatT (.ptup ds) (.ptup es) = some (.ptup (ds ++ es)) := if_pos h
end My

namespace My
open PySem L2 Cc Mi Wm
variable [PW]
section
variable {C : Addr} {l : List (Int × Int)} {a b c : D}
end
end My

namespace My
open PySem L2 Cc Mi Wm
variable [PW]
section
variable {C : Addr} {l : List (Int × Int)} {a b c : D}
theorem n1 : stP ["_places"] = true := by decide
theorem n2 : stP ["_places", "_size"] = true := by decide
theorem n3 : stP ["_places", "_size", "_doors"] = true := by decide
end
end My

namespace Mi
open PySem L2 Cc
mutual
def datOk : Nat → D → Bool
  | _, .non => true
  | _, .bl _ => true
  | _, .int _ => true
  | _, .str x => PyData.strOk x
  | n + 1, .lst ds => datOks n ds
  | n + 1, .tup ds => datOks n ds
  | n + 1, .ptup ds => datOks n ds
  | _, _ => false
def datOks : Nat → List D → Bool
  | _, [] => true
  | n, d :: ds => datOk n d && datOks n ds
end
theorem datOks_iff {n : Nat} {ds : List D} : datOks n ds = true ↔ ∀ d ∈ ds, datOk n d = true := by
  induction ds with
  | nil => simp [datOks]
  | cons d ds ih => simp [datOks, ih]
mutual
theorem datOk_all : ∀ (n : Nat) (d : D), datOk n d = true → d.pl = true ∧ d.py.canLay0 = true ∧ d.py.depth ≤ n
  | n, .non, _ => ⟨rfl, rfl, Nat.zero_le _⟩
  | n, .bl _, _ => ⟨rfl, rfl, Nat.zero_le _⟩
  | n, .int _, _ => ⟨rfl, rfl, Nat.zero_le _⟩
  | n, .str x, h => ⟨rfl, by simpa [datOk, D.py, PyData.canLay0] using h, Nat.zero_le _⟩
  | n, .ob _ _ _, h => by cases n <;> simp [datOk] at h
  | n, .adr _, h => by cases n <;> simp [datOk] at h
  | n, .dct _ _ _, h => by cases n <;> simp [datOk] at h
  | n, .dks _ _, h => by cases n <;> simp [datOk] at h
  | 0, .lst _, h => by simp [datOk] at h
  | 0, .tup _, h => by simp [datOk] at h
  | 0, .ptup _, h => by simp [datOk] at h
  | n + 1, .lst ds, h => by
    obtain ⟨h1, h2, h3⟩ := datOks_all n ds (by simpa [datOk] using h)
    exact ⟨by simpa [D.pl] using h1, by simpa [D.py, PyData.canLay0] using h2, by simp only [D.py, PyData.depth]; omega⟩
  | n + 1, .tup ds, h => by
    obtain ⟨h1, h2, h3⟩ := datOks_all n ds (by simpa [datOk] using h)
    exact ⟨by simpa [D.pl] using h1, by simpa [D.py, PyData.canLay0] using h2, by simp only [D.py, PyData.depth]; omega⟩
  | n + 1, .ptup ds, h => by
    obtain ⟨h1, h2, h3⟩ := datOks_all n ds (by simpa [datOk] using h)
    exact ⟨by simpa [D.pl] using h1, by simpa [D.py, PyData.canLay0] using h2, by simp only [D.py, PyData.depth]; omega⟩
theorem datOks_all : ∀ (n : Nat) (ds : List D), datOks n ds = true → D.pls ds = true ∧ PyData.canLayAll0 (D.pys ds) = true ∧ PyData.depthAll (D.pys ds) ≤ n
  | n, [], _ => ⟨rfl, rfl, Nat.zero_le _⟩
  | n, d :: ds, h => by
    have h' : datOk n d = true ∧ datOks n ds = true := by simpa [datOks] using h
    obtain ⟨a1, a2, a3⟩ := datOk_all n d h'.1
    obtain ⟨b1, b2, b3⟩ := datOks_all n ds h'.2
    exact ⟨by simp [D.pls, a1, b1], by simp [D.pys, PyData.canLayAll0, a2, b2], by simp only [D.pys, PyData.depthAll]; omega⟩
end
theorem dat_pl {n : Nat} {d : D} (h : datOk n d = true) : d.pl = true := (datOk_all n d h).1
theorem dat_shp {n : Nat} {d : D} (h : datOk n d = true) (hn : n ≤ 64) : d.shp = true := by
  obtain ⟨_, h2, h3⟩ := datOk_all n d h
  have : d.py.depth ≤ 64 := by omega
  simp only [D.shp, SeqAt.shaped, h2, decide_eq_true this, Bool.and_self]
theorem dat_same {n : Nat} {d : D} (h : datOk n d = true) : d.eqv d = true := SeqAt.eqv_refl _ (datOk_all n d h).2.1
theorem f_eqD {n : Nat} {d e : D} (h : datOk n d = true) (h' : datOk n e = true) (hn : n ≤ 64) : fEq d e = some (.bl (d.eqv e)) := by
  unfold fEq
  rw [if_pos (by simp only [dat_pl h, dat_pl h', dat_shp h hn, dat_shp h' hn, Bool.and_self])]
theorem f_neD {n : Nat} {d e : D} (h : datOk n d = true) (h' : datOk n e = true) (hn : n ≤ 64) : fNe d e = some (.bl (!d.eqv e)) := by
  unfold fNe
  rw [if_pos (by simp only [dat_pl h, dat_pl h', dat_shp h hn, dat_shp h' hn, Bool.and_self])]
theorem f_neSame {n : Nat} {d : D} (h : datOk n d = true) (hn : n ≤ 64) : fNe d d = some (.bl false) := by rw [f_neD h h hn, dat_same h]; rfl
theorem f_neNil {n : Nat} {ds : List D} (h : datOks n ds = true) (hn : n ≤ 60) : fNe (.lst ds) (.lst []) = some (.bl !ds.isEmpty) := by
  rw [f_neD (n := n + 1) (by simpa [datOk] using h) (by simp [datOk, datOks]) (by omega)]
  cases ds <;> rfl
theorem f_eqNil {n : Nat} {ds : List D} (h : datOks n ds = true) (hn : n ≤ 60) : fEq (.lst ds) (.lst []) = some (.bl ds.isEmpty) := by
  rw [f_eqD (n := n + 1) (by simpa [datOk] using h) (by simp [datOk, datOks]) (by omega)]
  cases ds <;> rfl
theorem datOks_ints {α : Type} (f : α → Int) (l : List α) (n : Nat) : datOks n (l.map fun x => D.int (f x)) = true := datOks_iff.mpr fun d hd => by
  obtain ⟨i, _, rfl⟩ := List.mem_map.mp hd
  cases n <;> rfl
end Mi

namespace My
open PySem L2 Cc Mi Wm
variable [PW]
def names5 : List Str := ["fig", "jam", "kiwi", "lime", "plum"]
theorem fixs_strs (xs : List Str) : D.fixs (xs.map D.str) = true ∧ D.pls (xs.map D.str) = true := ⟨D.fixs_iff.mpr fun d hd => by obtain ⟨x, _, rfl⟩ := List.mem_map.mp hd; rfl, D.pls_iff.mpr fun d hd => by obtain ⟨x, _, rfl⟩ := List.mem_map.mp hd; rfl⟩
section
variable {C : Addr} {l : List (Int × Int)} {c most crates : Nat} {Er : Str → List D → Prop}
end
end My

namespace My
open PySem L2 Cc Mi Wm
variable [PW]
abbrev Row := List (Option Str)
abbrev rw (q : Row) : D := rowF D.str q
def rwV : Option Str → V
  | none => .non
  | some x => .str x
theorem row_sc (q : Row) : (q.map (oF D.str)).all Mi.D.sc = true := List.all_eq_true.mpr fun d hd => by
  obtain ⟨o, _, rfl⟩ := List.mem_map.mp hd
  cases o <;> rfl
theorem row_V (q : Row) : (q.map (oF D.str)).map Mi.D.toV = q.map rwV := by
  rw [List.map_map]
  exact List.map_congr_left fun o _ => by cases o <;> rfl
theorem eqV_row (o u : Option Str) : eqV (rwV o) (rwV u) = decide (o = u) := by
  cases o with
  | none => cases u <;> simp [rwV, eqV]
  | some a =>
    cases u with
    | none => simp [rwV, eqV]
    | some b =>
      by_cases h : a = b
      · subst h; simp [rwV, eqV]
      · simp [rwV, eqV, h]
theorem inV_row (o : Option Str) (q : Row) : inV (rwV o) (q.map rwV) = decide (o ∈ q) := by
  induction q with
  | nil => rfl
  | cons u q ih =>
    unfold inV at ih ⊢
    rw [List.map_cons, List.any_cons, ih, eqV_row]
    by_cases h : u = o
    · subst h; simp
    · simp [h, Ne.symm h]
theorem f_inStrs (neg : Bool) (x : Str) (xs : List Str) : fIn neg (.str x) (.ptup (xs.map D.str)) = some (.bl (if neg then decide (x ∉ xs) else decide (x ∈ xs))) := by
  have e : xs.map D.str = (xs.map some).map (oF D.str) := by rw [List.map_map]; rfl
  have h1 : (xs.map D.str).all Mi.D.sc = true := by rw [e]; exact row_sc _
  have h2 : inV (V.str x) ((xs.map D.str).map Mi.D.toV) = decide (x ∈ xs) := by
    rw [e, row_V]
    show inV (rwV (some x)) _ = _
    rw [inV_row]
    simp
  show (if (Mi.D.sc (.str x) && (xs.map D.str).all Mi.D.sc) = true then some (D.bl (if neg then !inV (V.str x) ((xs.map D.str).map Mi.D.toV) else inV (V.str x) ((xs.map D.str).map Mi.D.toV))) else none) = _
  rw [h1, h2]
  cases neg <;> simp [Mi.D.sc]
theorem idx_row (o : Option Str) : ∀ (q : Row) (i : Nat), o ∈ q → idxV (rwV o) (q.map rwV) i = some (i + q.idxOf o)
  | [], _, h => by cases h
  | u :: q, i, h => by
    unfold idxV
    rw [List.map_cons]
    by_cases e : u = o
    · subst e
      simp [idxV, eqV_row]
    · have h' : o ∈ q := by
        rcases List.mem_cons.mp h with h | h
        · exact absurd h.symm e
        · exact h
      have ih := idx_row o q (i + 1) h'
      simp [idxV, eqV_row, e, ih, List.idxOf_cons]
      have : (u == o) = false := by simpa using e
      simp [this]
      omega
theorem t_idx {a b : Mi.Env → M D} {ρ : Mi.Env} {q : Row} {x : Str} (h : a ρ = .ret (rw q)) (hb : b ρ = .ret (.str x)) (hx : some x ∈ q) : mTIdx a b ρ = .ret (.int (q.idxOf (some x) : Nat)) := by
  unfold mTIdx
  rw [h]
  show ((b ρ).bind fun e => if (Mi.D.sc e && (q.map (oF D.str)).all Mi.D.sc) = true then (match idxV (Mi.D.toV e) ((q.map (oF D.str)).map Mi.D.toV) 0 with
    | some j => M.ret (D.int (j : Nat))
    | none => .bad) else .bad) = _
  rw [hb, M.bind_ret, row_sc, row_V]
  show (match idxV (rwV (some x)) (q.map rwV) 0 with
    | some j => M.ret (D.int (j : Nat))
    | none => .bad) = _
  rw [idx_row _ _ _ hx, Nat.zero_add]
theorem lcGo_filt {α : Type} {p : Pat} {c : Mi.Env → M Bool} {e : Mi.Env → M D} {ρ : Mi.Env} (f : α → D) (t : α → Bool) (g : α → D) : ∀ xs : List α, (∀ x ∈ xs, ∃ ρ1, p (f x) ρ = some ρ1 ∧ c ρ1 = .ret (t x) ∧ (t x = true → e ρ1 = .ret (g x))) → lcGo p c e ρ (xs.map f) = .ret ((xs.filter t).map g)
  | [], _ => rfl
  | x :: xs, h => by
    obtain ⟨ρ1, h1, h2, h3⟩ := h x (by simp)
    have ih := lcGo_filt f t g xs fun y hy => h y (List.mem_cons_of_mem _ hy)
    rw [List.map_cons, lcGo, h1]
    dsimp only
    rw [h2, M.bind_ret]
    cases ht : t x with
    | true =>
      rw [if_pos rfl, h3 ht, M.bind_ret, ih, M.bind_ret, List.filter_cons, if_pos ht]
      rfl
    | false => rw [if_neg Bool.false_ne_true, ih, List.filter_cons, if_neg (by rw [ht]; exact Bool.false_ne_true)]
end My

namespace My
open PySem L2 Cc Mi Wm
variable [PW]
theorem f_catL {ds es : List D} (h : ds.length + es.length ≤ 100000) : fCatL (.lst ds) (.lst es) = some (ds ++ es) := if_pos h
section
variable {C : Addr} {l : List (Int × Int)} {c most crates : Nat}
theorem seq_nx {a b : Mi.Env → M Fl} {ρ ρ' : Mi.Env} (h : a ρ = .ret (.nx ρ')) : sSeq a b ρ = b ρ' := by
  unfold sSeq
  rw [h]
  rfl
end
end My

namespace My
open PySem L2 Cc Mi Wm
variable [PW]
def leS (x y : Str) : Bool := decide (x.cps.toList ≤ y.cps.toList)
theorem leS_anti {x y : Str} (h1 : leS x y = true) (h2 : leS y x = true) : x = y := by
  unfold leS at h1 h2
  have h := List.le_antisymm (of_decide_eq_true h1) (of_decide_eq_true h2)
  cases x with
  | mk a => cases y with
    | mk b =>
      have : a = b := Array.toList_inj.mp h
      rw [this]
theorem leS_trans (x y z : Str) (h1 : leS x y = true) (h2 : leS y z = true) : leS x z = true := by
  unfold leS at *
  exact decide_eq_true (List.le_trans (of_decide_eq_true h1) (of_decide_eq_true h2))
theorem leS_total (x y : Str) : (leS x y || leS y x) = true := by
  unfold leS
  rcases List.le_total x.cps.toList y.cps.toList with h | h
  · rw [decide_eq_true h]; rfl
  · rw [decide_eq_true h, Bool.or_true]
theorem f_sortS {xs ys : List Str} (h : xs.Perm ys) (hy : ys.Pairwise fun x y => leS x y = true) (hl : xs.length ≤ 1000) : fSortD [.lst (xs.map D.str)] = some (ys.map D.str) := by
  have e1 : D.pls (xs.map D.str) = true := (fixs_strs xs).2
  have e2 : D.pys (xs.map D.str) = xs.map fun x => PyData.str x := by rw [D.pys_map, List.map_map]; rfl
  have e3 : sortOk (D.pys (xs.map D.str)) = true := by
    rw [e2]
    unfold sortOk
    simp only [List.length_map, Bool.and_eq_true, List.all_eq_true, decide_eq_true_eq, Bool.or_eq_true]
    refine ⟨⟨⟨fun x hx y hy => ?_, .inr fun x hx => ?_⟩, fun x hx => ?_⟩, by omega⟩
    · obtain ⟨i, _, rfl⟩ := List.mem_map.mp hx
      obtain ⟨k, _, rfl⟩ := List.mem_map.mp hy
      rfl
    · obtain ⟨i, _, rfl⟩ := List.mem_map.mp hx
      rfl
    · obtain ⟨i, _, rfl⟩ := List.mem_map.mp hx
      exact Nat.zero_le _
  show (if (D.pls (xs.map D.str) && sortOk (D.pys (xs.map D.str))) = true then some ((xs.map D.str).mergeSort (PySem.W.dataLe false D.py)) else none) = _
  rw [e1, e3]
  show some ((xs.map D.str).mergeSort (PySem.W.dataLe false D.py)) = _
  have e4 : (xs.map D.str).mergeSort (PySem.W.dataLe false D.py) = (xs.mergeSort leS).map D.str := by
    refine (List.map_mergeSort (r := leS) (s := PySem.W.dataLe false D.py) (f := D.str) fun a _ b _ => ?_).symm
    exact (congrFun (congrFun (PySem.W.dataLe_str (fun x : Str => x)) a) b).symm
  rw [e4]
  congr 2
  have s1 := List.pairwise_mergeSort (le := leS) leS_trans leS_total xs
  exact List.Perm.eq_of_pairwise (le := fun x y => leS x y = true) (fun a b _ _ h1 h2 => leS_anti h1 h2) s1 hy ((List.mergeSort_perm xs leS).trans h)
section
variable {C : Addr} {l : List (Int × Int)} {c most crates : Nat} {q : Row}
end
end My

namespace My
open PySem L2 Cc Mi Wm
variable [PW]
theorem gd {q : Row} {i : Nat} (h : i < q.length) : q.getD i none = q[i] := by rw [List.getD_eq_getElem?_getD, List.getElem?_eq_getElem h]; rfl
end My

namespace My
open PySem L2 Cc Mi Wm
variable [PW]
def rk : Option Str → Nat
  | none => 0
  | some x => names5.idxOf x + 1
def Asc (ns : List Str) : Prop := ns.Pairwise fun x y => rk (some x) < rk (some y)
theorem Asc.sub {xs ys : List Str} (h : Asc ys) (s : xs.Sublist ys) : Asc xs := List.Pairwise.sublist s h
section
variable {l : List (Int × Int)} {c most crates d : Nat} {q y : Row}
end
end My

namespace My
open PySem L2 Cc Mi Wm
variable [PW]
section
variable {C : Addr} {l : List (Int × Int)} {c most crates d : Nat} {q y : Row}
end
end My

namespace My
open PySem L2 Cc Mi Wm
def nkc : Option Str → NestedKey
  | none => .none
  | some x => .text x
def nk (q : Row) : NestedKey := .tup (q.map nkc)
theorem keyN_o (o : Option Str) : keyN (oF D.str o) = some (nkc o) := by cases o <;> rfl
theorem keyNs_row : ∀ q : Row, keyNs (q.map (oF D.str)) = some (q.map nkc)
  | [] => rfl
  | o :: q => by
    show (keyN (oF D.str o)).bind _ = _
    rw [keyN_o]
    show (keyNs (q.map (oF D.str))).map _ = _
    rw [keyNs_row q]
    rfl
theorem nk_dep : ∀ q : Row, NestedKey.depthAll (q.map nkc) = 0
  | [] => rfl
  | o :: q => by
    show max (NestedKey.depth (nkc o)) (NestedKey.depthAll (q.map nkc)) = 0
    rw [nk_dep q]
    cases o <;> rfl
theorem keyT_rw (q : Row) : keyT (rw q) = some (nk q) := by
  show (keyNs (q.map (oF D.str))).bind _ = _
  rw [keyNs_row]
  show (if NestedKey.depthAll (q.map nkc) + 1 ≤ 8 then _ else _) = _
  rw [nk_dep, if_pos (by omega)]
  rfl
theorem nkc_inj {a b : Option Str} (h : nkc a = nkc b) : a = b := by
  cases a <;> cases b <;> simp [nkc] at h <;> first | rfl | rw [h]
theorem nkcs_inj : ∀ {p q : Row}, p.map nkc = q.map nkc → p = q
  | [], [], _ => rfl
  | [], _ :: _, h => by simp at h
  | _ :: _, [], h => by simp at h
  | a :: p, b :: q, h => by
    simp only [List.map_cons, List.cons.injEq] at h
    rw [nkc_inj h.1, nkcs_inj h.2]
theorem nk_inj {p q : Row} (h : nk p = nk q) : p = q := nkcs_inj (NestedKey.tup.inj h)
end My

namespace My
open PySem L2 Cc Mi Wm
section
variable {α κ : Type} [DecidableEq κ] {key : α → κ} {y : α} {ys zs : List α} {ks : List κ} {k : κ}
def addA (key : α → κ) : List (κ × List α) → α → List (κ × List α)
  | [], y => [(key y, [y])]
  | (k, ys) :: r, y => if k = key y then (k, ys ++ [y]) :: r else (k, ys) :: addA key r y
def grp (key : α → κ) (ys : List α) : List (κ × List α) := ys.foldl (addA key) []
def kadd (key : α → κ) (ks : List κ) (y : α) : List κ := if key y ∈ ks then ks else ks ++ [key y]
def ksA (key : α → κ) (ys : List α) : List κ := ys.foldl (kadd key) []
def grG (key : α → κ) (ks : List κ) (zs : List α) : List (κ × List α) := ks.map fun k => (k, zs.filter fun z => decide (key z = k))
theorem addA_G : ∀ {ks : List κ}, ks.Nodup → (key y ∉ ks → zs.filter (fun z => decide (key z = key y)) = []) → addA key (grG key ks zs) y = grG key (kadd key ks y) (zs ++ [y])
  | [], _, h => by
    have := h (by simp)
    simp [grG, kadd, addA, this]
  | k :: ks, nd, h => by
    rw [List.nodup_cons] at nd
    show (if k = key y then _ else _) = _
    by_cases e : k = key y
    · subst e
      rw [if_pos rfl, kadd, if_pos List.mem_cons_self]
      show _ :: grG key ks zs = (_, (zs ++ [y]).filter _) :: grG key ks (zs ++ [y])
      congr 1
      · simp
      · unfold grG
        refine List.map_congr_left fun k' hk' => ?_
        have : ¬ key y = k' := fun z => nd.1 (z ▸ hk')
        simp [this]
    · rw [if_neg e]
      have ih := addA_G nd.2 fun n => h (fun m => by
        rcases List.mem_cons.mp m with m | m
        · exact e m.symm
        · exact n m)
      show _ :: addA key (grG key ks zs) y = _
      rw [ih]
      have ek : kadd key (k :: ks) y = k :: kadd key ks y := by
        unfold kadd
        by_cases m : key y ∈ ks
        · rw [if_pos m, if_pos (List.mem_cons_of_mem _ m)]
        · rw [if_neg m, if_neg (fun n => by
            rcases List.mem_cons.mp n with n | n
            · exact e n.symm
            · exact m n)]
          rfl
      rw [ek]
      have e' : ¬ key y = k := fun z => e z.symm
      show _ = (k, (zs ++ [y]).filter _) :: grG key (kadd key ks y) (zs ++ [y])
      simp [e']
theorem kadd_nd (h : ks.Nodup) : (kadd key ks y).Nodup := by
  unfold kadd
  split
  · exact h
  · rename_i n
    exact List.nodup_append.mpr ⟨h, by simp, fun a ha b hb => by
      rw [List.mem_singleton.mp hb]
      rintro rfl
      exact n ha⟩
theorem kadd_mem : k ∈ kadd key ks y ↔ k ∈ ks ∨ k = key y := by
  unfold kadd
  split
  · rename_i m
    exact ⟨.inl, fun h => h.elim id fun h => by rw [h]; exact m⟩
  · rw [List.mem_append, List.mem_singleton]
theorem grp_go : ∀ (ys zs : List α) (ks : List κ), ks.Nodup → (∀ z ∈ zs, key z ∈ ks) → ys.foldl (addA key) (grG key ks zs) = grG key (ys.foldl (kadd key) ks) (zs ++ ys)
  | [], zs, ks, _, _ => by simp
  | y :: ys, zs, ks, nd, h => by
    rw [List.foldl_cons, List.foldl_cons, addA_G nd fun n => List.filter_eq_nil_iff.mpr fun z hz e => n (of_decide_eq_true e ▸ h z hz)]
    rw [grp_go ys (zs ++ [y]) _ (kadd_nd nd) fun z hz => kadd_mem.mpr (by
      rcases List.mem_append.mp hz with hz | hz
      · exact .inl (h z hz)
      · exact .inr (by rw [List.mem_singleton.mp hz]))]
    rw [List.append_assoc, List.singleton_append]
theorem grp_eq (key : α → κ) (ys : List α) : grp key ys = grG key (ksA key ys) ys := grp_go ys [] [] .nil (fun _ h => nomatch h)
theorem ks_mem : k ∈ ksA key ys ↔ ∃ y ∈ ys, key y = k := by
  have : ∀ (ys : List α) (ks : List κ), k ∈ ys.foldl (kadd key) ks ↔ k ∈ ks ∨ ∃ y ∈ ys, key y = k := fun ys => by
    induction ys with
    | nil => intro ks; simp
    | cons y ys ih =>
      intro ks
      rw [List.foldl_cons, ih, kadd_mem]
      constructor
      · rintro ((h | h) | ⟨z, hz, h⟩)
        · exact .inl h
        · exact .inr ⟨y, by simp, h.symm⟩
        · exact .inr ⟨z, by simp [hz], h⟩
      · rintro (h | ⟨z, hz, h⟩)
        · exact .inl (.inl h)
        · rcases List.mem_cons.mp hz with rfl | hz
          · exact .inl (.inr h.symm)
          · exact .inr ⟨z, hz, h⟩
  rw [ksA, this]
  simp
theorem addA_len : ∀ (acc : List (κ × List α)), (addA key acc y).length ≤ acc.length + 1
  | [] => by simp [addA]
  | (k, g) :: r => by
    unfold addA
    split
    · simp
    · have := addA_len r
      simp; omega
theorem addA_each {n : Nat} : ∀ {acc : List (κ × List α)}, (∀ x ∈ acc, x.2.length ≤ n) → ∀ x ∈ addA key acc y, x.2.length ≤ n + 1
  | [], _, x, hx => by
    rw [List.mem_singleton.mp hx]; simp
  | (k, g) :: r, h, x, hx => by
    unfold addA at hx
    split at hx
    · rcases List.mem_cons.mp hx with rfl | hx
      · have := h (k, g) (by simp)
        simp at this ⊢; exact this
      · have := h x (by simp [hx]); omega
    · rcases List.mem_cons.mp hx with rfl | hx
      · have := h (k, g) (by simp)
        dsimp only at this ⊢; omega
      · exact addA_each (fun z hz => h z (by simp [hz])) x hx
end
abbrev accD (acc : List (NestedKey × List Row)) : List (NestedKey × List D) := acc.map fun x => (x.1, x.2.map rw)
theorem addG_acc (key : Row → NestedKey) (y : Row) : ∀ acc : List (NestedKey × List Row), addG (accD acc) (key y) (rw y) = accD (addA key acc y)
  | [] => rfl
  | (k, g) :: r => by
    show (if k = key y then _ else _) = accD (if k = key y then _ else _)
    by_cases e : k = key y
    · rw [if_pos e, if_pos e]
      simp [accD]
    · rw [if_neg e, if_neg e]
      show _ :: addG (accD r) (key y) (rw y) = _
      rw [addG_acc key y r]
      rfl
theorem told_run {il is : Nat} {m : Mi.Env → M D} {key : Row → NestedKey} {f : Row → D} (P : Mi.Env → Prop) : ∀ (ys : List Row) (acc : List (NestedKey × List Row)) (n : Nat) (ρ : Mi.Env), (∀ y ∈ ys, ∀ ρ, P ρ → m (ρ.set il (.dat (rw y))) = .ret (f y) ∧ P ((ρ.set il (.dat (rw y))).set is (.dat (f y)))) → (∀ y ∈ ys, keyT (f y) = some (key y)) → P ρ →
    acc.length ≤ n → (∀ x ∈ acc, x.2.length ≤ n) → n + ys.length ≤ 1000 → ∃ ρ', P ρ' ∧ toldGo il is m (ys.map rw) (accD acc) ρ = .ret (accD (ys.foldl (addA key) acc), ρ')
  | [], acc, n, ρ, _, _, hp, _, _, _ => ⟨ρ, hp, rfl⟩
  | y :: ys, acc, n, ρ, hs, hk, hp, h1, h2, h3 => by
    obtain ⟨e1, e2⟩ := hs y (by simp) ρ hp
    rw [List.length_cons] at h3
    obtain ⟨ρ', p', e'⟩ := told_run P ys (addA key acc y) (n + 1) _ (fun z hz => hs z (by simp [hz])) (fun z hz => hk z (by simp [hz])) e2 (by have := addA_len (key := key) (y := y) acc; omega) (addA_each h2) (by omega)
    refine ⟨ρ', p', ?_⟩
    rw [List.map_cons]
    unfold toldGo
    rw [e1, M.bind_ret, hk y (by simp)]
    show (if fits (accD acc) = true then _ else _) = _
    have hf : fits (accD acc) = true := by
      unfold fits
      rw [Bool.and_eq_true, decide_eq_true_eq, List.all_eq_true]
      refine ⟨by rw [List.length_map]; omega, fun x hx => ?_⟩
      obtain ⟨z, hz, rfl⟩ := List.mem_map.mp hx
      have := h2 z hz
      rw [decide_eq_true_eq, List.length_map]; omega
    rw [if_pos hf, addG_acc]
    exact e'
theorem valP_put (kvs : DP) (k j : NestedKey) (d : D) : valP (putP kvs k d) j = if j = k then some d else valP kvs j := by
  have any_iff : ∀ l : DP, (l.any fun kv => decide (kv.1 = k)) = (valP l k).isSome := fun l => by
    induction l with
    | nil => rfl
    | cons p l ih =>
      rw [List.any_cons, ih]
      by_cases h : p.1 = k <;> simp [valP, List.find?_cons, h]
  have put_at : ∀ l : DP, (valP l k).isSome = true → valP (l.map fun kv => if kv.1 = k then (kv.1, d) else kv) j = if j = k then some d else valP l j := fun l => by
    induction l with
    | nil => intro h; cases h
    | cons p l ih =>
      intro h
      by_cases e : p.1 = k
      · by_cases c : j = k
        · subst c
          simp [valP, List.find?_cons, e]
        · have c' : ¬ k = j := fun z => c z.symm
          have e2 : valP (p :: l) j = valP l j := by simp [valP, List.find?_cons, e, c']
          rw [if_neg c, e2]
          have e3 : valP ((p :: l).map fun kv => if kv.1 = k then (kv.1, d) else kv) j = valP (l.map fun kv => if kv.1 = k then (kv.1, d) else kv) j := by simp [valP, List.find?_cons, e, c']
          rw [e3]
          by_cases s : (valP l k).isSome = true
          · rw [ih s, if_neg c]
          · have : l.map (fun kv => if kv.1 = k then (kv.1, d) else kv) = l := by
              rw [← any_iff] at s
              have s' : ∀ x ∈ l, ¬ x.1 = k := fun x hx z => s (List.any_eq_true.mpr ⟨x, hx, decide_eq_true z⟩)
              refine (List.map_congr_left fun x hx => ?_).trans (List.map_id _)
              rw [if_neg (s' x hx)]; rfl
            rw [this]
      · have h' : (valP l k).isSome = true := by simpa [valP, List.find?_cons, e] using h
        by_cases c : p.1 = j
        · have c2 : ¬ j = k := fun z => e (c.trans z)
          simp [valP, List.find?_cons, e, c, c2]
        · have ih' := ih h'
          have e3 : valP ((p :: l).map fun kv => if kv.1 = k then (kv.1, d) else kv) j = valP (l.map fun kv => if kv.1 = k then (kv.1, d) else kv) j := by simp [valP, List.find?_cons, e, c]
          have e2 : valP (p :: l) j = valP l j := by simp [valP, List.find?_cons, c]
          rw [e3, e2, ih']
  unfold putP
  rw [any_iff]
  split
  · rename_i h
    exact put_at kvs h
  · rename_i h
    have hn : valP kvs k = none := by simpa using h
    by_cases c : j = k
    · subst c
      rw [if_pos rfl]
      have : kvs.find? (fun kv => decide (kv.1 = j)) = none := by simpa [valP] using hn
      simp [valP, List.find?_append, this]
    · rw [if_neg c]
      have c' : ¬ k = j := fun z => c z.symm
      simp [valP, List.find?_append, c']
theorem len_put (kvs : DP) (k : NestedKey) (d : D) : (putP kvs k d).length ≤ kvs.length + 1 := by
  unfold putP
  split <;> simp
end My

namespace My
open PySem L2 Cc Mi Wm
variable [PW]
noncomputable section
def kyN (cnt : Nat → Row → Row) (r : List Nat) (y : Row) : NestedKey := .tup (r.map fun d => nk (cnt d y))
def snD (cnt : Nat → Row → Row) (r : List Nat) (y : Row) : D := .ptup (r.map fun d => rw (cnt d y))
theorem keyN_rw (q : Row) : keyN (rw q) = some (nk q) := by
  show (keyNs (q.map (oF D.str))).map _ = _
  rw [keyNs_row]
  rfl
theorem keyNs_rws : ∀ qs : List Row, keyNs (qs.map rw) = some (qs.map nk)
  | [] => rfl
  | q :: qs => by
    show (keyN (rw q)).bind _ = _
    rw [keyN_rw]
    show (keyNs (qs.map rw)).map _ = _
    rw [keyNs_rws qs]
    rfl
theorem nks_dep : ∀ qs : List Row, NestedKey.depthAll (qs.map nk) ≤ 1
  | [] => Nat.zero_le _
  | q :: qs => by
    show max (NestedKey.depth (nk q)) (NestedKey.depthAll (qs.map nk)) ≤ 1
    have h := nks_dep qs
    have h2 : NestedKey.depth (nk q) = 1 := by
      show NestedKey.depthAll (q.map nkc) + 1 = 1
      rw [nk_dep]
    omega
theorem keyT_sn (cnt : Nat → Row → Row) (r : List Nat) (y : Row) : keyT (snD cnt r y) = some (kyN cnt r y) := by
  have e1 : (r.map fun d => rw (cnt d y)) = (r.map fun d => cnt d y).map rw := by rw [List.map_map]; rfl
  have e2 : (r.map fun d => nk (cnt d y)) = (r.map fun d => cnt d y).map nk := by rw [List.map_map]; rfl
  unfold snD kyN
  rw [e1, e2]
  show (keyNs ((r.map fun d => cnt d y).map rw)).bind _ = _
  rw [keyNs_rws]
  show (if NestedKey.depthAll _ + 1 ≤ 8 then _ else _) = _
  rw [if_pos (by have := nks_dep (r.map fun d => cnt d y); omega)]
structure Kn (st : D) (all : List Row) (n : Nat) (cnt : Nat → Row → Row) (x : Str) : Prop where
  con : ∀ y ∈ all, ∀ d < n, m_contents [st, rw y, .int (d : Nat)] = .ret (rw (cnt d y))
  len : all.length ≤ 1000
  has : ∀ y ∈ all, some x ∈ y
  row : ∀ y ∈ all, y.length ≤ 60
section
variable {st : D} {all : List Row} {n : Nat} {cnt : Nat → Row → Row} {x : Str} {ys : List Row} {r : List Nat} {lay : Row}
def tmB : Mi.Env → M D := (mCB fTup (mCons (mNew (mLc (iT (mVar 2)) (pName 6) cYes (mCall (fun ds => (m_contents ds).calm) (mCons (mVar 0) (mCons (mVar 4) (mCons (mVar 6) mNil)))) [6])) mNil))
theorem x_told (K : Kn st all n cnt x) (hy : ∀ y ∈ ys, y ∈ all) (hl : ys.length ≤ 1000) (hr : ∀ d ∈ r, d < n) (hrl : r.length ≤ 1000) : m_told_apart [st, .lst (ys.map rw), .ptup (jD r)] = .ret (.lst ((grp (kyN cnt r) ys).map fun g => D.lst (g.2.map rw))) := by
  have hm : ∀ y ∈ ys, ∀ ρ : Mi.Env, (∃ s4 s5, ρ = [.dat st, .dat (.lst (ys.map rw)), .dat (.ptup (jD r)), .no, s4, s5, .no]) → tmB (ρ.set 4 (.dat (rw y))) = .ret (snD cnt r y) ∧ ∃ s4 s5, (ρ.set 4 (.dat (rw y))).set 5 (.dat (snD cnt r y)) = [.dat st, .dat (.lst (ys.map rw)), .dat (.ptup (jD r)), .no, s4, s5, .no] := by
    rintro y hy' ρ ⟨s4, s5, rfl⟩
    refine ⟨?_, .dat (rw y), .dat (snD cnt r y), rfl⟩
    have e : lcGo (pName 6) cYes (mCall (fun ds => (m_contents ds).calm) (mCons (mVar 0) (mCons (mVar 4) (mCons (mVar 6) mNil)))) [.dat st, .dat (.lst (ys.map rw)), .dat (.ptup (jD r)), .no, .dat (rw y), s5, .no] (jD r) = .ret (r.map fun d => rw (cnt d y)) := by
      unfold jD
      refine lcGo_map (fun k : Nat => D.int (k : Int)) (fun d => rw (cnt d y)) r fun d hd => ⟨_, rfl, rfl, ?_⟩
      have := K.con y (hy y hy') d (hr d hd)
      simp -implicitDefEqProofs only [defM, defR, lawM, fin, sSeq, sExpr, sAsg, sAsgB, sPat, sPatB, sOwn, sOwnB, sPar, sPar3, sRet, sRetN, sIf, sFor, sForB, sApp, sAppB, sExt, sExtB, sSet, sFz, sNext, sBreak, sCont, sAug, sAugL, sErrF, sErr, sParX, sParX3, agGo, Fl.next, Fl.turn, vB, ok1, okL, mVar, mC, mOp, mUn, mNil, mCons, mCB, mCBn, mCall, mTup, mLst, mNew, asB, cOf, cAnd, cOr, cNot, cYes, mAnd, mOr, mNot, mIf, mChain, oNone, asI, oSome, mOpN, mPt, iL, iT, mFld, mProp, mLenI, mSlT, mSlL, pName, pGo, pTup, pLst, wipeE, mIsT, mCallR, mDraw, isRow, look, M.bind_ret, M.bind_err, M.bind_bad, M.bind_draw, M.ofO_some, M.ofO_none, M.calm_ret, M.calm_bad, M.calm_draw, M.bind_assoc, M.wp_ret, List.length_cons, List.length_nil, List.map_cons, List.map_nil, List.replicate_zero, List.replicate_succ, List.cons_append, List.nil_append, List.set_cons_zero, List.set_cons_succ, List.getElem?_cons_zero, List.getElem?_cons_succ, Nat.reduceAdd, Nat.reduceSub, Nat.reduceLeDiff, Nat.reduceEqDiff, if_true, if_false, ite_true, ite_false, reduceIte, Bool.not_true, Bool.not_false, Bool.false_eq_true, this]
    have hl1 : (jD r).length ≤ 100000 := by simp; omega
    have hl2 : (r.map fun d => rw (cnt d y)).length ≤ 100000 := by simp; omega
    unfold tmB snD
    generalize jD r = R at *
    generalize (r.map fun d => rw (cnt d y)) = S at *
    show M.bind (M.bind (mNew (mLc (iT (mVar 2)) (pName 6) cYes _ [6]) [.dat st, .dat (.lst (ys.map rw)), .dat (.ptup R), .no, .dat (rw y), s5, .no]) _) _ = _
    simp -implicitDefEqProofs only [defM, defR, lawM, fin, sSeq, sExpr, sAsg, sAsgB, sPat, sPatB, sOwn, sOwnB, sPar, sPar3, sRet, sRetN, sIf, sFor, sForB, sApp, sAppB, sExt, sExtB, sSet, sFz, sNext, sBreak, sCont, sAug, sAugL, sErrF, sErr, sParX, sParX3, agGo, Fl.next, Fl.turn, vB, ok1, okL, mVar, mC, mOp, mUn, mNil, mCons, mCB, mCBn, mCall, mTup, mLst, mNew, asB, cOf, cAnd, cOr, cNot, cYes, mAnd, mOr, mNot, mIf, mChain, oNone, asI, oSome, mOpN, mPt, iL, iT, mFld, mProp, mLenI, mSlT, mSlL, pName, pGo, pTup, pLst, wipeE, mIsT, mCallR, mDraw, isRow, look, M.bind_ret, M.bind_err, M.bind_bad, M.bind_draw, M.ofO_some, M.ofO_none, M.calm_ret, M.calm_bad, M.calm_draw, M.bind_assoc, M.wp_ret, List.length_cons, List.length_nil, List.map_cons, List.map_nil, List.replicate_zero, List.replicate_succ, List.cons_append, List.nil_append, List.set_cons_zero, List.set_cons_succ, List.getElem?_cons_zero, List.getElem?_cons_succ, Nat.reduceAdd, Nat.reduceSub, Nat.reduceLeDiff, Nat.reduceEqDiff, if_true, if_false, ite_true, ite_false, reduceIte, Bool.not_true, Bool.not_false, Bool.false_eq_true, mLc, hl1, e, f_tup]
  have hk : ∀ y ∈ ys, keyT (snD cnt r y) = some (kyN cnt r y) := fun y _ => keyT_sn cnt r y
  have h1 : sTell PW.w 3 4 5 (iL (mVar 1)) tmB [.dat st, .dat (.lst (ys.map rw)), .dat (.ptup (jD r)), .dn PW.w [] [], .no, .no, .no] = ((iL (mVar 1)) [.dat st, .dat (.lst (ys.map rw)), .dat (.ptup (jD r)), .dn PW.w [] [], .no, .no, .no]).bind fun ds => (toldGo 4 5 tmB ds [] [.dat st, .dat (.lst (ys.map rw)), .dat (.ptup (jD r)), .no, .no, .no, .no]).bind fun r => .ret (.nx (r.2.set 3 (.dn PW.w (r.1.map (·.1)) (r.1.map fun x => .lst x.2)))) := by
    unfold sTell
    exact (if_pos ⟨by simp, by simp⟩).trans (if_pos rfl)
  obtain ⟨ρ', ⟨s4, s5, rfl⟩, h2⟩ := told_run (il := 4) (is := 5) (m := tmB) (key := kyN cnt r) (f := snD cnt r) (fun ρ => ∃ s4 s5, ρ = [.dat st, .dat (.lst (ys.map rw)), .dat (.ptup (jD r)), .no, s4, s5, .no]) ys [] 0 [.dat st, .dat (.lst (ys.map rw)), .dat (.ptup (jD r)), .no, .no, .no, .no] hm hk ⟨_, _, rfl⟩ (Nat.le_refl _) (fun _ h => nomatch h) (by omega)
  have h2' : toldGo 4 5 tmB (ys.map rw) [] [.dat st, .dat (.lst (ys.map rw)), .dat (.ptup (jD r)), .no, .no, .no, .no] = .ret (accD (grp (kyN cnt r) ys), [.dat st, .dat (.lst (ys.map rw)), .dat (.ptup (jD r)), .no, s4, s5, .no]) := h2
  generalize grp (kyN cnt r) ys = G at h2' ⊢
  have h3 : sTell PW.w 3 4 5 (iL (mVar 1)) tmB [.dat st, .dat (.lst (ys.map rw)), .dat (.ptup (jD r)), .dn PW.w [] [], .no, .no, .no] = .ret (.nx [.dat st, .dat (.lst (ys.map rw)), .dat (.ptup (jD r)), .dn PW.w ((accD G).map (·.1)) ((accD G).map fun x => .lst x.2), s4, s5, .no]) := by
    rw [h1]
    show M.bind (M.ret (ys.map rw)) _ = _
    rw [M.bind_ret, h2', M.bind_ret]
    rfl
  have e5 : ((accD G).map fun x => D.lst x.2) = G.map fun g => D.lst (g.2.map rw) := by
    unfold accD
    rw [List.map_map]; rfl
  have e6 : (((accD G).map (·.1)).zip (G.map fun g => D.lst (g.2.map rw))).map (·.2) = G.map fun g => D.lst (g.2.map rw) := List.map_snd_zip (by simp [accD])
  unfold m_told_apart defM
  refine (if_pos rfl).trans ?_
  show M.bind (sSeq (sDnNew PW.w 3) (sSeq (sTell PW.w 3 4 5 (iL (mVar 1)) tmB) (sRet (mNew (mDnVals PW.w (mVar 3))))) [.dat st, .dat (.lst (ys.map rw)), .dat (.ptup (jD r)), .no, .no, .no, .no]) fin = _
  rw [seq_nx (ρ' := [.dat st, .dat (.lst (ys.map rw)), .dat (.ptup (jD r)), .dn PW.w [] [], .no, .no, .no]) rfl, seq_nx h3, e5]
  have ed : dctOf PW.w (.dct PW.w ((accD G).map (·.1)) (G.map fun g => D.lst (g.2.map rw))) = some (((accD G).map (·.1)).zip (G.map fun g => D.lst (g.2.map rw))) := if_pos rfl
  have e7 : mDnVals PW.w (mVar 3) (vB [.dat st, .dat (.lst (ys.map rw)), .dat (.ptup (jD r)), .dn PW.w ((accD G).map (·.1)) (G.map fun g => D.lst (g.2.map rw)), s4, s5, .no]) = .ret (G.map fun g => D.lst (g.2.map rw)) := by
    unfold mDnVals
    show M.bind (M.ret (D.dct PW.w ((accD G).map (·.1)) (G.map fun g => D.lst (g.2.map rw)))) _ = _
    rw [M.bind_ret, ed]
    show M.ret _ = _
    rw [e6]
  show M.bind (M.bind (M.bind (mDnVals PW.w (mVar 3) (vB _)) _) _) fin = _
  rw [e7]
  rfl
def insX (x : Str) (a : List Int) (q : Row) : List Int := insU (q.idxOf (some x) : Nat) a
theorem asc_len : ∀ {xs : List Int} {lo hi : Int}, xs.Pairwise (· < ·) → (∀ k ∈ xs, lo ≤ k ∧ k < hi) → xs.length ≤ (hi - lo).toNat
  | [], _, _, _, _ => Nat.zero_le _
  | a :: xs, lo, hi, hp, h => by
    rw [List.pairwise_cons] at hp
    have ha := h a (by simp)
    have ih := asc_len (xs := xs) (lo := a + 1) (hi := hi) hp.2 fun k hk => ⟨by have := hp.1 k hk; omega, (h k (by simp [hk])).2⟩
    rw [List.length_cons]
    omega
def kB (x : Str) (g : List Row) : Bool := decide ((g.foldl (insX x) []).length = 1)
def kn (cnt : Nat → Row → Row) (x : Str) (r : List Nat) (ys : List Row) (y : Row) : Bool := kB x (ys.filter fun z => decide (kyN cnt r z = kyN cnt r y))
theorem scX_run {s0 s1 s3 s4 s5 s7 : Sl} : ∀ (g : List Row) (acc : List Int), acc.Pairwise (· < ·) → (∀ k ∈ acc, 0 ≤ k ∧ k < 60) → (∀ q ∈ g, some x ∈ q ∧ q.length ≤ 60) →
    scGo (pName 6) cYes (mTIdx (mVar 6) (mVar 2)) [s0, s1, .dat (.str x), s3, s4, s5, .no, s7] acc (g.map rw) = .ret ((g.foldl (insX x) acc).map D.int)
  | [], acc, _, _, _ => rfl
  | q :: g, acc, hp, hb, hq => by
    obtain ⟨h1, h2⟩ := hq q (by simp)
    have hlt : q.idxOf (some x) < q.length := List.idxOf_lt_length_iff.mpr h1
    have ti := t_idx (a := mVar 6) (b := mVar 2) (ρ := [s0, s1, .dat (.str x), s3, s4, s5, .dat (rw q), s7]) (q := q) (x := x) rfl rfl h1
    have hlen := asc_len hp hb
    rw [List.map_cons]
    unfold scGo
    have e0 : pName 6 (rw q) [s0, s1, .dat (.str x), s3, s4, s5, .no, s7] = some [s0, s1, .dat (.str x), s3, s4, s5, .dat (rw q), s7] := rfl
    rw [e0]
    dsimp only
    show (M.bind (M.ret true) _) = _
    rw [M.bind_ret, if_pos rfl, ti, M.bind_ret]
    dsimp only
    have h63 : acc.length < 63 := by
      have : ((60 : Int) - 0).toNat = 60 := rfl
      omega
    rw [if_pos h63]
    exact scX_run g (insU (q.idxOf (some x) : Nat) acc) (insU_asc hp) (fun k hk => by
      rcases insU_mem.mp hk with rfl | hk
      · omega
      · exact hb k hk) fun p hp => hq p (by simp [hp])
def Ds (s : Sl) : Prop := s = .no ∨ ∃ z, s = .dat z
def putB (b : Bool) (kv : DP) (y : Row) : DP := putP kv (nk y) (.bl b)
theorem put_len (b : Bool) : ∀ (g : List Row) (kv : DP), (g.foldl (putB b) kv).length ≤ kv.length + g.length
  | [], _ => Nat.le_refl _
  | y :: g, kv => by
    have h1 := put_len b g (putB b kv y)
    have h2 := len_put kv (nk y) (.bl b)
    rw [List.foldl_cons, List.length_cons]
    unfold putB at h1 ⊢
    omega
theorem put_val (b : Bool) (y : Row) : ∀ (g : List Row) (kv : DP), valP (g.foldl (putB b) kv) (nk y) = if y ∈ g then some (.bl b) else valP kv (nk y)
  | [], kv => by simp
  | z :: g, kv => by
    rw [List.foldl_cons, put_val b y g]
    unfold putB
    rw [valP_put]
    by_cases h : y ∈ g
    · rw [if_pos h, if_pos (List.mem_cons_of_mem _ h)]
    · rw [if_neg h]
      by_cases e : y = z
      · subst e
        rw [if_pos rfl, if_pos List.mem_cons_self]
      · rw [if_neg (fun q => e (nk_inj q)), if_neg (by simp [e, h])]
theorem put_run {s0 s1 s2 s3 : Sl} {d5 : D} {b : Bool} (h0 : Ds s0) (h1 : Ds s1) (h2 : Ds s2) (h3 : Ds s3) : ∀ (g : List Row) (kv : DP) (s6 : Sl), Ds s6 → kv.length + g.length ≤ 1000 →
    ∃ s6', Ds s6' ∧ forGo (pName 6) (sDnPut PW.w 4 (mVar 6) (mVar 7)) (g.map rw) [s0, s1, s2, s3, .dn PW.w (kv.map (·.1)) (kv.map (·.2)), .dat d5, s6, .dat (.bl b)] = .ret (.nx [s0, s1, s2, s3, .dn PW.w ((g.foldl (putB b) kv).map (·.1)) ((g.foldl (putB b) kv).map (·.2)), .dat d5, s6', .dat (.bl b)])
  | [], kv, s6, h6, _ => ⟨s6, h6, rfl⟩
  | y :: g, kv, s6, h6, hl => by
    rw [List.length_cons] at hl
    have hp := len_put kv (nk y) (.bl b)
    obtain ⟨s6', h6', e⟩ := put_run h0 h1 h2 h3 g (putB b kv y) (.dat (rw y)) (.inr ⟨_, rfl⟩) (by unfold putB; omega)
    refine ⟨s6', h6', ?_⟩
    rw [List.map_cons, forGo]
    have e0 : pName 6 (rw y) [s0, s1, s2, s3, .dn PW.w (kv.map (·.1)) (kv.map (·.2)), .dat d5, s6, .dat (.bl b)] = some [s0, s1, s2, s3, .dn PW.w (kv.map (·.1)) (kv.map (·.2)), .dat d5, .dat (rw y), .dat (.bl b)] := rfl
    rw [e0]
    dsimp only
    have ez : (kv.map (·.1)).zip (kv.map (·.2)) = kv := zip_fs kv
    have hlt : ((kv.map (·.1)).zip (kv.map (·.2))).length < 100000 := by rw [ez]; omega
    have eS : sDnPut PW.w 4 (mVar 6) (mVar 7) [s0, s1, s2, s3, .dn PW.w (kv.map (·.1)) (kv.map (·.2)), .dat d5, .dat (rw y), .dat (.bl b)] = .ret (.nx [s0, s1, s2, s3, .dn PW.w ((putB b kv y).map (·.1)) ((putB b kv y).map (·.2)), .dat d5, .dat (rw y), .dat (.bl b)]) := by
      unfold sDnPut
      show M.bind (M.ret (D.bl b)) _ = _
      rw [M.bind_ret]
      show M.bind (M.ret (rw y)) _ = _
      rw [M.bind_ret, keyT_rw]
      show (if _ then _ else _) = _
      rw [if_pos ⟨rfl, hlt⟩, ez]
      exact if_pos rfl
    rw [eS, M.bind_ret]
    exact e
def knB : Mi.Env → M Fl := (sSeq (sAsg 7 (mOp fEq (mLenSc (iL (mVar 5)) (pName 6) cYes (mTIdx (mVar 6) (mVar 2)) [6]) (mC (.int 1))))
    (sFor (iL (mVar 5)) (pName 6) (sDnPut PW.w 4 (mVar 6) (mVar 7))))
theorem grp_tot {α κ : Type} [DecidableEq κ] (key : α → κ) (ys : List α) : ((grp key ys).map fun g => g.2.length).sum = ys.length := by
  have one : ∀ (acc : List (κ × List α)) (y : α), ((addA key acc y).map fun g => g.2.length).sum = (acc.map fun g => g.2.length).sum + 1 := fun acc y => by
    induction acc with
    | nil => rfl
    | cons g r ih =>
      obtain ⟨k, g⟩ := g
      unfold addA
      split
      · simp; omega
      · simp only [List.map_cons, List.sum_cons, ih]; omega
  have : ∀ (ys : List α) (acc : List (κ × List α)), ((ys.foldl (addA key) acc).map fun g => g.2.length).sum = (acc.map fun g => g.2.length).sum + ys.length := fun ys => by
    induction ys with
    | nil => intro acc; rfl
    | cons y ys ih =>
      intro acc
      rw [List.foldl_cons, ih, one, List.length_cons]; omega
  exact (this ys []).trans (by simp)
theorem x_know (K : Kn st all n cnt x) (hy : ∀ y ∈ ys, y ∈ all) (hl : ys.length ≤ 1000) (hr : ∀ d ∈ r, d < n) (hrl : r.length ≤ 1000) : ∃ kv : DP, m_who_know [st, .lst (ys.map rw), .str x, .ptup (jD r)] = .ret (dctP PW.w kv) ∧ ∀ y ∈ ys, valP kv (nk y) = some (.bl (kn cnt x r ys y)) := by
  have et := x_told K hy hl hr hrl
  have hg : ∀ g ∈ grp (kyN cnt r) ys, g.2 = ys.filter fun z => decide (kyN cnt r z = g.1) := fun g hg => by
    rw [grp_eq] at hg
    obtain ⟨k, _, rfl⟩ := List.mem_map.mp hg
    rfl
  have hall : ∀ y ∈ ys, ∃ g ∈ grp (kyN cnt r) ys, y ∈ g.2 := fun y hy => by
    rw [grp_eq]
    exact ⟨_, List.mem_map.mpr ⟨kyN cnt r y, ks_mem.mpr ⟨y, hy, rfl⟩, rfl⟩, List.mem_filter.mpr ⟨hy, decide_eq_true rfl⟩⟩
  have htot := grp_tot (kyN cnt r) ys
  have hsub : ∀ g ∈ grp (kyN cnt r) ys, ∀ y ∈ g.2, y ∈ ys ∧ kyN cnt r y = g.1 := fun g hg' y hy' => by
    rw [hg g hg'] at hy'
    exact ⟨(List.mem_filter.mp hy').1, of_decide_eq_true (List.mem_filter.mp hy').2⟩
  have hkb : ∀ g ∈ grp (kyN cnt r) ys, ∀ y ∈ g.2, kB x g.2 = kn cnt x r ys y := fun g hg' y hy' => by
    unfold kn
    rw [(hsub g hg' y hy').2, ← hg g hg']
  generalize grp (kyN cnt r) ys = G at *
  obtain ⟨ρ', h1, h2⟩ := forGo_run (p := pName 5) (b := knB) (fun g : NestedKey × List Row => D.lst (g.2.map rw)) (fun gs ρ => ∃ (done : List (NestedKey × List Row)) (kv : DP) (s5 s6 s7 : Sl), done ++ gs = G ∧ Ds s5 ∧ Ds s6 ∧ Ds s7 ∧ ρ = [.dat st, .dat (.lst (ys.map rw)), .dat (.str x), .dat (.ptup (jD r)), .dn PW.w (kv.map (·.1)) (kv.map (·.2)), s5, s6, s7] ∧ kv.length ≤ (done.map fun g => g.2.length).sum ∧ ∀ g ∈ done, ∀ y ∈ g.2, valP kv (nk y) = some (.bl (kn cnt x r ys y))) (fun g gs ρ => by
    rintro ⟨done, kv, s5, s6, s7, hd, h5, h6, h7, rfl, hk, hv⟩
    have hgG : g ∈ G := by rw [← hd]; simp
    have htot2 : (done.map fun g => g.2.length).sum + g.2.length ≤ ys.length := by
      rw [← htot, ← hd]
      simp only [List.map_append, List.map_cons, List.sum_append, List.sum_cons]
      omega
    have e5 : scGo (pName 6) cYes (mTIdx (mVar 6) (mVar 2)) [.dat st, .dat (.lst (ys.map rw)), .dat (.str x), .dat (.ptup (jD r)), .dn PW.w (kv.map (·.1)) (kv.map (·.2)), .dat (.lst (g.2.map rw)), .no, s7] [] (g.2.map rw) = .ret ((g.2.foldl (insX x) []).map D.int) := scX_run g.2 [] .nil (fun _ h => nomatch h) fun q hq => ⟨K.has q (hy q (hsub g hgG q hq).1), K.row q (hy q (hsub g hgG q hq).1)⟩
    have e7 : sAsg 7 (mOp fEq (mLenSc (iL (mVar 5)) (pName 6) cYes (mTIdx (mVar 6) (mVar 2)) [6]) (mC (.int 1))) [.dat st, .dat (.lst (ys.map rw)), .dat (.str x), .dat (.ptup (jD r)), .dn PW.w (kv.map (·.1)) (kv.map (·.2)), .dat (.lst (g.2.map rw)), s6, s7] = .ret (.nx [.dat st, .dat (.lst (ys.map rw)), .dat (.str x), .dat (.ptup (jD r)), .dn PW.w (kv.map (·.1)) (kv.map (·.2)), .dat (.lst (g.2.map rw)), s6, .dat (.bl (kB x g.2))]) := by
      have el : (((g.2.foldl (insX x) []).map D.int).length : Int) = ((g.2.foldl (insX x) []).length : Nat) := by simp
      have eq1 : ((((g.2.foldl (insX x) []).length : Nat) : Int) == (1 : Int)) = kB x g.2 := by
        unfold kB
        by_cases h : (g.2.foldl (insX x) []).length = 1
        · rw [h]; rfl
        · rw [decide_eq_false h]
          simp only [beq_eq_false_iff_ne, ne_eq]
          omega
      show M.bind (M.bind (M.bind (M.bind (M.ret (g.2.map rw)) fun ds => scGo (pName 6) cYes (mTIdx (mVar 6) (mVar 2)) [.dat st, .dat (.lst (ys.map rw)), .dat (.str x), .dat (.ptup (jD r)), .dn PW.w (kv.map (·.1)) (kv.map (·.2)), .dat (.lst (g.2.map rw)), .no, s7] [] ds) _) _) _ = _
      rw [M.bind_ret, e5, M.bind_ret, M.bind_ret]
      show M.bind (M.bind (M.ret (D.int 1)) _) _ = _
      rw [M.bind_ret, el]
      show M.bind (M.ret (D.bl (_ == _))) _ = _
      rw [eq1]
      rfl
    have pl := put_len (kB x g.2) g.2 kv
    obtain ⟨s6', h6', e6⟩ := put_run (b := kB x g.2) (d5 := .lst (g.2.map rw)) (s0 := .dat st) (s1 := .dat (.lst (ys.map rw))) (s2 := .dat (.str x)) (s3 := .dat (.ptup (jD r))) (.inr ⟨_, rfl⟩) (.inr ⟨_, rfl⟩) (.inr ⟨_, rfl⟩) (.inr ⟨_, rfl⟩) g.2 kv s6 h6 (by omega)
    have eB : knB [.dat st, .dat (.lst (ys.map rw)), .dat (.str x), .dat (.ptup (jD r)), .dn PW.w (kv.map (·.1)) (kv.map (·.2)), .dat (.lst (g.2.map rw)), s6, s7] = .ret (.nx [.dat st, .dat (.lst (ys.map rw)), .dat (.str x), .dat (.ptup (jD r)), .dn PW.w ((g.2.foldl (putB (kB x g.2)) kv).map (·.1)) ((g.2.foldl (putB (kB x g.2)) kv).map (·.2)), .dat (.lst (g.2.map rw)), s6', .dat (.bl (kB x g.2))]) := by
      unfold knB
      rw [seq_nx e7]
      show M.bind (M.ret (g.2.map rw)) _ = _
      rw [M.bind_ret]
      exact e6
    refine ⟨_, _, rfl, eB, done ++ [g], _, _, _, _, by rw [← hd]; simp, .inr ⟨_, rfl⟩, h6', .inr ⟨_, rfl⟩, rfl, ?_, fun g' hg' y hy' => ?_⟩
    · simp only [List.map_append, List.map_cons, List.map_nil, List.sum_append, List.sum_cons, List.sum_nil]
      omega
    · rw [put_val]
      by_cases hm : y ∈ g.2
      · rw [if_pos hm, hkb g hgG y hm]
      · rw [if_neg hm]
        rcases List.mem_append.mp hg' with h | h
        · exact hv g' h y hy'
        · rw [List.mem_singleton.mp h] at hy'; exact absurd hy' hm) G [.dat st, .dat (.lst (ys.map rw)), .dat (.str x), .dat (.ptup (jD r)), .dn PW.w [] [], .no, .no, .no] ⟨[], [], .no, .no, .no, rfl, .inl rfl, .inl rfl, .inl rfl, rfl, Nat.zero_le _, fun _ h => nomatch h⟩
  obtain ⟨done, kv, s5, s6, s7, hd, h5, h6, h7, rfl, hk, hv⟩ := h2
  rw [List.append_nil] at hd
  subst hd
  refine ⟨kv, ?_, fun y hy' => by
    obtain ⟨g, h3, h4⟩ := hall y hy'
    exact hv g h3 y h4⟩
  unfold m_who_know defM
  refine (if_pos rfl).trans ?_
  show M.bind (sSeq (sDnNew PW.w 4) (sSeq (sFor (iL (mCall m_told_apart (mCons (mVar 0) (mCons (mVar 1) (mCons (mVar 3) mNil))))) (pName 5) knB) (sRet (mVar 4))) [.dat st, .dat (.lst (ys.map rw)), .dat (.str x), .dat (.ptup (jD r)), .no, .no, .no, .no]) fin = _
  rw [seq_nx (ρ' := [.dat st, .dat (.lst (ys.map rw)), .dat (.str x), .dat (.ptup (jD r)), .dn PW.w [] [], .no, .no, .no]) rfl]
  have e9 : sFor (iL (mCall m_told_apart (mCons (mVar 0) (mCons (mVar 1) (mCons (mVar 3) mNil))))) (pName 5) knB [.dat st, .dat (.lst (ys.map rw)), .dat (.str x), .dat (.ptup (jD r)), .dn PW.w [] [], .no, .no, .no] = .ret (.nx [.dat st, .dat (.lst (ys.map rw)), .dat (.str x), .dat (.ptup (jD r)), .dn PW.w (kv.map (·.1)) (kv.map (·.2)), s5, s6, s7]) := by
    show M.bind (M.bind (m_told_apart [st, .lst (ys.map rw), .ptup (jD r)]) _) _ = _
    rw [et, M.bind_ret]
    exact h1
  rw [seq_nx e9]
  rfl
end
end
end My

namespace My
open PySem L2 Cc Mi Wm
variable [PW]
noncomputable section
section
variable {st : D} {all : List Row} {n : Nat} {cnt : Nat → Row → Row} {x : Str} {ys : List Row} {r : List Nat} {lay : Row} {R : List (List Nat)}
def rnd (cnt : Nat → Row → Row) (x : Str) (lay : Row) : List (List Nat) → List Row → List Bool → List Bool × List Row
  | [], ys, sd => (sd, ys)
  | r :: R, ys, sd => rnd cnt x lay R (ys.filter fun z => kn cnt x r ys z == kn cnt x r ys lay) (sd ++ [kn cnt x r ys lay])
theorem rnd_sub : ∀ (R : List (List Nat)) (ys : List Row) (sd : List Bool), (rnd cnt x lay R ys sd).2.Sublist ys
  | [], ys, sd => .refl _
  | r :: R, ys, sd => (rnd_sub R _ _).trans List.filter_sublist
theorem rnd_in : ∀ (R : List (List Nat)) (ys : List Row) (sd : List Bool), lay ∈ ys → lay ∈ (rnd cnt x lay R ys sd).2
  | [], ys, sd, h => h
  | r :: R, ys, sd, h => rnd_in R _ _ (List.mem_filter.mpr ⟨h, by simp⟩)
theorem rnd_len : ∀ (R : List (List Nat)) (ys : List Row) (sd : List Bool), (rnd cnt x lay R ys sd).1.length = sd.length + R.length
  | [], ys, sd => rfl
  | r :: R, ys, sd => by
    rw [rnd, rnd_len R]
    simp; omega
def rsD (R : List (List Nat)) : List D := R.map fun r => D.ptup (jD r)
def orB : Mi.Env → M Fl := (sSeq (sAsg 7 (mCall m_who_know (mCons (mVar 0) (mCons (mVar 4) (mCons (mVar 2) (mCons (mVar 6) mNil))))))
    (sSeq (sAsg 8 (mOp (fDnGet PW.w) (mVar 7) (mVar 1)))
    (sSeq (sAsg 4 (mNew (mLc (iL (mVar 4)) (pName 9) (cOf (mOp fEq (mOp (fDnGet PW.w) (mVar 7) (mVar 9)) (mVar 8))) (mVar 9) [9])))
    (sAugT 5 fCatT (mTup (mCons (mVar 8) mNil))))))
theorem f_get (kv : DP) (y : Row) : fDnGet PW.w (dctP PW.w kv) (rw y) = valP kv (nk y) := by
  unfold fDnGet
  have e : dctOf PW.w (dctP PW.w kv) = some kv := (if_pos rfl).trans (by rw [zip_fs])
  rw [e, keyT_rw]
  rfl
theorem f_eqB (a b : Bool) : fEq (.bl a) (.bl b) = some (.bl (a == b)) := by cases a <;> cases b <;> rfl
theorem augT_run {i : Nat} {f : D → D → Option D} {m : Mi.Env → M D} {ρ : Mi.Env} {d e z : D} (h0 : look ρ i = some d) (h1 : m ρ = .ret e) (h2 : f d e = some z) : sAugT i f m ρ = .ret (.nx (ρ.set i (.dat z))) := by
  unfold sAugT
  rw [h0]
  dsimp only
  rw [h1, M.bind_ret, h2]
  rfl
theorem or_run (K : Kn st all n cnt x) {rD : D} : ∀ (R : List (List Nat)) (ys : List Row) (sd : List Bool) (s6 s7 s8 : Sl), lay ∈ ys → (∀ y ∈ ys, y ∈ all) → ys.length ≤ 1000 → (∀ r ∈ R, (∀ d ∈ r, d < n) ∧ r.length ≤ 1000) → sd.length + R.length ≤ 1000 →
    ∃ s6' s7' s8', forGo (pName 6) orB (rsD R) [.dat st, .dat (rw lay), .dat (.str x), .dat rD, .dat (.lst (ys.map rw)), .dat (.ptup (sd.map D.bl)), s6, s7, s8, .no] = .ret (.nx [.dat st, .dat (rw lay), .dat (.str x), .dat rD, .dat (.lst ((rnd cnt x lay R ys sd).2.map rw)), .dat (.ptup ((rnd cnt x lay R ys sd).1.map D.bl)), s6', s7', s8', .no])
  | [], ys, sd, s6, s7, s8, _, _, _, _, _ => ⟨_, _, _, rfl⟩
  | r :: R, ys, sd, s6, s7, s8, hin, hy, hl, hr, hs => by
    rw [List.length_cons] at hs
    obtain ⟨hr1, hr2⟩ := hr r (by simp)
    obtain ⟨kv, ek, ev⟩ := x_know K hy hl hr1 hr2
    have hfl := List.length_filter_le (fun z => kn cnt x r ys z == kn cnt x r ys lay) ys
    obtain ⟨s6', s7', s8', e⟩ := or_run (rD := rD) K R (ys.filter fun z => kn cnt x r ys z == kn cnt x r ys lay) (sd ++ [kn cnt x r ys lay]) (.dat (.ptup (jD r))) (.dat (dctP PW.w kv)) (.dat (.bl (kn cnt x r ys lay))) (List.mem_filter.mpr ⟨hin, by simp⟩) (fun y h => hy y (List.mem_filter.mp h).1) (by omega) (fun r' h => hr r' (by simp [h])) (by simp; omega)
    refine ⟨s6', s7', s8', ?_⟩
    have eL : lcGo (pName 9) (cOf (mOp fEq (mOp (fDnGet PW.w) (mVar 7) (mVar 9)) (mVar 8))) (mVar 9) [.dat st, .dat (rw lay), .dat (.str x), .dat rD, .dat (.lst (ys.map rw)), .dat (.ptup (sd.map D.bl)), .dat (.ptup (jD r)), .dat (dctP PW.w kv), .dat (.bl (kn cnt x r ys lay)), .no] (ys.map rw) = .ret ((ys.filter fun z => kn cnt x r ys z == kn cnt x r ys lay).map rw) := by
      refine lcGo_filt rw (fun z => kn cnt x r ys z == kn cnt x r ys lay) rw ys fun z hz => ⟨_, rfl, ?_, fun _ => rfl⟩
      have e1 : fDnGet PW.w (dctP PW.w kv) (rw z) = some (.bl (kn cnt x r ys z)) := (f_get kv z).trans (ev z hz)
      simp -implicitDefEqProofs only [defM, defR, lawM, fin, sSeq, sExpr, sAsg, sAsgB, sPat, sPatB, sOwn, sOwnB, sPar, sPar3, sRet, sRetN, sIf, sFor, sForB, sApp, sAppB, sExt, sExtB, sSet, sFz, sNext, sBreak, sCont, sAug, sAugL, sErrF, sErr, sParX, sParX3, agGo, Fl.next, Fl.turn, vB, ok1, okL, mVar, mC, mOp, mUn, mNil, mCons, mCB, mCBn, mCall, mTup, mLst, mNew, asB, cOf, cAnd, cOr, cNot, cYes, mAnd, mOr, mNot, mIf, mChain, oNone, asI, oSome, mOpN, mPt, iL, iT, mFld, mProp, mLenI, mSlT, mSlL, pName, pGo, pTup, pLst, wipeE, mIsT, mCallR, mDraw, isRow, look, M.bind_ret, M.bind_err, M.bind_bad, M.bind_draw, M.ofO_some, M.ofO_none, M.calm_ret, M.calm_bad, M.calm_draw, M.bind_assoc, M.wp_ret, List.length_cons, List.length_nil, List.map_cons, List.map_nil, List.replicate_zero, List.replicate_succ, List.cons_append, List.nil_append, List.set_cons_zero, List.set_cons_succ, List.getElem?_cons_zero, List.getElem?_cons_succ, Nat.reduceAdd, Nat.reduceSub, Nat.reduceLeDiff, Nat.reduceEqDiff, if_true, if_false, ite_true, ite_false, reduceIte, Bool.not_true, Bool.not_false, Bool.false_eq_true, e1, f_eqB]
    have e1 : fDnGet PW.w (dctP PW.w kv) (rw lay) = some (.bl (kn cnt x r ys lay)) := (f_get kv lay).trans (ev lay hin)
    have hlf : (ys.map rw).length ≤ 100000 := by simp; omega
    have hb : orB [.dat st, .dat (rw lay), .dat (.str x), .dat rD, .dat (.lst (ys.map rw)), .dat (.ptup (sd.map D.bl)), .dat (.ptup (jD r)), s7, s8, .no] = .ret (.nx [.dat st, .dat (rw lay), .dat (.str x), .dat rD, .dat (.lst ((ys.filter fun z => kn cnt x r ys z == kn cnt x r ys lay).map rw)), .dat (.ptup ((sd ++ [kn cnt x r ys lay]).map D.bl)), .dat (.ptup (jD r)), .dat (dctP PW.w kv), .dat (.bl (kn cnt x r ys lay)), .no]) := by
      have ec : fCatT (.ptup (sd.map D.bl)) (.ptup [.bl (kn cnt x r ys lay)]) = some (.ptup ((sd ++ [kn cnt x r ys lay]).map D.bl)) := by
        rw [f_catT (by simp; omega)]
        simp
      unfold orB
      generalize (sd ++ [kn cnt x r ys lay]).map D.bl = S1 at *
      generalize sd.map D.bl = S0 at *
      generalize jD r = J at *
      rw [seq_nx (ρ' := [.dat st, .dat (rw lay), .dat (.str x), .dat rD, .dat (.lst (ys.map rw)), .dat (.ptup S0), .dat (.ptup J), .dat (dctP PW.w kv), s8, .no]) (by simp -implicitDefEqProofs only [defM, defR, lawM, fin, sSeq, sExpr, sAsg, sAsgB, sPat, sPatB, sOwn, sOwnB, sPar, sPar3, sRet, sRetN, sIf, sFor, sForB, sApp, sAppB, sExt, sExtB, sSet, sFz, sNext, sBreak, sCont, sAug, sAugL, sErrF, sErr, sParX, sParX3, agGo, Fl.next, Fl.turn, vB, ok1, okL, mVar, mC, mOp, mUn, mNil, mCons, mCB, mCBn, mCall, mTup, mLst, mNew, asB, cOf, cAnd, cOr, cNot, cYes, mAnd, mOr, mNot, mIf, mChain, oNone, asI, oSome, mOpN, mPt, iL, iT, mFld, mProp, mLenI, mSlT, mSlL, pName, pGo, pTup, pLst, wipeE, mIsT, mCallR, mDraw, isRow, look, M.bind_ret, M.bind_err, M.bind_bad, M.bind_draw, M.ofO_some, M.ofO_none, M.calm_ret, M.calm_bad, M.calm_draw, M.bind_assoc, M.wp_ret, List.length_cons, List.length_nil, List.map_cons, List.map_nil, List.replicate_zero, List.replicate_succ, List.cons_append, List.nil_append, List.set_cons_zero, List.set_cons_succ, List.getElem?_cons_zero, List.getElem?_cons_succ, Nat.reduceAdd, Nat.reduceSub, Nat.reduceLeDiff, Nat.reduceEqDiff, if_true, if_false, ite_true, ite_false, reduceIte, Bool.not_true, Bool.not_false, Bool.false_eq_true, ek])]
      rw [seq_nx (ρ' := [.dat st, .dat (rw lay), .dat (.str x), .dat rD, .dat (.lst (ys.map rw)), .dat (.ptup S0), .dat (.ptup J), .dat (dctP PW.w kv), .dat (.bl (kn cnt x r ys lay)), .no]) (by
        show M.bind (M.ofO (fDnGet PW.w (dctP PW.w kv) (rw lay))) _ = _
        rw [e1]; rfl)]
      rw [seq_nx (ρ' := [.dat st, .dat (rw lay), .dat (.str x), .dat rD, .dat (.lst ((ys.filter fun z => kn cnt x r ys z == kn cnt x r ys lay).map rw)), .dat (.ptup S0), .dat (.ptup J), .dat (dctP PW.w kv), .dat (.bl (kn cnt x r ys lay)), .no]) (by
        generalize ys.map rw = Y at *
        generalize (ys.filter fun z => kn cnt x r ys z == kn cnt x r ys lay).map rw = Z at *
        simp -implicitDefEqProofs only [defM, defR, lawM, fin, sSeq, sExpr, sAsg, sAsgB, sPat, sPatB, sOwn, sOwnB, sPar, sPar3, sRet, sRetN, sIf, sFor, sForB, sApp, sAppB, sExt, sExtB, sSet, sFz, sNext, sBreak, sCont, sAug, sAugL, sErrF, sErr, sParX, sParX3, agGo, Fl.next, Fl.turn, vB, ok1, okL, mVar, mC, mOp, mUn, mNil, mCons, mCB, mCBn, mCall, mTup, mLst, mNew, asB, cOf, cAnd, cOr, cNot, cYes, mAnd, mOr, mNot, mIf, mChain, oNone, asI, oSome, mOpN, mPt, iL, iT, mFld, mProp, mLenI, mSlT, mSlL, pName, pGo, pTup, pLst, wipeE, mIsT, mCallR, mDraw, isRow, look, M.bind_ret, M.bind_err, M.bind_bad, M.bind_draw, M.ofO_some, M.ofO_none, M.calm_ret, M.calm_bad, M.calm_draw, M.bind_assoc, M.wp_ret, List.length_cons, List.length_nil, List.map_cons, List.map_nil, List.replicate_zero, List.replicate_succ, List.cons_append, List.nil_append, List.set_cons_zero, List.set_cons_succ, List.getElem?_cons_zero, List.getElem?_cons_succ, Nat.reduceAdd, Nat.reduceSub, Nat.reduceLeDiff, Nat.reduceEqDiff, if_true, if_false, ite_true, ite_false, reduceIte, Bool.not_true, Bool.not_false, Bool.false_eq_true, mLc, hlf, eL])]
      exact augT_run (d := .ptup S0) (e := .ptup [.bl (kn cnt x r ys lay)]) rfl rfl ec
    have ew : rsD (r :: R) = .ptup (jD r) :: rsD R := rfl
    rw [ew, forGo]
    have e0 : pName 6 (.ptup (jD r)) [.dat st, .dat (rw lay), .dat (.str x), .dat rD, .dat (.lst (ys.map rw)), .dat (.ptup (sd.map D.bl)), s6, s7, s8, .no] = some [.dat st, .dat (rw lay), .dat (.str x), .dat rD, .dat (.lst (ys.map rw)), .dat (.ptup (sd.map D.bl)), .dat (.ptup (jD r)), s7, s8, .no] := rfl
    rw [e0]
    dsimp only
    rw [hb, M.bind_ret]
    exact e
theorem x_round (K : Kn st all n cnt x) (hin : lay ∈ ys) (hy : ∀ y ∈ ys, y ∈ all) (hl : ys.length ≤ 1000) (hr : ∀ r ∈ R, (∀ d ∈ r, d < n) ∧ r.length ≤ 1000) (hR : R.length ≤ 1000) : m_one_round [st, rw lay, .str x, .ptup (rsD R), .lst (ys.map rw)] = .ret (.ptup [.ptup ((rnd cnt x lay R ys []).1.map D.bl), .lst ((rnd cnt x lay R ys []).2.map rw)]) := by
  obtain ⟨s6, s7, s8, e⟩ := or_run K (rD := .ptup (rsD R)) R ys [] .no .no .no hin hy hl hr (by simpa using hR)
  unfold m_one_round defM
  refine (if_pos rfl).trans ?_
  show M.bind (sSeq (sAsg 5 (mTup mNil)) (sSeq (sFor (iT (mVar 3)) (pName 6) orB) (sRet (mTup (mCons (mVar 5) (mCons (mVar 4) mNil))))) [.dat st, .dat (rw lay), .dat (.str x), .dat (.ptup (rsD R)), .dat (.lst (ys.map rw)), .no, .no, .no, .no, .no]) fin = _
  rw [seq_nx (ρ' := [.dat st, .dat (rw lay), .dat (.str x), .dat (.ptup (rsD R)), .dat (.lst (ys.map rw)), .dat (.ptup ((([] : List Bool)).map D.bl)), .no, .no, .no, .no]) rfl]
  have e' : sFor (iT (mVar 3)) (pName 6) orB [.dat st, .dat (rw lay), .dat (.str x), .dat (.ptup (rsD R)), .dat (.lst (ys.map rw)), .dat (.ptup ((([] : List Bool)).map D.bl)), .no, .no, .no, .no] = .ret (.nx [.dat st, .dat (rw lay), .dat (.str x), .dat (.ptup (rsD R)), .dat (.lst ((rnd cnt x lay R ys []).2.map rw)), .dat (.ptup ((rnd cnt x lay R ys []).1.map D.bl)), s6, s7, s8, .no]) := e
  rw [seq_nx e']
  rfl
def spk (cnt : Nat → Row → Row) (x : Str) (lay : Row) (R : List (List Nat)) : Nat → List Bool → List Row → List Bool × List Row
  | 0, w, ys => (w, ys)
  | f + 1, w, ys => if ys.length = (rnd cnt x lay R ys []).2.length then (w ++ (rnd cnt x lay R ys []).1, (rnd cnt x lay R ys []).2) else spk cnt x lay R f (w ++ (rnd cnt x lay R ys []).1) (rnd cnt x lay R ys []).2
def spkC : Mi.Env → M Bool := (cOf (mOp fNe (mCB fLen (mCons (mVar 5) mNil)) (mCB fLen (mCons (mVar 6) mNil))))
def spkB : Mi.Env → M Fl := (sSeq (sAsg 5 (mVar 6))
    (sSeq (sPat (pTup [(pName 7), (pName 6)]) (mCall m_one_round (mCons (mVar 0) (mCons (mVar 1) (mCons (mVar 2) (mCons (mVar 3) (mCons (mVar 6) mNil)))))))
    (sAugT 4 fCatT (mVar 7))))
theorem sp_c {d0 d1 d2 d3 d4 : D} {A B : List D} {s7 : Sl} (h7 : Ds s7) (hA : A.length ≤ 1000) (hB : B.length ≤ 1000) : spkC (vB [.dat d0, .dat d1, .dat d2, .dat d3, .dat d4, .dat (.lst A), .dat (.lst B), s7]) = .ret (!decide (A.length = B.length)) := by
  have a1 : fLen [.lst A] = some (.int (A.length : Nat)) := f_lenL (by omega)
  have a2 : fLen [.lst B] = some (.int (B.length : Nat)) := f_lenL (by omega)
  have a3 : (((A.length : Nat) : Int) == ((B.length : Nat) : Int)) = decide (A.length = B.length) := by
    by_cases h : A.length = B.length
    · rw [h]; simp
    · rw [decide_eq_false h]
      simp only [beq_eq_false_iff_ne, ne_eq]
      omega
  unfold spkC
  rcases h7 with rfl | ⟨z, rfl⟩ <;> simp -implicitDefEqProofs only [defM, defR, lawM, fin, sSeq, sExpr, sAsg, sAsgB, sPat, sPatB, sOwn, sOwnB, sPar, sPar3, sRet, sRetN, sIf, sFor, sForB, sApp, sAppB, sExt, sExtB, sSet, sFz, sNext, sBreak, sCont, sAug, sAugL, sErrF, sErr, sParX, sParX3, agGo, Fl.next, Fl.turn, vB, ok1, okL, mVar, mC, mOp, mUn, mNil, mCons, mCB, mCBn, mCall, mTup, mLst, mNew, asB, cOf, cAnd, cOr, cNot, cYes, mAnd, mOr, mNot, mIf, mChain, oNone, asI, oSome, mOpN, mPt, iL, iT, mFld, mProp, mLenI, mSlT, mSlL, pName, pGo, pTup, pLst, wipeE, mIsT, mCallR, mDraw, isRow, look, M.bind_ret, M.bind_err, M.bind_bad, M.bind_draw, M.ofO_some, M.ofO_none, M.calm_ret, M.calm_bad, M.calm_draw, M.bind_assoc, M.wp_ret, List.length_cons, List.length_nil, List.map_cons, List.map_nil, List.replicate_zero, List.replicate_succ, List.cons_append, List.nil_append, List.set_cons_zero, List.set_cons_succ, List.getElem?_cons_zero, List.getElem?_cons_succ, Nat.reduceAdd, Nat.reduceSub, Nat.reduceLeDiff, Nat.reduceEqDiff, if_true, if_false, ite_true, ite_false, reduceIte, Bool.not_true, Bool.not_false, Bool.false_eq_true, a1, a2, f_neI, a3]
theorem sp_b (K : Kn st all n cnt x) (hin : lay ∈ ys) (hy : ∀ y ∈ ys, y ∈ all) (hl : ys.length ≤ 1000) (hr : ∀ r ∈ R, (∀ d ∈ r, d < n) ∧ r.length ≤ 1000) (hR : R.length ≤ 1000) {w : List Bool} (hw : w.length ≤ 90000) {s5 s7 : Sl} :
    spkB [.dat st, .dat (rw lay), .dat (.str x), .dat (.ptup (rsD R)), .dat (.ptup (w.map D.bl)), s5, .dat (.lst (ys.map rw)), s7] = .ret (.nx [.dat st, .dat (rw lay), .dat (.str x), .dat (.ptup (rsD R)), .dat (.ptup ((w ++ (rnd cnt x lay R ys []).1).map D.bl)), .dat (.lst (ys.map rw)), .dat (.lst ((rnd cnt x lay R ys []).2.map rw)), .dat (.ptup ((rnd cnt x lay R ys []).1.map D.bl))]) := by
  have e := x_round K hin hy hl hr hR
  have hrl := rnd_len (cnt := cnt) (x := x) (lay := lay) R ys []
  have ec : fCatT (.ptup (w.map D.bl)) (.ptup ((rnd cnt x lay R ys []).1.map D.bl)) = some (.ptup ((w ++ (rnd cnt x lay R ys []).1).map D.bl)) := by
    rw [f_catT (by simp only [List.length_map, hrl, List.length_nil]; omega), List.map_append]
  unfold spkB
  rw [seq_nx (ρ' := [.dat st, .dat (rw lay), .dat (.str x), .dat (.ptup (rsD R)), .dat (.ptup (w.map D.bl)), .dat (.lst (ys.map rw)), .dat (.lst (ys.map rw)), s7]) rfl]
  rw [seq_nx (ρ' := [.dat st, .dat (rw lay), .dat (.str x), .dat (.ptup (rsD R)), .dat (.ptup (w.map D.bl)), .dat (.lst (ys.map rw)), .dat (.lst ((rnd cnt x lay R ys []).2.map rw)), .dat (.ptup ((rnd cnt x lay R ys []).1.map D.bl))]) (by
    generalize rsD R = RD at *
    generalize (rnd cnt x lay R ys []).1.map D.bl = S1 at *
    generalize (rnd cnt x lay R ys []).2.map rw = S2 at *
    generalize ys.map rw = S3 at *
    simp -implicitDefEqProofs only [defM, defR, lawM, fin, sSeq, sExpr, sAsg, sAsgB, sPat, sPatB, sOwn, sOwnB, sPar, sPar3, sRet, sRetN, sIf, sFor, sForB, sApp, sAppB, sExt, sExtB, sSet, sFz, sNext, sBreak, sCont, sAug, sAugL, sErrF, sErr, sParX, sParX3, agGo, Fl.next, Fl.turn, vB, ok1, okL, mVar, mC, mOp, mUn, mNil, mCons, mCB, mCBn, mCall, mTup, mLst, mNew, asB, cOf, cAnd, cOr, cNot, cYes, mAnd, mOr, mNot, mIf, mChain, oNone, asI, oSome, mOpN, mPt, iL, iT, mFld, mProp, mLenI, mSlT, mSlL, pName, pGo, pTup, pLst, wipeE, mIsT, mCallR, mDraw, isRow, look, M.bind_ret, M.bind_err, M.bind_bad, M.bind_draw, M.ofO_some, M.ofO_none, M.calm_ret, M.calm_bad, M.calm_draw, M.bind_assoc, M.wp_ret, List.length_cons, List.length_nil, List.map_cons, List.map_nil, List.replicate_zero, List.replicate_succ, List.cons_append, List.nil_append, List.set_cons_zero, List.set_cons_succ, List.getElem?_cons_zero, List.getElem?_cons_succ, Nat.reduceAdd, Nat.reduceSub, Nat.reduceLeDiff, Nat.reduceEqDiff, if_true, if_false, ite_true, ite_false, reduceIte, Bool.not_true, Bool.not_false, Bool.false_eq_true, e])]
  exact augT_run (d := .ptup (w.map D.bl)) (e := .ptup ((rnd cnt x lay R ys []).1.map D.bl)) rfl rfl ec
theorem sp_run (K : Kn st all n cnt x) (hr : ∀ r ∈ R, (∀ d ∈ r, d < n) ∧ r.length ≤ 1000) (hR : R.length ≤ 10) : ∀ (f g : Nat) (w : List Bool) (ys pre : List Row) (s7 : Sl), ys.length ≤ f → f + 1 < g → lay ∈ ys → (∀ y ∈ ys, y ∈ all) → ys.length ≤ 1000 → pre.length ≤ 1000 → pre.length ≠ ys.length → w.length + 10 * (ys.length + 1) ≤ 90000 → Ds s7 →
    ∃ s7', Ds s7' ∧ whGo spkC spkB g [.dat st, .dat (rw lay), .dat (.str x), .dat (.ptup (rsD R)), .dat (.ptup (w.map D.bl)), .dat (.lst (pre.map rw)), .dat (.lst (ys.map rw)), s7] = .ret (.nx [.dat st, .dat (rw lay), .dat (.str x), .dat (.ptup (rsD R)), .dat (.ptup ((spk cnt x lay R f w ys).1.map D.bl)), .dat (.lst ((spk cnt x lay R f w ys).2.map rw)), .dat (.lst ((spk cnt x lay R f w ys).2.map rw)), s7'])
  | 0, g, w, ys, pre, s7, hf, _, hin, _, _, _, _, _, _ => by
    have := List.length_pos_of_mem hin
    omega
  | f + 1, g + 1, w, ys, pre, s7, hf, hg, hin, hy, hl, hp, hne, hw, h7 => by
    have sub := (rnd_sub (cnt := cnt) (x := x) (lay := lay) R ys []).length_le
    have hrl := rnd_len (cnt := cnt) (x := x) (lay := lay) R ys []
    have inn := rnd_in (cnt := cnt) (x := x) (lay := lay) R ys [] hin
    have suball : ∀ y ∈ (rnd cnt x lay R ys []).2, y ∈ all := fun y h => hy y ((rnd_sub R ys []).subset h)
    have eb := sp_b K hin hy hl hr (by omega) (w := w) (by omega) (s5 := .dat (.lst (pre.map rw))) (s7 := s7)
    have ec := sp_c (d0 := st) (d1 := rw lay) (d2 := .str x) (d3 := .ptup (rsD R)) (d4 := .ptup (w.map D.bl)) (A := pre.map rw) (B := ys.map rw) h7 (by simpa using hp) (by simpa using hl)
    rw [List.length_map, List.length_map, decide_eq_false hne] at ec
    have rest : ∃ s7', Ds s7' ∧ whGo spkC spkB g [.dat st, .dat (rw lay), .dat (.str x), .dat (.ptup (rsD R)), .dat (.ptup ((w ++ (rnd cnt x lay R ys []).1).map D.bl)), .dat (.lst (ys.map rw)), .dat (.lst ((rnd cnt x lay R ys []).2.map rw)), .dat (.ptup ((rnd cnt x lay R ys []).1.map D.bl))] = .ret (.nx [.dat st, .dat (rw lay), .dat (.str x), .dat (.ptup (rsD R)), .dat (.ptup ((spk cnt x lay R (f + 1) w ys).1.map D.bl)), .dat (.lst ((spk cnt x lay R (f + 1) w ys).2.map rw)), .dat (.lst ((spk cnt x lay R (f + 1) w ys).2.map rw)), s7']) := by
      rw [spk]
      by_cases h : ys.length = (rnd cnt x lay R ys []).2.length
      · have hs : (rnd cnt x lay R ys []).2 = ys := (rnd_sub R ys []).eq_of_length h.symm
        rw [if_pos h]
        have ec2 := sp_c (d0 := st) (d1 := rw lay) (d2 := .str x) (d3 := .ptup (rsD R)) (d4 := .ptup ((w ++ (rnd cnt x lay R ys []).1).map D.bl)) (A := ys.map rw) (B := (rnd cnt x lay R ys []).2.map rw) (s7 := .dat (.ptup ((rnd cnt x lay R ys []).1.map D.bl))) (.inr ⟨_, rfl⟩) (by simpa using hl) (by simp; omega)
        rw [List.length_map, List.length_map, decide_eq_true h] at ec2
        cases g with
        | zero => omega
        | succ g =>
          refine ⟨.dat (.ptup ((rnd cnt x lay R ys []).1.map D.bl)), .inr ⟨_, rfl⟩, ?_⟩
          rw [whGo, ec2, M.bind_ret, Bool.not_true, if_neg Bool.false_ne_true]
          dsimp only
          rw [hs]
      · rw [if_neg h]
        exact sp_run K hr hR f g (w ++ (rnd cnt x lay R ys []).1) (rnd cnt x lay R ys []).2 ys _ (by omega) (by omega) inn suball (by omega) hl h (by rw [List.length_append, hrl, List.length_nil]; omega) (.inr ⟨_, rfl⟩)
    obtain ⟨s7', h7', e⟩ := rest
    refine ⟨s7', h7', ?_⟩
    rw [whGo, ec, M.bind_ret, Bool.not_false, if_pos rfl, eb, M.bind_ret]
    exact e
theorem x_spoken (K : Kn st all n cnt x) (hck : m_check_question [st, rw lay, .str x, .ptup (rsD R)] = .ret .non) (hall : m_all_layouts [st] = .ret (.lst (all.map rw))) (hin : lay ∈ all) (h9 : all.length ≤ 900) (hr : ∀ r ∈ R, (∀ d ∈ r, d < n) ∧ r.length ≤ 1000) (hR : R.length ≤ 10) :
    m_spoken [st, rw lay, .str x, .ptup (rsD R)] = .ret (.ptup [.ptup ((spk cnt x lay R all.length [] all).1.map D.bl), .int ((spk cnt x lay R all.length [] all).2.length : Nat)]) := by
  have hpos := List.length_pos_of_mem hin
  obtain ⟨s7, h7, e⟩ := sp_run K hr hR all.length 1000 [] all [] .no (Nat.le_refl _) (by omega) hin (fun _ h => h) (by omega) (by simp) (by simp; omega) (by simp; omega) (.inl rfl)
  have sub : ∀ (f : Nat) (w : List Bool) (ys : List Row), (spk cnt x lay R f w ys).2.length ≤ ys.length := fun f => by
    induction f with
    | zero => exact fun _ _ => Nat.le_refl _
    | succ f ih =>
      intro w ys
      have := (rnd_sub (cnt := cnt) (x := x) (lay := lay) R ys []).length_le
      rw [spk]
      split
      · exact this
      · exact Nat.le_trans (ih _ _) this
  have hsub := sub all.length [] all
  unfold m_spoken defM
  refine (if_pos rfl).trans ?_
  show M.bind (sSeq (sExpr (mCall m_check_question (mCons (mVar 0) (mCons (mVar 1) (mCons (mVar 2) (mCons (mVar 3) mNil)))))) (sSeq (sAsg 4 (mTup mNil)) (sSeq (sPar 5 6 (mCons (mNew (mLst mNil)) (mCons (mCall (fun ds => (m_all_layouts ds).calm) (mCons (mVar 0) mNil)) mNil))) (sSeq (whGo spkC spkB 1000) (sRet (mTup (mCons (mVar 4) (mCons (mCB fLen (mCons (mVar 6) mNil)) mNil))))))) [.dat st, .dat (rw lay), .dat (.str x), .dat (.ptup (rsD R)), .no, .no, .no, .no]) fin = _
  generalize (1000 : Nat) = g at e ⊢
  have t1 : sExpr (mCall m_check_question (mCons (mVar 0) (mCons (mVar 1) (mCons (mVar 2) (mCons (mVar 3) mNil))))) [.dat st, .dat (rw lay), .dat (.str x), .dat (.ptup (rsD R)), .no, .no, .no, .no] = .ret (.nx [.dat st, .dat (rw lay), .dat (.str x), .dat (.ptup (rsD R)), .no, .no, .no, .no]) := by
    generalize rsD R = RD at *
    simp -implicitDefEqProofs only [defM, defR, lawM, fin, sSeq, sExpr, sAsg, sAsgB, sPat, sPatB, sOwn, sOwnB, sPar, sPar3, sRet, sRetN, sIf, sFor, sForB, sApp, sAppB, sExt, sExtB, sSet, sFz, sNext, sBreak, sCont, sAug, sAugL, sErrF, sErr, sParX, sParX3, agGo, Fl.next, Fl.turn, vB, ok1, okL, mVar, mC, mOp, mUn, mNil, mCons, mCB, mCBn, mCall, mTup, mLst, mNew, asB, cOf, cAnd, cOr, cNot, cYes, mAnd, mOr, mNot, mIf, mChain, oNone, asI, oSome, mOpN, mPt, iL, iT, mFld, mProp, mLenI, mSlT, mSlL, pName, pGo, pTup, pLst, wipeE, mIsT, mCallR, mDraw, isRow, look, M.bind_ret, M.bind_err, M.bind_bad, M.bind_draw, M.ofO_some, M.ofO_none, M.calm_ret, M.calm_bad, M.calm_draw, M.bind_assoc, M.wp_ret, List.length_cons, List.length_nil, List.map_cons, List.map_nil, List.replicate_zero, List.replicate_succ, List.cons_append, List.nil_append, List.set_cons_zero, List.set_cons_succ, List.getElem?_cons_zero, List.getElem?_cons_succ, Nat.reduceAdd, Nat.reduceSub, Nat.reduceLeDiff, Nat.reduceEqDiff, if_true, if_false, ite_true, ite_false, reduceIte, Bool.not_true, Bool.not_false, Bool.false_eq_true, hck]
  have t3 : sPar 5 6 (mCons (mNew (mLst mNil)) (mCons (mCall (fun ds => (m_all_layouts ds).calm) (mCons (mVar 0) mNil)) mNil)) [.dat st, .dat (rw lay), .dat (.str x), .dat (.ptup (rsD R)), .dat (.ptup []), .no, .no, .no] = .ret (.nx [.dat st, .dat (rw lay), .dat (.str x), .dat (.ptup (rsD R)), .dat (.ptup []), .dat (.lst []), .dat (.lst (all.map rw)), .no]) := by
    generalize all.map rw = AL at *
    have h0 : (0 : Nat) ≤ 100000 := by omega
    simp -implicitDefEqProofs only [defM, defR, lawM, fin, sSeq, sExpr, sAsg, sAsgB, sPat, sPatB, sOwn, sOwnB, sPar, sPar3, sRet, sRetN, sIf, sFor, sForB, sApp, sAppB, sExt, sExtB, sSet, sFz, sNext, sBreak, sCont, sAug, sAugL, sErrF, sErr, sParX, sParX3, agGo, Fl.next, Fl.turn, vB, ok1, okL, mVar, mC, mOp, mUn, mNil, mCons, mCB, mCBn, mCall, mTup, mLst, mNew, asB, cOf, cAnd, cOr, cNot, cYes, mAnd, mOr, mNot, mIf, mChain, oNone, asI, oSome, mOpN, mPt, iL, iT, mFld, mProp, mLenI, mSlT, mSlL, pName, pGo, pTup, pLst, wipeE, mIsT, mCallR, mDraw, isRow, look, M.bind_ret, M.bind_err, M.bind_bad, M.bind_draw, M.ofO_some, M.ofO_none, M.calm_ret, M.calm_bad, M.calm_draw, M.bind_assoc, M.wp_ret, List.length_cons, List.length_nil, List.map_cons, List.map_nil, List.replicate_zero, List.replicate_succ, List.cons_append, List.nil_append, List.set_cons_zero, List.set_cons_succ, List.getElem?_cons_zero, List.getElem?_cons_succ, Nat.reduceAdd, Nat.reduceSub, Nat.reduceLeDiff, Nat.reduceEqDiff, if_true, if_false, ite_true, ite_false, reduceIte, Bool.not_true, Bool.not_false, Bool.false_eq_true, hall, h0]
  have t2 : sAsg 4 (mTup mNil) [.dat st, .dat (rw lay), .dat (.str x), .dat (.ptup (rsD R)), .no, .no, .no, .no] = .ret (.nx [.dat st, .dat (rw lay), .dat (.str x), .dat (.ptup (rsD R)), .dat (.ptup []), .no, .no, .no]) := rfl
  rw [seq_nx t1, seq_nx t2, seq_nx t3]
  simp only [List.map_nil] at e
  rw [seq_nx e]
  have el : fLen [.lst ((spk cnt x lay R all.length [] all).2.map rw)] = some (.int ((spk cnt x lay R all.length [] all).2.length : Nat)) := by rw [f_lenL (by simp; omega)]; simp
  have h2 : (2 : Nat) ≤ 100000 := by omega
  rcases h7 with rfl | ⟨z, rfl⟩ <;> simp -implicitDefEqProofs only [defM, defR, lawM, fin, sSeq, sExpr, sAsg, sAsgB, sPat, sPatB, sOwn, sOwnB, sPar, sPar3, sRet, sRetN, sIf, sFor, sForB, sApp, sAppB, sExt, sExtB, sSet, sFz, sNext, sBreak, sCont, sAug, sAugL, sErrF, sErr, sParX, sParX3, agGo, Fl.next, Fl.turn, vB, ok1, okL, mVar, mC, mOp, mUn, mNil, mCons, mCB, mCBn, mCall, mTup, mLst, mNew, asB, cOf, cAnd, cOr, cNot, cYes, mAnd, mOr, mNot, mIf, mChain, oNone, asI, oSome, mOpN, mPt, iL, iT, mFld, mProp, mLenI, mSlT, mSlL, pName, pGo, pTup, pLst, wipeE, mIsT, mCallR, mDraw, isRow, look, M.bind_ret, M.bind_err, M.bind_bad, M.bind_draw, M.ofO_some, M.ofO_none, M.calm_ret, M.calm_bad, M.calm_draw, M.bind_assoc, M.wp_ret, List.length_cons, List.length_nil, List.map_cons, List.map_nil, List.replicate_zero, List.replicate_succ, List.cons_append, List.nil_append, List.set_cons_zero, List.set_cons_succ, List.getElem?_cons_zero, List.getElem?_cons_succ, Nat.reduceAdd, Nat.reduceSub, Nat.reduceLeDiff, Nat.reduceEqDiff, if_true, if_false, ite_true, ite_false, reduceIte, Bool.not_true, Bool.not_false, Bool.false_eq_true, el, h2]
end
end
end My

namespace My
open PySem L2 Cc Mi Wm
variable [PW]
noncomputable section
theorem bls_sc (w : List Bool) : (w.map D.bl).all Mi.D.sc = true := List.all_eq_true.mpr fun d hd => by
  obtain ⟨o, _, rfl⟩ := List.mem_map.mp hd
  rfl
theorem bls_V (w : List Bool) : (w.map D.bl).map Mi.D.toV = w.map V.bl := by
  rw [List.map_map]
  rfl
theorem eqV_bl (a b : Bool) : eqV (V.bl a) (V.bl b) = (a == b) := by cases a <;> cases b <;> rfl
theorem inV_bl (b : Bool) (w : List Bool) : inV (V.bl b) (w.map V.bl) = decide (b ∈ w) := by
  induction w with
  | nil => rfl
  | cons u q ih =>
    unfold inV at ih ⊢
    rw [List.map_cons, List.any_cons, ih, eqV_bl]
    cases u <;> cases b <;> simp
theorem f_niB (b : Bool) (w : List Bool) : fIn true (.bl b) (.ptup (w.map D.bl)) = some (.bl (!decide (b ∈ w))) := by
  show (if (Mi.D.sc (.bl b) && (w.map D.bl).all Mi.D.sc) = true then some (D.bl (if true then !inV (Mi.D.toV (.bl b)) ((w.map D.bl).map Mi.D.toV) else _)) else none) = _
  rw [bls_sc, bls_V]
  show some (D.bl (!inV (V.bl b) (w.map V.bl))) = _
  rw [inV_bl]
theorem idx_bl (b : Bool) : ∀ (w : List Bool) (i : Nat), b ∈ w → idxV (V.bl b) (w.map V.bl) i = some (i + w.idxOf b)
  | [], _, h => by cases h
  | u :: w, i, h => by
    unfold idxV
    rw [List.map_cons]
    by_cases e : u = b
    · subst e
      simp [idxV, eqV_bl]
    · have h' : b ∈ w := by
        rcases List.mem_cons.mp h with h | h
        · exact absurd h.symm e
        · exact h
      have ih := idx_bl b w (i + 1) h'
      have : (u == b) = false := by simpa using e
      simp [idxV, eqV_bl, this, ih, List.idxOf_cons]
      omega
theorem t_idxB {a c : Mi.Env → M D} {ρ : Mi.Env} {w : List Bool} {b : Bool} (h : a ρ = .ret (.ptup (w.map D.bl))) (hb : c ρ = .ret (.bl b)) (hx : b ∈ w) : mTIdx a c ρ = .ret (.int (w.idxOf b : Nat)) := by
  unfold mTIdx
  rw [h]
  show ((c ρ).bind fun e => if (Mi.D.sc e && (w.map D.bl).all Mi.D.sc) = true then (match idxV (Mi.D.toV e) ((w.map D.bl).map Mi.D.toV) 0 with
    | some j => M.ret (D.int (j : Nat))
    | none => .bad) else .bad) = _
  rw [hb, M.bind_ret, bls_sc, bls_V]
  show (match idxV (V.bl b) (w.map V.bl) 0 with
    | some j => M.ret (D.int (j : Nat))
    | none => .bad) = _
  rw [idx_bl _ _ _ hx, Nat.zero_add]
section
variable {st : D} {all : List Row} {n : Nat} {cnt : Nat → Row → Row} {x : Str} {ys : List Row} {r : List Nat} {lay : Row} {R : List (List Nat)}
theorem x_first {rD lD xD : D} {w : List Bool} {k : Int} {m : Nat} (hm : 0 < m) (hl : fLen [rD] = some (.int (m : Nat))) (h : m_spoken [st, lD, xD, rD] = .ret (.ptup [.ptup (w.map D.bl), .int k])) : m_first_to_know [st, lD, xD, rD] = .ret (if true ∈ w then .ptup [.int (w.idxOf true : Nat), .int ((w.idxOf true % m : Nat) : Int)] else .non) := by
  have hi := f_niB true w
  have t1 : sPat (pTup [(pName 4), (pName 5)]) (mCall m_spoken (mCons (mVar 0) (mCons (mVar 1) (mCons (mVar 2) (mCons (mVar 3) mNil))))) [.dat st, .dat lD, .dat xD, .dat rD, .no, .no, .no] = .ret (.nx [.dat st, .dat lD, .dat xD, .dat rD, .dat (.ptup (w.map D.bl)), .dat (.int k), .no]) := by
    generalize w.map D.bl = W at *
    simp -implicitDefEqProofs only [defM, defR, lawM, fin, sSeq, sExpr, sAsg, sAsgB, sPat, sPatB, sOwn, sOwnB, sPar, sPar3, sRet, sRetN, sIf, sFor, sForB, sApp, sAppB, sExt, sExtB, sSet, sFz, sNext, sBreak, sCont, sAug, sAugL, sErrF, sErr, sParX, sParX3, agGo, Fl.next, Fl.turn, vB, ok1, okL, mVar, mC, mOp, mUn, mNil, mCons, mCB, mCBn, mCall, mTup, mLst, mNew, asB, cOf, cAnd, cOr, cNot, cYes, mAnd, mOr, mNot, mIf, mChain, oNone, asI, oSome, mOpN, mPt, iL, iT, mFld, mProp, mLenI, mSlT, mSlL, pName, pGo, pTup, pLst, wipeE, mIsT, mCallR, mDraw, isRow, look, M.bind_ret, M.bind_err, M.bind_bad, M.bind_draw, M.ofO_some, M.ofO_none, M.calm_ret, M.calm_bad, M.calm_draw, M.bind_assoc, M.wp_ret, List.length_cons, List.length_nil, List.map_cons, List.map_nil, List.replicate_zero, List.replicate_succ, List.cons_append, List.nil_append, List.set_cons_zero, List.set_cons_succ, List.getElem?_cons_zero, List.getElem?_cons_succ, Nat.reduceAdd, Nat.reduceSub, Nat.reduceLeDiff, Nat.reduceEqDiff, if_true, if_false, ite_true, ite_false, reduceIte, Bool.not_true, Bool.not_false, Bool.false_eq_true, h]
  unfold m_first_to_know defM
  refine (if_pos rfl).trans ?_
  show M.bind (sSeq (sPat (pTup [(pName 4), (pName 5)]) (mCall m_spoken (mCons (mVar 0) (mCons (mVar 1) (mCons (mVar 2) (mCons (mVar 3) mNil)))))) _ [.dat st, .dat lD, .dat xD, .dat rD, .no, .no, .no]) fin = _
  rw [seq_nx t1]
  by_cases hin : true ∈ w
  · rw [decide_eq_true hin] at hi
    rw [if_pos hin]
    have t2 : sIf (cOf (mOp (fIn true) (mC (.bl true)) (mVar 4))) (sRet (mC .non)) sNext [.dat st, .dat lD, .dat xD, .dat rD, .dat (.ptup (w.map D.bl)), .dat (.int k), .no] = .ret (.nx [.dat st, .dat lD, .dat xD, .dat rD, .dat (.ptup (w.map D.bl)), .dat (.int k), .no]) := by
      generalize w.map D.bl = W at *
      simp -implicitDefEqProofs only [defM, defR, lawM, fin, sSeq, sExpr, sAsg, sAsgB, sPat, sPatB, sOwn, sOwnB, sPar, sPar3, sRet, sRetN, sIf, sFor, sForB, sApp, sAppB, sExt, sExtB, sSet, sFz, sNext, sBreak, sCont, sAug, sAugL, sErrF, sErr, sParX, sParX3, agGo, Fl.next, Fl.turn, vB, ok1, okL, mVar, mC, mOp, mUn, mNil, mCons, mCB, mCBn, mCall, mTup, mLst, mNew, asB, cOf, cAnd, cOr, cNot, cYes, mAnd, mOr, mNot, mIf, mChain, oNone, asI, oSome, mOpN, mPt, iL, iT, mFld, mProp, mLenI, mSlT, mSlL, pName, pGo, pTup, pLst, wipeE, mIsT, mCallR, mDraw, isRow, look, M.bind_ret, M.bind_err, M.bind_bad, M.bind_draw, M.ofO_some, M.ofO_none, M.calm_ret, M.calm_bad, M.calm_draw, M.bind_assoc, M.wp_ret, List.length_cons, List.length_nil, List.map_cons, List.map_nil, List.replicate_zero, List.replicate_succ, List.cons_append, List.nil_append, List.set_cons_zero, List.set_cons_succ, List.getElem?_cons_zero, List.getElem?_cons_succ, Nat.reduceAdd, Nat.reduceSub, Nat.reduceLeDiff, Nat.reduceEqDiff, if_true, if_false, ite_true, ite_false, reduceIte, Bool.not_true, Bool.not_false, Bool.false_eq_true, hi]
    have ti := t_idxB (a := mVar 4) (c := mC (.bl true)) (ρ := [.dat st, .dat lD, .dat xD, .dat rD, .dat (.ptup (w.map D.bl)), .dat (.int k), .no]) (w := w) (b := true) rfl rfl hin
    have t3 : sAsg 6 (mTIdx (mVar 4) (mC (.bl true))) [.dat st, .dat lD, .dat xD, .dat rD, .dat (.ptup (w.map D.bl)), .dat (.int k), .no] = .ret (.nx [.dat st, .dat lD, .dat xD, .dat rD, .dat (.ptup (w.map D.bl)), .dat (.int k), .dat (.int (w.idxOf true : Nat))]) := by
      unfold sAsg
      rw [ti]
      rfl
    have hmod : fMod (.int (w.idxOf true : Nat)) (.int (m : Nat)) = some (.int ((w.idxOf true % m : Nat) : Int)) := by
      have hc0 : cMod (w.idxOf true : Nat) (m : Nat) = true := decide_eq_true (by omega)
      exact (if_pos hc0).trans (by simp)
    have h2 : (2 : Nat) ≤ 100000 := by omega
    rw [seq_nx t2, seq_nx t3]
    generalize w.map D.bl = W at *
    generalize w.idxOf true = ii at *
    simp -implicitDefEqProofs only [defM, defR, lawM, fin, sSeq, sExpr, sAsg, sAsgB, sPat, sPatB, sOwn, sOwnB, sPar, sPar3, sRet, sRetN, sIf, sFor, sForB, sApp, sAppB, sExt, sExtB, sSet, sFz, sNext, sBreak, sCont, sAug, sAugL, sErrF, sErr, sParX, sParX3, agGo, Fl.next, Fl.turn, vB, ok1, okL, mVar, mC, mOp, mUn, mNil, mCons, mCB, mCBn, mCall, mTup, mLst, mNew, asB, cOf, cAnd, cOr, cNot, cYes, mAnd, mOr, mNot, mIf, mChain, oNone, asI, oSome, mOpN, mPt, iL, iT, mFld, mProp, mLenI, mSlT, mSlL, pName, pGo, pTup, pLst, wipeE, mIsT, mCallR, mDraw, isRow, look, M.bind_ret, M.bind_err, M.bind_bad, M.bind_draw, M.ofO_some, M.ofO_none, M.calm_ret, M.calm_bad, M.calm_draw, M.bind_assoc, M.wp_ret, List.length_cons, List.length_nil, List.map_cons, List.map_nil, List.replicate_zero, List.replicate_succ, List.cons_append, List.nil_append, List.set_cons_zero, List.set_cons_succ, List.getElem?_cons_zero, List.getElem?_cons_succ, Nat.reduceAdd, Nat.reduceSub, Nat.reduceLeDiff, Nat.reduceEqDiff, if_true, if_false, ite_true, ite_false, reduceIte, Bool.not_true, Bool.not_false, Bool.false_eq_true, hl, hmod, h2]
  · rw [decide_eq_false hin] at hi
    rw [if_neg hin]
    generalize w.map D.bl = W at *
    simp -implicitDefEqProofs only [defM, defR, lawM, fin, sSeq, sExpr, sAsg, sAsgB, sPat, sPatB, sOwn, sOwnB, sPar, sPar3, sRet, sRetN, sIf, sFor, sForB, sApp, sAppB, sExt, sExtB, sSet, sFz, sNext, sBreak, sCont, sAug, sAugL, sErrF, sErr, sParX, sParX3, agGo, Fl.next, Fl.turn, vB, ok1, okL, mVar, mC, mOp, mUn, mNil, mCons, mCB, mCBn, mCall, mTup, mLst, mNew, asB, cOf, cAnd, cOr, cNot, cYes, mAnd, mOr, mNot, mIf, mChain, oNone, asI, oSome, mOpN, mPt, iL, iT, mFld, mProp, mLenI, mSlT, mSlL, pName, pGo, pTup, pLst, wipeE, mIsT, mCallR, mDraw, isRow, look, M.bind_ret, M.bind_err, M.bind_bad, M.bind_draw, M.ofO_some, M.ofO_none, M.calm_ret, M.calm_bad, M.calm_draw, M.bind_assoc, M.wp_ret, List.length_cons, List.length_nil, List.map_cons, List.map_nil, List.replicate_zero, List.replicate_succ, List.cons_append, List.nil_append, List.set_cons_zero, List.set_cons_succ, List.getElem?_cons_zero, List.getElem?_cons_succ, Nat.reduceAdd, Nat.reduceSub, Nat.reduceLeDiff, Nat.reduceEqDiff, if_true, if_false, ite_true, ite_false, reduceIte, Bool.not_true, Bool.not_false, Bool.false_eq_true, hi]
theorem x_kf (K : Kn st all n cnt x) (hall : m_all_layouts [st] = .ret (.lst (all.map rw))) (hin : lay ∈ all) (hr : ∀ q ∈ R ++ [r], (∀ d ∈ q, d < n) ∧ q.length ≤ 1000) (hR : R.length ≤ 900) : m_knows_first [st, rw lay, .str x, .ptup (rsD R), .ptup (jD r)] = .ret (.bl ((rnd cnt x lay (R ++ [r]) all []).1.getLastD false)) := by
  have e := x_round K hin (fun _ h => h) K.len hr (by simp; omega)
  have hrl := rnd_len (cnt := cnt) (x := x) (lay := lay) (R ++ [r]) all []
  have ec : fCatT (.ptup (rsD R)) (.ptup [.ptup (jD r)]) = some (.ptup (rsD (R ++ [r]))) := by
    rw [f_catT (by simp [rsD]; omega)]
    simp [rsD]
  generalize (rnd cnt x lay (R ++ [r]) all []).1 = W at *
  have hW : 1 ≤ W.length := by rw [hrl]; simp
  have ei : fIx (.ptup (W.map D.bl)) (.int (-1)) = some (.bl (W.getLastD false)) := by
    have h0 : ixN (W.map D.bl).length (-1) = some (W.length - 1) := by
      unfold ixN
      rw [if_neg (by decide), if_pos (by simp; omega)]
      simp; omega
    show atI (W.map D.bl) (-1) = _
    unfold atI
    rw [h0]
    show (W.map D.bl)[W.length - 1]? = _
    rw [List.getElem?_map, List.getElem?_eq_getElem (by omega)]
    cases W with
    | nil => simp at hW
    | cons a W => simp [List.getLastD, List.getLast_eq_getElem]
  have h1 : (1 : Nat) ≤ 100000 := by omega
  generalize W.map D.bl = WD at *
  generalize rsD (R ++ [r]) = R2 at *
  generalize rsD R = R1 at *
  generalize jD r = J at *
  generalize (rnd cnt x lay _ all []).2.map rw = Z at *
  generalize all.map rw = A at *
  have en : fNeg (.int 1) = some (.int (-1)) := rfl
  simp -implicitDefEqProofs only [defM, defR, lawM, fin, sSeq, sExpr, sAsg, sAsgB, sPat, sPatB, sOwn, sOwnB, sPar, sPar3, sRet, sRetN, sIf, sFor, sForB, sApp, sAppB, sExt, sExtB, sSet, sFz, sNext, sBreak, sCont, sAug, sAugL, sErrF, sErr, sParX, sParX3, agGo, Fl.next, Fl.turn, vB, ok1, okL, mVar, mC, mOp, mUn, mNil, mCons, mCB, mCBn, mCall, mTup, mLst, mNew, asB, cOf, cAnd, cOr, cNot, cYes, mAnd, mOr, mNot, mIf, mChain, oNone, asI, oSome, mOpN, mPt, iL, iT, mFld, mProp, mLenI, mSlT, mSlL, pName, pGo, pTup, pLst, wipeE, mIsT, mCallR, mDraw, isRow, look, M.bind_ret, M.bind_err, M.bind_bad, M.bind_draw, M.ofO_some, M.ofO_none, M.calm_ret, M.calm_bad, M.calm_draw, M.bind_assoc, M.wp_ret, List.length_cons, List.length_nil, List.map_cons, List.map_nil, List.replicate_zero, List.replicate_succ, List.cons_append, List.nil_append, List.set_cons_zero, List.set_cons_succ, List.getElem?_cons_zero, List.getElem?_cons_succ, Nat.reduceAdd, Nat.reduceSub, Nat.reduceLeDiff, Nat.reduceEqDiff, if_true, if_false, ite_true, ite_false, reduceIte, Bool.not_true, Bool.not_false, Bool.false_eq_true, m_knows_first, ec, hall, e, ei, en, h1]
end
end
end My

namespace My
open PySem L2 Cc Mi Wm
variable [PW]
noncomputable section
abbrev l2 : List (Int × Int) := [(5, 1), (3, 2)]
abbrev cr2 : D := .ptup [.str "fig", .str "plum"]
abbrev stD (C : Addr) : D := stT C l2 (.ptup [.ptup [.int 0], .ptup [.int 1, .int 2]]) (.int 3) cr2
theorem x_made (C : Addr) : m_Store___init__ C [.ptup [.ptup [.int 5, .int 1], .ptup [.int 3, .int 2]], cr2] = .ret (stD C) := by kernel_rfl
def L6 : List Row := [[none, some "fig", some "plum"], [none, some "plum", some "fig"], [some "fig", none, some "plum"], [some "fig", some "plum", none], [some "plum", none, some "fig"], [some "plum", some "fig", none]]
theorem x_all6 (C : Addr) : m_all_layouts [stD C] = .ret (.lst (L6.map rw)) := by kernel_rfl
def layG : Row := [some "fig", none, some "plum"]
def cn2 (d : Nat) (y : Row) : Row := if d = 0 then y.take 1 else y.drop 1
theorem x_con (C : Addr) : ∀ y ∈ L6, ∀ d < 2, m_contents [stD C, rw y, .int (d : Nat)] = .ret (rw (cn2 d y)) := by
  intro y hy d hd
  have hd2 : d = 0 ∨ d = 1 := by omega
  simp only [L6, List.mem_cons, List.not_mem_nil, or_false] at hy
  rcases hy with rfl | rfl | rfl | rfl | rfl | rfl <;> rcases hd2 with rfl | rfl <;> kernel_rfl
theorem l6_has : ∀ y ∈ L6, (some ("fig" : Str) ∈ y ∧ some ("plum" : Str) ∈ y) ∧ y.length ≤ 60 := by decide
def nm2 : List Str := ["fig", "plum"]
theorem kn2 (C : Addr) {x : Str} (hx : x ∈ nm2) : Kn (stD C) L6 2 cn2 x where
  con := x_con C
  len := by decide
  has := fun y hy => by
    simp only [nm2, List.mem_cons, List.not_mem_nil, or_false] at hx
    rcases hx with rfl | rfl
    · exact (l6_has y hy).1.1
    · exact (l6_has y hy).1.2
  row := fun y hy => (l6_has y hy).2
inductive Bd where
  | g | two | neg | tr
def Bd.ds : Bd → List D
  | .g => []
  | .two => [.int 2]
  | .neg => [.int (-1)]
  | .tr => [.bl true]
abbrev RwI := List Nat × Bd
def rowI (p : RwI) : D := .ptup (jD p.1 ++ p.2.ds)
def bdB (p : RwI) : Bool := match p.2 with
  | .g => false
  | _ => true
def RwOk (p : RwI) : Prop := (∀ d ∈ p.1, d < 2) ∧ p.1.length ≤ 2
theorem x_hd (C : Addr) {d : Nat} (h : d < 2) : m_has_door [stD C, .int (d : Nat)] = .ret (.bl true) := by
  have hd2 : d = 0 ∨ d = 1 := by omega
  rcases hd2 with rfl | rfl <;> kernel_rfl
theorem x_door2 (C : Addr) : m_has_door [stD C, .int 2] = .ret (.bl false) := by kernel_rfl
theorem x_doorN (C : Addr) : m_has_door [stD C, .int (-1)] = .ret (.bl false) := by kernel_rfl
theorem x_doorT (C : Addr) : m_has_door [stD C, .bl true] = .ret (.bl false) := by kernel_rfl
def allD (p : RwI) : List Bool := (p.1.map fun _ => true) ++ (if bdB p then [false] else [])
theorem lc_app {p : Pat} {c : Mi.Env → M Bool} {e : Mi.Env → M D} {ρ : Mi.Env} {bs : List D} {es : List D} : ∀ {as ds : List D}, lcGo p c e ρ as = .ret ds → lcGo p c e ρ bs = .ret es → lcGo p c e ρ (as ++ bs) = .ret (ds ++ es)
  | [], ds, h, h2 => by cases h; exact h2
  | a :: as, ds, h, h2 => by
    rw [List.cons_append, lcGo]
    rw [lcGo] at h
    cases hp : p a ρ with
    | none => rw [hp] at h; cases h
    | some ρ1 =>
      rw [hp] at h
      dsimp only at h ⊢
      cases hc : c ρ1 with
      | ret b =>
        rw [hc] at h
        cases b with
        | false =>
          rw [M.bind_ret, if_neg Bool.false_ne_true] at h ⊢
          exact lc_app h h2
        | true =>
          rw [M.bind_ret, if_pos rfl] at h ⊢
          cases he : e ρ1 with
          | ret x =>
            rw [he] at h
            rw [M.bind_ret] at h ⊢
            cases hr : lcGo p c e ρ as with
            | ret xs =>
              rw [hr, M.bind_ret] at h
              cases h
              rw [lc_app hr h2, M.bind_ret]
              rfl
            | err _ _ => rw [hr] at h; cases h
            | bad => rw [hr] at h; cases h
            | draw _ _ => rw [hr] at h; cases h
          | err _ _ => rw [he] at h; cases h
          | bad => rw [he] at h; cases h
          | draw _ _ => rw [he] at h; cases h
      | err _ _ => rw [hc] at h; cases h
      | bad => rw [hc] at h; cases h
      | draw _ _ => rw [hc] at h; cases h
theorem row_doors (C : Addr) {p : RwI} (hp : RwOk p) {s1 s2 s3 s4 s5 : Sl} : lcGo (pName 6) cYes (mCall (fun ds => (m_has_door ds).calm) (mCons (mVar 0) (mCons (mVar 6) mNil))) [.dat (stD C), s1, s2, s3, s4, s5, .no] (jD p.1 ++ p.2.ds) = .ret ((allD p).map D.bl) := by
  unfold allD
  rw [List.map_append]
  refine lc_app ?_ ?_
  · rw [List.map_map]
    unfold jD
    refine lcGo_map (fun k : Nat => D.int (k : Int)) (fun _ => D.bl true) p.1 fun d hd => ⟨_, rfl, rfl, ?_⟩
    have := x_hd C (hp.1 d hd)
    generalize stD C = S at *
    simp -implicitDefEqProofs only [defM, defR, lawM, fin, sSeq, sExpr, sAsg, sAsgB, sPat, sPatB, sOwn, sOwnB, sPar, sPar3, sRet, sRetN, sIf, sFor, sForB, sApp, sAppB, sExt, sExtB, sSet, sFz, sNext, sBreak, sCont, sAug, sAugL, sErrF, sErr, sParX, sParX3, agGo, Fl.next, Fl.turn, vB, ok1, okL, mVar, mC, mOp, mUn, mNil, mCons, mCB, mCBn, mCall, mTup, mLst, mNew, asB, cOf, cAnd, cOr, cNot, cYes, mAnd, mOr, mNot, mIf, mChain, oNone, asI, oSome, mOpN, mPt, iL, iT, mFld, mProp, mLenI, mSlT, mSlL, pName, pGo, pTup, pLst, wipeE, mIsT, mCallR, mDraw, isRow, look, M.bind_ret, M.bind_err, M.bind_bad, M.bind_draw, M.ofO_some, M.ofO_none, M.calm_ret, M.calm_bad, M.calm_draw, M.bind_assoc, M.wp_ret, List.length_cons, List.length_nil, List.map_cons, List.map_nil, List.replicate_zero, List.replicate_succ, List.cons_append, List.nil_append, List.set_cons_zero, List.set_cons_succ, List.getElem?_cons_zero, List.getElem?_cons_succ, Nat.reduceAdd, Nat.reduceSub, Nat.reduceLeDiff, Nat.reduceEqDiff, if_true, if_false, ite_true, ite_false, reduceIte, Bool.not_true, Bool.not_false, Bool.false_eq_true, this]
  · have e2 := x_door2 C
    have eN := x_doorN C
    have eT := x_doorT C
    obtain ⟨gs, b⟩ := p
    generalize stD C = S at *
    cases b <;> simp -implicitDefEqProofs only [defM, defR, lawM, fin, sSeq, sExpr, sAsg, sAsgB, sPat, sPatB, sOwn, sOwnB, sPar, sPar3, sRet, sRetN, sIf, sFor, sForB, sApp, sAppB, sExt, sExtB, sSet, sFz, sNext, sBreak, sCont, sAug, sAugL, sErrF, sErr, sParX, sParX3, agGo, Fl.next, Fl.turn, vB, ok1, okL, mVar, mC, mOp, mUn, mNil, mCons, mCB, mCBn, mCall, mTup, mLst, mNew, asB, cOf, cAnd, cOr, cNot, cYes, mAnd, mOr, mNot, mIf, mChain, oNone, asI, oSome, mOpN, mPt, iL, iT, mFld, mProp, mLenI, mSlT, mSlL, pName, pGo, pTup, pLst, wipeE, mIsT, mCallR, mDraw, isRow, look, M.bind_ret, M.bind_err, M.bind_bad, M.bind_draw, M.ofO_some, M.ofO_none, M.calm_ret, M.calm_bad, M.calm_draw, M.bind_assoc, M.wp_ret, List.length_cons, List.length_nil, List.map_cons, List.map_nil, List.replicate_zero, List.replicate_succ, List.cons_append, List.nil_append, List.set_cons_zero, List.set_cons_succ, List.getElem?_cons_zero, List.getElem?_cons_succ, Nat.reduceAdd, Nat.reduceSub, Nat.reduceLeDiff, Nat.reduceEqDiff, if_true, if_false, ite_true, ite_false, reduceIte, Bool.not_true, Bool.not_false, Bool.false_eq_true, Bd.ds, bdB, lcGo, e2, eN, eT]
def chk : Nat → List RwI → Option Nat
  | _, [] => none
  | k, p :: P => if 3 ≤ k ∨ bdB p = true then some k else chk (k + 1) P
def ckB : Mi.Env → M Fl := (sIf (cOr (cOf (mOp fGe (mVar 4) (mC (.int 3)))) (cNot (cOf (mCB fAll (mCons (mNew (mLc (iT (mVar 5)) (pName 6) cYes (mCall (fun ds => (m_has_door ds).calm) (mCons (mVar 0) (mCons (mVar 6) mNil))) [6])) mNil))))) (sErrF "InvalidRows" (mVar 4)) sNext)
theorem all_bd (p : RwI) : (allD p).all id = !bdB p := by
  unfold allD
  rw [List.all_append]
  have : (p.1.map fun _ => true).all id = true := by simp
  rw [this]
  cases bdB p <;> rfl
theorem shown_small {k : Nat} (hk : k ≤ 100) : shown (.int (k : Nat)) = true := by
  have key : ∀ k : Nat, k < 101 → shown (.int (k : Nat)) = true := by decide +kernel
  exact key k (by omega)
theorem ck_body (C : Addr) {p : RwI} (hp : RwOk p) {k : Nat} (hk : k ≤ 100) {d1 d2 d3 : D} : ckB [.dat (stD C), .dat d1, .dat d2, .dat d3, .dat (.int (k : Nat)), .dat (rowI p), .no] = if 3 ≤ k ∨ bdB p = true then .err "InvalidRows" [.int (k : Nat)] else .ret (.nx [.dat (stD C), .dat d1, .dat d2, .dat d3, .dat (.int (k : Nat)), .dat (rowI p), .no]) := by
  have e := row_doors C hp (s1 := .dat d1) (s2 := .dat d2) (s3 := .dat d3) (s4 := .dat (.int (k : Nat))) (s5 := .dat (rowI p))
  have hl : (jD p.1 ++ p.2.ds).length ≤ 100000 := by
    have := hp.2
    have h2 : p.2.ds.length ≤ 1 := by cases p.2 <;> simp [Bd.ds]
    simp; omega
  have ea : fAll [.lst ((allD p).map D.bl)] = some (.bl (!bdB p)) := by rw [all_map, all_bd]
  unfold rowI at e ⊢
  generalize jD p.1 ++ p.2.ds = J at *
  generalize (allD p).map D.bl = A at *
  generalize stD C = S at *
  have eg : fGe (.int (k : Nat)) (.int 3) = some (.bl (decide (3 ≤ k))) := by
    show some (D.bl (decide (((3 : Int)) ≤ ((k : Nat) : Int)))) = _
    congr 2
    by_cases h : 3 ≤ k
    · rw [decide_eq_true h, decide_eq_true (by omega)]
    · rw [decide_eq_false h, decide_eq_false (by omega)]
  have es := shown_small hk
  unfold ckB
  by_cases h3 : 3 ≤ k
  · rw [if_pos (.inl h3)]
    rw [decide_eq_true h3] at eg
    simp -implicitDefEqProofs only [defM, defR, lawM, fin, sSeq, sExpr, sAsg, sAsgB, sPat, sPatB, sOwn, sOwnB, sPar, sPar3, sRet, sRetN, sIf, sFor, sForB, sApp, sAppB, sExt, sExtB, sSet, sFz, sNext, sBreak, sCont, sAug, sAugL, sErrF, sErr, sParX, sParX3, agGo, Fl.next, Fl.turn, vB, ok1, okL, mVar, mC, mOp, mUn, mNil, mCons, mCB, mCBn, mCall, mTup, mLst, mNew, asB, cOf, cAnd, cOr, cNot, cYes, mAnd, mOr, mNot, mIf, mChain, oNone, asI, oSome, mOpN, mPt, iL, iT, mFld, mProp, mLenI, mSlT, mSlL, pName, pGo, pTup, pLst, wipeE, mIsT, mCallR, mDraw, isRow, look, M.bind_ret, M.bind_err, M.bind_bad, M.bind_draw, M.ofO_some, M.ofO_none, M.calm_ret, M.calm_bad, M.calm_draw, M.bind_assoc, M.wp_ret, List.length_cons, List.length_nil, List.map_cons, List.map_nil, List.replicate_zero, List.replicate_succ, List.cons_append, List.nil_append, List.set_cons_zero, List.set_cons_succ, List.getElem?_cons_zero, List.getElem?_cons_succ, Nat.reduceAdd, Nat.reduceSub, Nat.reduceLeDiff, Nat.reduceEqDiff, if_true, if_false, ite_true, ite_false, reduceIte, Bool.not_true, Bool.not_false, Bool.false_eq_true, eg, es]
  · rw [decide_eq_false h3] at eg
    cases hb : bdB p with
    | true =>
      rw [hb] at ea
      rw [if_pos (.inr rfl)]
      simp -implicitDefEqProofs only [defM, defR, lawM, fin, sSeq, sExpr, sAsg, sAsgB, sPat, sPatB, sOwn, sOwnB, sPar, sPar3, sRet, sRetN, sIf, sFor, sForB, sApp, sAppB, sExt, sExtB, sSet, sFz, sNext, sBreak, sCont, sAug, sAugL, sErrF, sErr, sParX, sParX3, agGo, Fl.next, Fl.turn, vB, ok1, okL, mVar, mC, mOp, mUn, mNil, mCons, mCB, mCBn, mCall, mTup, mLst, mNew, asB, cOf, cAnd, cOr, cNot, cYes, mAnd, mOr, mNot, mIf, mChain, oNone, asI, oSome, mOpN, mPt, iL, iT, mFld, mProp, mLenI, mSlT, mSlL, pName, pGo, pTup, pLst, wipeE, mIsT, mCallR, mDraw, isRow, look, M.bind_ret, M.bind_err, M.bind_bad, M.bind_draw, M.ofO_some, M.ofO_none, M.calm_ret, M.calm_bad, M.calm_draw, M.bind_assoc, M.wp_ret, List.length_cons, List.length_nil, List.map_cons, List.map_nil, List.replicate_zero, List.replicate_succ, List.cons_append, List.nil_append, List.set_cons_zero, List.set_cons_succ, List.getElem?_cons_zero, List.getElem?_cons_succ, Nat.reduceAdd, Nat.reduceSub, Nat.reduceLeDiff, Nat.reduceEqDiff, if_true, if_false, ite_true, ite_false, reduceIte, Bool.not_true, Bool.not_false, Bool.false_eq_true, eg, mLc, hl, e, ea, es]
    | false =>
      rw [hb] at ea
      rw [if_neg (by simp [h3])]
      simp -implicitDefEqProofs only [defM, defR, lawM, fin, sSeq, sExpr, sAsg, sAsgB, sPat, sPatB, sOwn, sOwnB, sPar, sPar3, sRet, sRetN, sIf, sFor, sForB, sApp, sAppB, sExt, sExtB, sSet, sFz, sNext, sBreak, sCont, sAug, sAugL, sErrF, sErr, sParX, sParX3, agGo, Fl.next, Fl.turn, vB, ok1, okL, mVar, mC, mOp, mUn, mNil, mCons, mCB, mCBn, mCall, mTup, mLst, mNew, asB, cOf, cAnd, cOr, cNot, cYes, mAnd, mOr, mNot, mIf, mChain, oNone, asI, oSome, mOpN, mPt, iL, iT, mFld, mProp, mLenI, mSlT, mSlL, pName, pGo, pTup, pLst, wipeE, mIsT, mCallR, mDraw, isRow, look, M.bind_ret, M.bind_err, M.bind_bad, M.bind_draw, M.ofO_some, M.ofO_none, M.calm_ret, M.calm_bad, M.calm_draw, M.bind_assoc, M.wp_ret, List.length_cons, List.length_nil, List.map_cons, List.map_nil, List.replicate_zero, List.replicate_succ, List.cons_append, List.nil_append, List.set_cons_zero, List.set_cons_succ, List.getElem?_cons_zero, List.getElem?_cons_succ, Nat.reduceAdd, Nat.reduceSub, Nat.reduceLeDiff, Nat.reduceEqDiff, if_true, if_false, ite_true, ite_false, reduceIte, Bool.not_true, Bool.not_false, Bool.false_eq_true, eg, mLc, hl, e, ea]
end
end My

namespace My
open PySem L2 Cc Mi Wm
variable [PW]
noncomputable section
theorem en_rows (P : List RwI) : enD (P.map rowI) = (P.zipIdx 0).map fun q => D.tup [.int (q.2 : Nat), rowI q.1] := by
  unfold enD
  refine List.ext_getElem (by simp) fun i h1 h2 => ?_
  have hi : i < P.length := by simpa using h1
  simp [hi]
theorem chk_run (C : Addr) {d1 d2 d3 : D} : ∀ (P : List RwI) (k : Nat) (s4 s5 : Sl), k + P.length ≤ 100 → (∀ p ∈ P, RwOk p) →
    match chk k P with
    | some j => forGo (pTup [(pName 4), (pName 5)]) ckB ((P.zipIdx k).map fun q => D.tup [.int (q.2 : Nat), rowI q.1]) [.dat (stD C), .dat d1, .dat d2, .dat d3, s4, s5, .no] = .err "InvalidRows" [.int (j : Nat)]
    | none => ∃ ρ', forGo (pTup [(pName 4), (pName 5)]) ckB ((P.zipIdx k).map fun q => D.tup [.int (q.2 : Nat), rowI q.1]) [.dat (stD C), .dat d1, .dat d2, .dat d3, s4, s5, .no] = .ret (.nx ρ')
  | [], k, s4, s5, _, _ => ⟨_, rfl⟩
  | p :: P, k, s4, s5, hk, hw => by
    rw [List.length_cons] at hk
    have run := ck_body C (hw p (by simp)) (k := k) (by omega) (d1 := d1) (d2 := d2) (d3 := d3)
    have ih := chk_run C (d1 := d1) (d2 := d2) (d3 := d3) P (k + 1) (.dat (.int (k : Nat))) (.dat (rowI p)) (by omega) fun q hq => hw q (by simp [hq])
    have ep : (pTup [(pName 4), (pName 5)]) (D.tup [.int (k : Nat), rowI p]) [.dat (stD C), .dat d1, .dat d2, .dat d3, s4, s5, .no] = some [.dat (stD C), .dat d1, .dat d2, .dat d3, .dat (.int (k : Nat)), .dat (rowI p), .no] := rfl
    rw [List.zipIdx_cons, List.map_cons]
    unfold forGo
    rw [ep]
    dsimp only
    rw [run]
    unfold chk
    by_cases h : 3 ≤ k ∨ bdB p = true
    · rw [if_pos h, if_pos h]
      rfl
    · rw [if_neg h, if_neg h, M.bind_ret]
      exact ih
def dueO (P : List RwI) : Option Nat := if P = [] then some 0 else chk 0 P
def ilA : Mi.Env → M D := (mCB fAll (mCons (mNew (mLc (iL (mVar 2)) (pName 3) cYes (mIsT "str" (mVar 3)) [3])) mNil))
def ilC : Mi.Env → M D := (mNew (mCBn fList (mCons (mProp stP m_Store_crates (mVar 0)) mNil)))
theorem x_il (C : Addr) {ds : List D} {xs ys : List Str} {b : Bool} (h1 : (sSeq (sIf (cOr (cNot (cOf (mIsT "tuple" (mVar 1)))) (cOf (mOp fNe (mCB fLen (mCons (mVar 1) mNil)) (mProp stP m_Store_size (mVar 0))))) (sRet (mC (.bl false))) sNext) (sAsg 2 (mNew (mLc (iT (mVar 1)) (pName 3) (cOf (mOp fNotN (mVar 3) (mC .non))) (mVar 3) [3])))) [.dat (stD C), .dat (.ptup ds), .no, .no] = .ret (.nx [.dat (stD C), .dat (.ptup ds), .dat (.lst (xs.map D.str)), .no]))
    (h2 : ilA [.dat (stD C), .dat (.ptup ds), .dat (.lst (xs.map D.str)), .no] = .ret (.bl true)) (h3 : fSortD [.lst (xs.map D.str)] = some (ys.map D.str)) (h4 : fEq (.lst (ys.map D.str)) (.lst [.str "fig", .str "plum"]) = some (.bl b)) : m_is_layout [stD C, .ptup ds] = .ret (.bl b) := by
  have hc : ilC [.dat (stD C), .dat (.ptup ds), .dat (.lst (xs.map D.str)), .no] = .ret (.lst [.str "fig", .str "plum"]) := by
    generalize xs.map D.str = X at *
    kernel_rfl
  have hs : (mNew (mCBn fSortD (mCons (mVar 2) mNil))) [.dat (stD C), .dat (.ptup ds), .dat (.lst (xs.map D.str)), .no] = .ret (.lst (ys.map D.str)) := by
    show M.bind (M.bind (M.ret [D.lst (xs.map D.str)]) fun xs => M.ofO (fSortD xs)) _ = _
    rw [M.bind_ret, h3]
    rfl
  generalize xs.map D.str = X at *
  generalize ys.map D.str = Y at *
  have hr : (sRet (mAnd ilA (mOp fEq (mNew (mCBn fSortD (mCons (mVar 2) mNil))) ilC))) [.dat (stD C), .dat (.ptup ds), .dat (.lst X), .no] = .ret (.rt (.bl b)) := by
    show M.bind (M.bind (ilA [.dat (stD C), .dat (.ptup ds), .dat (.lst X), .no]) fun x => (asB x).bind fun k => if k then M.bind ((mNew (mCBn fSortD (mCons (mVar 2) mNil))) [.dat (stD C), .dat (.ptup ds), .dat (.lst X), .no]) (fun x => (ilC [.dat (stD C), .dat (.ptup ds), .dat (.lst X), .no]).bind fun y => M.ofO (fEq x y)) else .ret (.bl false)) _ = _
    rw [h2, hs, hc]
    show M.bind (M.ofO (fEq (.lst Y) (.lst [.str "fig", .str "plum"]))) _ = _
    rw [h4]
    rfl
  unfold m_is_layout defM
  refine (if_pos rfl).trans ?_
  show M.bind (sSeq _ (sSeq _ (sRet (mAnd ilA (mOp fEq (mNew (mCBn fSortD (mCons (mVar 2) mNil))) ilC)))) [.dat (stD C), .dat (.ptup ds), .no, .no]) fin = _
  have as : ∀ (a b c : Mi.Env → M Fl) (ρ ρ' : Mi.Env), sSeq a b ρ = .ret (.nx ρ') → sSeq a (sSeq b c) ρ = c ρ' := fun a b c ρ ρ' h => by
    unfold sSeq at h ⊢
    cases ha : a ρ with
    | ret f =>
      rw [ha] at h
      rw [M.bind_ret] at h ⊢
      cases f with
      | nx ρ2 =>
        show M.bind (b ρ2) _ = _
        have h : b ρ2 = .ret (.nx ρ') := h
        rw [h]
        rfl
      | _ => cases h
    | _ => rw [ha] at h; cases h
  rw [as _ _ _ _ _ h1, hr]
  rfl
theorem le_fp : leS "fig" "plum" = true := by decide +kernel
theorem le_ff : leS "fig" "fig" = true := by decide +kernel
theorem x_ilG (C : Addr) : m_is_layout [stD C, rw layG] = .ret (.bl true) :=
  x_il C (xs := ["fig", "plum"]) (ys := ["fig", "plum"]) (by kernel_rfl) (by kernel_rfl) (f_sortS (.refl _) (by simp [le_fp]) (by simp)) (by kernel_rfl)
theorem x_il1 (C : Addr) : m_is_layout [stD C, .ptup [.non, .str "fig", .str "fig"]] = .ret (.bl false) :=
  x_il C (xs := ["fig", "fig"]) (ys := ["fig", "fig"]) (by kernel_rfl) (by kernel_rfl) (f_sortS (.refl _) (by simp [le_ff]) (by simp)) (by kernel_rfl)
theorem x_layG (C : Addr) : m_check_layout [stD C, rw layG] = .ret .non := by
  have h := x_ilG C
  generalize rw layG = q at *
  generalize stD C = S at *
  simp -implicitDefEqProofs only [defM, defR, lawM, fin, sSeq, sExpr, sAsg, sAsgB, sPat, sPatB, sOwn, sOwnB, sPar, sPar3, sRet, sRetN, sIf, sFor, sForB, sApp, sAppB, sExt, sExtB, sSet, sFz, sNext, sBreak, sCont, sAug, sAugL, sErrF, sErr, sParX, sParX3, agGo, Fl.next, Fl.turn, vB, ok1, okL, mVar, mC, mOp, mUn, mNil, mCons, mCB, mCBn, mCall, mTup, mLst, mNew, asB, cOf, cAnd, cOr, cNot, cYes, mAnd, mOr, mNot, mIf, mChain, oNone, asI, oSome, mOpN, mPt, iL, iT, mFld, mProp, mLenI, mSlT, mSlL, pName, pGo, pTup, pLst, wipeE, mIsT, mCallR, mDraw, isRow, look, M.bind_ret, M.bind_err, M.bind_bad, M.bind_draw, M.ofO_some, M.ofO_none, M.calm_ret, M.calm_bad, M.calm_draw, M.bind_assoc, M.wp_ret, List.length_cons, List.length_nil, List.map_cons, List.map_nil, List.replicate_zero, List.replicate_succ, List.cons_append, List.nil_append, List.set_cons_zero, List.set_cons_succ, List.getElem?_cons_zero, List.getElem?_cons_succ, Nat.reduceAdd, Nat.reduceSub, Nat.reduceLeDiff, Nat.reduceEqDiff, if_true, if_false, ite_true, ite_false, reduceIte, Bool.not_true, Bool.not_false, Bool.false_eq_true, m_check_layout, h]
theorem x_lay1 (C : Addr) : m_check_layout [stD C, .ptup [.non, .str "fig", .str "fig"]] = .err "InvalidLayout" [] := by
  have h := x_il1 C
  generalize stD C = S at *
  simp -implicitDefEqProofs only [defM, defR, lawM, fin, sSeq, sExpr, sAsg, sAsgB, sPat, sPatB, sOwn, sOwnB, sPar, sPar3, sRet, sRetN, sIf, sFor, sForB, sApp, sAppB, sExt, sExtB, sSet, sFz, sNext, sBreak, sCont, sAug, sAugL, sErrF, sErr, sParX, sParX3, agGo, Fl.next, Fl.turn, vB, ok1, okL, mVar, mC, mOp, mUn, mNil, mCons, mCB, mCBn, mCall, mTup, mLst, mNew, asB, cOf, cAnd, cOr, cNot, cYes, mAnd, mOr, mNot, mIf, mChain, oNone, asI, oSome, mOpN, mPt, iL, iT, mFld, mProp, mLenI, mSlT, mSlL, pName, pGo, pTup, pLst, wipeE, mIsT, mCallR, mDraw, isRow, look, M.bind_ret, M.bind_err, M.bind_bad, M.bind_draw, M.ofO_some, M.ofO_none, M.calm_ret, M.calm_bad, M.calm_draw, M.bind_assoc, M.wp_ret, List.length_cons, List.length_nil, List.map_cons, List.map_nil, List.replicate_zero, List.replicate_succ, List.cons_append, List.nil_append, List.set_cons_zero, List.set_cons_succ, List.getElem?_cons_zero, List.getElem?_cons_succ, Nat.reduceAdd, Nat.reduceSub, Nat.reduceLeDiff, Nat.reduceEqDiff, if_true, if_false, ite_true, ite_false, reduceIte, Bool.not_true, Bool.not_false, Bool.false_eq_true, m_check_layout, h]
theorem x_lay2 (C : Addr) : m_check_layout [stD C, .ptup [.str "fig", .str "plum"]] = .err "InvalidLayout" [] := by kernel_rfl
theorem x_crG (C : Addr) {x : Str} (hx : x ∈ nm2) : m_check_crate [stD C, .str x] = .ret .non := by
  simp only [nm2, List.mem_cons, List.not_mem_nil, or_false] at hx
  rcases hx with rfl | rfl <;> kernel_rfl
theorem x_cr1 (C : Addr) : m_check_crate [stD C, .str "kiwi"] = .err "UnknownCrate" [] := by kernel_rfl
theorem x_cr2 (C : Addr) : m_check_crate [stD C, .str ""] = .err "UnknownCrate" [] := by kernel_rfl
theorem x_check (C : Addr) {x : Str} (hx : x ∈ nm2) (P : List RwI) (hl : P.length ≤ 50) (hw : ∀ p ∈ P, RwOk p) : m_check_question [stD C, rw layG, .str x, .ptup (P.map rowI)] = match dueO P with
    | some j => .err "InvalidRows" [.int (j : Nat)]
    | none => .ret .non := by
  have run := chk_run C (d1 := rw layG) (d2 := .str x) (d3 := .ptup (P.map rowI)) P 0 .no .no (by omega) hw
  rw [← en_rows] at run
  have c1 := x_layG C
  have c2 := x_crG C hx
  have hlen : fLen [.ptup (P.map rowI)] = some (.int (P.length : Nat)) := by rw [f_lenP (by simp; omega)]; simp
  have t1 : sExpr (mCall m_check_layout (mCons (mVar 0) (mCons (mVar 1) mNil))) [.dat (stD C), .dat (rw layG), .dat (.str x), .dat (.ptup (P.map rowI)), .no, .no, .no] = .ret (.nx [.dat (stD C), .dat (rw layG), .dat (.str x), .dat (.ptup (P.map rowI)), .no, .no, .no]) := by
    generalize rw layG = q at *
    generalize stD C = S at *
    simp -implicitDefEqProofs only [defM, defR, lawM, fin, sSeq, sExpr, sAsg, sAsgB, sPat, sPatB, sOwn, sOwnB, sPar, sPar3, sRet, sRetN, sIf, sFor, sForB, sApp, sAppB, sExt, sExtB, sSet, sFz, sNext, sBreak, sCont, sAug, sAugL, sErrF, sErr, sParX, sParX3, agGo, Fl.next, Fl.turn, vB, ok1, okL, mVar, mC, mOp, mUn, mNil, mCons, mCB, mCBn, mCall, mTup, mLst, mNew, asB, cOf, cAnd, cOr, cNot, cYes, mAnd, mOr, mNot, mIf, mChain, oNone, asI, oSome, mOpN, mPt, iL, iT, mFld, mProp, mLenI, mSlT, mSlL, pName, pGo, pTup, pLst, wipeE, mIsT, mCallR, mDraw, isRow, look, M.bind_ret, M.bind_err, M.bind_bad, M.bind_draw, M.ofO_some, M.ofO_none, M.calm_ret, M.calm_bad, M.calm_draw, M.bind_assoc, M.wp_ret, List.length_cons, List.length_nil, List.map_cons, List.map_nil, List.replicate_zero, List.replicate_succ, List.cons_append, List.nil_append, List.set_cons_zero, List.set_cons_succ, List.getElem?_cons_zero, List.getElem?_cons_succ, Nat.reduceAdd, Nat.reduceSub, Nat.reduceLeDiff, Nat.reduceEqDiff, if_true, if_false, ite_true, ite_false, reduceIte, Bool.not_true, Bool.not_false, Bool.false_eq_true, c1]
  have t2 : sExpr (mCall m_check_crate (mCons (mVar 0) (mCons (mVar 2) mNil))) [.dat (stD C), .dat (rw layG), .dat (.str x), .dat (.ptup (P.map rowI)), .no, .no, .no] = .ret (.nx [.dat (stD C), .dat (rw layG), .dat (.str x), .dat (.ptup (P.map rowI)), .no, .no, .no]) := by
    generalize rw layG = q at *
    generalize stD C = S at *
    simp -implicitDefEqProofs only [defM, defR, lawM, fin, sSeq, sExpr, sAsg, sAsgB, sPat, sPatB, sOwn, sOwnB, sPar, sPar3, sRet, sRetN, sIf, sFor, sForB, sApp, sAppB, sExt, sExtB, sSet, sFz, sNext, sBreak, sCont, sAug, sAugL, sErrF, sErr, sParX, sParX3, agGo, Fl.next, Fl.turn, vB, ok1, okL, mVar, mC, mOp, mUn, mNil, mCons, mCB, mCBn, mCall, mTup, mLst, mNew, asB, cOf, cAnd, cOr, cNot, cYes, mAnd, mOr, mNot, mIf, mChain, oNone, asI, oSome, mOpN, mPt, iL, iT, mFld, mProp, mLenI, mSlT, mSlL, pName, pGo, pTup, pLst, wipeE, mIsT, mCallR, mDraw, isRow, look, M.bind_ret, M.bind_err, M.bind_bad, M.bind_draw, M.ofO_some, M.ofO_none, M.calm_ret, M.calm_bad, M.calm_draw, M.bind_assoc, M.wp_ret, List.length_cons, List.length_nil, List.map_cons, List.map_nil, List.replicate_zero, List.replicate_succ, List.cons_append, List.nil_append, List.set_cons_zero, List.set_cons_succ, List.getElem?_cons_zero, List.getElem?_cons_succ, Nat.reduceAdd, Nat.reduceSub, Nat.reduceLeDiff, Nat.reduceEqDiff, if_true, if_false, ite_true, ite_false, reduceIte, Bool.not_true, Bool.not_false, Bool.false_eq_true, c2]
  unfold m_check_question defM
  refine (if_pos rfl).trans ?_
  show M.bind (sSeq (sExpr (mCall m_check_layout (mCons (mVar 0) (mCons (mVar 1) mNil)))) (sSeq (sExpr (mCall m_check_crate (mCons (mVar 0) (mCons (mVar 2) mNil)))) (sSeq (sIf (cOf (mOp fEq (mCB fLen (mCons (mVar 3) mNil)) (mC (.int 0)))) (sErrF "InvalidRows" (mC (.int 0))) sNext) (sFor (iEnT (mVar 3)) (pTup [(pName 4), (pName 5)]) ckB))) [.dat (stD C), .dat (rw layG), .dat (.str x), .dat (.ptup (P.map rowI)), .no, .no, .no]) fin = _
  rw [seq_nx t1, seq_nx t2]
  by_cases hP : P = []
  · subst hP
    have es := shown_small (k := 0) (by omega)
    unfold dueO
    rw [if_pos rfl]
    generalize rw layG = q at *
    generalize stD C = S at *
    have es' : shown (.int 0) = true := es
    have hl0 : fLen [.ptup []] = some (.int 0) := hlen
    have e0 : fEq (.int 0) (.int 0) = some (.bl true) := rfl
    simp -implicitDefEqProofs only [defM, defR, lawM, fin, sSeq, sExpr, sAsg, sAsgB, sPat, sPatB, sOwn, sOwnB, sPar, sPar3, sRet, sRetN, sIf, sFor, sForB, sApp, sAppB, sExt, sExtB, sSet, sFz, sNext, sBreak, sCont, sAug, sAugL, sErrF, sErr, sParX, sParX3, agGo, Fl.next, Fl.turn, vB, ok1, okL, mVar, mC, mOp, mUn, mNil, mCons, mCB, mCBn, mCall, mTup, mLst, mNew, asB, cOf, cAnd, cOr, cNot, cYes, mAnd, mOr, mNot, mIf, mChain, oNone, asI, oSome, mOpN, mPt, iL, iT, mFld, mProp, mLenI, mSlT, mSlL, pName, pGo, pTup, pLst, wipeE, mIsT, mCallR, mDraw, isRow, look, M.bind_ret, M.bind_err, M.bind_bad, M.bind_draw, M.ofO_some, M.ofO_none, M.calm_ret, M.calm_bad, M.calm_draw, M.bind_assoc, M.wp_ret, List.length_cons, List.length_nil, List.map_cons, List.map_nil, List.replicate_zero, List.replicate_succ, List.cons_append, List.nil_append, List.set_cons_zero, List.set_cons_succ, List.getElem?_cons_zero, List.getElem?_cons_succ, Nat.reduceAdd, Nat.reduceSub, Nat.reduceLeDiff, Nat.reduceEqDiff, if_true, if_false, ite_true, ite_false, reduceIte, Bool.not_true, Bool.not_false, Bool.false_eq_true, hl0, e0, es']
    rfl
  · have hpos : 0 < P.length := List.length_pos_iff.mpr hP
    have e0 : fEq (.int (P.length : Nat)) (.int 0) = some (.bl false) := by
      have e1 : (((P.length : Nat) : Int) == 0) = false := by
        simp only [beq_eq_false_iff_ne, ne_eq]
        omega
      rw [f_eqI, e1]
    have t3 : sIf (cOf (mOp fEq (mCB fLen (mCons (mVar 3) mNil)) (mC (.int 0)))) (sErrF "InvalidRows" (mC (.int 0))) sNext [.dat (stD C), .dat (rw layG), .dat (.str x), .dat (.ptup (P.map rowI)), .no, .no, .no] = .ret (.nx [.dat (stD C), .dat (rw layG), .dat (.str x), .dat (.ptup (P.map rowI)), .no, .no, .no]) := by
      generalize rw layG = q at *
      generalize stD C = S at *
      generalize P.map rowI = PD at *
      simp -implicitDefEqProofs only [defM, defR, lawM, fin, sSeq, sExpr, sAsg, sAsgB, sPat, sPatB, sOwn, sOwnB, sPar, sPar3, sRet, sRetN, sIf, sFor, sForB, sApp, sAppB, sExt, sExtB, sSet, sFz, sNext, sBreak, sCont, sAug, sAugL, sErrF, sErr, sParX, sParX3, agGo, Fl.next, Fl.turn, vB, ok1, okL, mVar, mC, mOp, mUn, mNil, mCons, mCB, mCBn, mCall, mTup, mLst, mNew, asB, cOf, cAnd, cOr, cNot, cYes, mAnd, mOr, mNot, mIf, mChain, oNone, asI, oSome, mOpN, mPt, iL, iT, mFld, mProp, mLenI, mSlT, mSlL, pName, pGo, pTup, pLst, wipeE, mIsT, mCallR, mDraw, isRow, look, M.bind_ret, M.bind_err, M.bind_bad, M.bind_draw, M.ofO_some, M.ofO_none, M.calm_ret, M.calm_bad, M.calm_draw, M.bind_assoc, M.wp_ret, List.length_cons, List.length_nil, List.map_cons, List.map_nil, List.replicate_zero, List.replicate_succ, List.cons_append, List.nil_append, List.set_cons_zero, List.set_cons_succ, List.getElem?_cons_zero, List.getElem?_cons_succ, Nat.reduceAdd, Nat.reduceSub, Nat.reduceLeDiff, Nat.reduceEqDiff, if_true, if_false, ite_true, ite_false, reduceIte, Bool.not_true, Bool.not_false, Bool.false_eq_true, hlen, e0]
    rw [seq_nx t3]
    unfold dueO
    rw [if_neg hP]
    have hf : sFor (iEnT (mVar 3)) (pTup [(pName 4), (pName 5)]) ckB [.dat (stD C), .dat (rw layG), .dat (.str x), .dat (.ptup (P.map rowI)), .no, .no, .no] = forGo (pTup [(pName 4), (pName 5)]) ckB (enD (P.map rowI)) [.dat (stD C), .dat (rw layG), .dat (.str x), .dat (.ptup (P.map rowI)), .no, .no, .no] := rfl
    rw [hf]
    cases hc : chk 0 P with
    | some j =>
      rw [hc] at run
      dsimp only at run ⊢
      rw [run]
      rfl
    | none =>
      rw [hc] at run
      dsimp only at run ⊢
      obtain ⟨ρ', run⟩ := run
      rw [run]
      rfl
theorem chk_none : ∀ {P : List RwI} {k : Nat}, chk k P = none → (∀ p ∈ P, bdB p = false) ∧ (P = [] ∨ k + P.length ≤ 3)
  | [], _, _ => ⟨fun _ h => (nomatch h), .inl rfl⟩
  | p :: P, k, h => by
    unfold chk at h
    by_cases c : 3 ≤ k ∨ bdB p = true
    · rw [if_pos c] at h; cases h
    · rw [if_neg c] at h
      rw [not_or] at c
      obtain ⟨h1, h2⟩ := chk_none h
      refine ⟨fun q hq => ?_, .inr ?_⟩
      · rcases List.mem_cons.mp hq with rfl | hq
        · simpa using c.2
        · exact h1 q hq
      · rw [List.length_cons]
        rcases h2 with rfl | h2
        · simp; omega
        · omega
theorem rows_good {P : List RwI} (h : ∀ p ∈ P, bdB p = false) : P.map rowI = rsD (P.map (·.1)) := by
  unfold rsD
  rw [List.map_map]
  refine List.map_congr_left fun p hp => ?_
  have := h p hp
  obtain ⟨g, b⟩ := p
  cases b <;> first | exact congrArg D.ptup (List.append_nil (jD g)) | cases this
section
variable {C : Addr} {x : Str} {P : List RwI}
theorem x_spk (hx : x ∈ nm2) (hl : P.length ≤ 50) (hw : ∀ p ∈ P, RwOk p) (hd : dueO P = none) : ∃ (w : List Bool) (k : Int), m_spoken [stD C, rw layG, .str x, .ptup (P.map rowI)] = .ret (.ptup [.ptup (w.map D.bl), .int k]) := by
  have hc : chk 0 P = none := by
    unfold dueO at hd
    split at hd
    · cases hd
    · exact hd
  obtain ⟨h1, h2⟩ := chk_none hc
  have ck := x_check C hx P hl hw
  rw [hd] at ck
  rw [rows_good h1] at ck ⊢
  refine ⟨_, _, x_spoken (kn2 C hx) ck (x_all6 C) (by decide) (by decide) (fun r hr => ?_) ?_⟩
  · obtain ⟨p, hp, rfl⟩ := List.mem_map.mp hr
    exact ⟨(hw p hp).1, by have := (hw p hp).2; omega⟩
  · rw [List.length_map]
    rcases h2 with rfl | h2
    · simp
    · omega
end
end
end My

namespace My
open PySem L2 Cc Mi Wm
variable [PW]
noncomputable section
section
variable {cnt : Nat → Row → Row} {x : Str} {lay : Row}
theorem rnd_snoc : ∀ (R : List (List Nat)) (r : List Nat) (ys : List Row) (sd : List Bool), rnd cnt x lay (R ++ [r]) ys sd = ((rnd cnt x lay R ys sd).1 ++ [kn cnt x r (rnd cnt x lay R ys sd).2 lay], (rnd cnt x lay R ys sd).2.filter fun z => kn cnt x r (rnd cnt x lay R ys sd).2 z == kn cnt x r (rnd cnt x lay R ys sd).2 lay)
  | [], r, ys, sd => rfl
  | q :: R, r, ys, sd => by
    show rnd cnt x lay (R ++ [r]) _ _ = _
    rw [rnd_snoc R]
    rfl
theorem kB_same {g : List Row} (h : g ≠ []) (ha : ∀ z ∈ g, z = lay) : kB x g = true := by
  have : ∀ g : List Row, (∀ z ∈ g, z = lay) → g.foldl (insX x) [((lay.idxOf (some x) : Nat) : Int)] = [((lay.idxOf (some x) : Nat) : Int)] := fun g => by
    induction g with
    | nil => exact fun _ => rfl
    | cons z g ih =>
      intro hz
      rw [List.foldl_cons, hz z (by simp)]
      have e : insX x [((lay.idxOf (some x) : Nat) : Int)] lay = [((lay.idxOf (some x) : Nat) : Int)] := by
        unfold insX insU
        rw [if_neg (Int.lt_irrefl _), if_pos rfl]
      rw [e]
      exact ih fun y hy => hz y (by simp [hy])
  unfold kB
  cases g with
  | nil => exact absurd rfl h
  | cons z g =>
    rw [List.foldl_cons, ha z (by simp)]
    show decide ((g.foldl (insX x) [((lay.idxOf (some x) : Nat) : Int)]).length = 1) = true
    rw [this g fun y hy => ha y (by simp [hy])]
    rfl
end
theorem cn_split (z : Row) : z = cn2 0 z ++ cn2 1 z := (List.take_append_drop 1 z).symm
theorem key_det {r : List Nat} {z : Row} (h : kyN cn2 (r ++ [0, 1]) z = kyN cn2 (r ++ [0, 1]) layG) : z = layG := by
  unfold kyN at h
  have h := NestedKey.tup.inj h
  rw [List.map_append, List.map_append] at h
  have h2 := (List.append_inj h (by simp)).2
  simp only [List.map_cons, List.map_nil, List.cons.injEq, and_true] at h2
  rw [cn_split z, cn_split layG, nk_inj h2.1, nk_inj h2.2]
def SS : List (List Nat) := [[], [0], [0, 1], [1]]
def mn (t : List Nat → Bool) : List Nat := if t [] then [] else if t [0] then [0] else if t [1] then [1] else [0, 1]
theorem x_min (t : List Nat → Bool) (h : t [0, 1] = true) : minKy m_length_and_items ((SS.filter t).map fun s => D.ptup (jD s)) none = .ret (.ptup (jD (mn t))) := by
  unfold SS mn
  simp only [List.filter_cons, List.filter_nil, h, if_true]
  cases t [] <;> cases t [0] <;> cases t [1] <;> kernel_rfl
theorem x_numP (p k : Int) (hp : p = -1 ∨ p = 0 ∨ p = 1 ∨ p = 2 ∨ p = 3) (hk : k = 0 ∨ k = 1 ∨ k = 2) : m_check_number [.int p, .int 0, .int k] = if 0 ≤ p ∧ p ≤ k then .ret .non else .err "InvalidNumber" [] := by
  rcases hp with rfl | rfl | rfl | rfl | rfl <;> rcases hk with rfl | rfl | rfl <;> first | (rw [if_pos (by omega)]; kernel_rfl) | (rw [if_neg (by omega)]; kernel_rfl)
section
variable {C : Addr} {x : Str} {P : List RwI}
theorem x_kf2 (hx : x ∈ nm2) {R : List (List Nat)} {r : List Nat} (hr : ∀ q ∈ R ++ [r], (∀ d ∈ q, d < 2) ∧ q.length ≤ 1000) (hR : R.length ≤ 900) : m_knows_first [stD C, rw layG, .str x, .ptup (rsD R), .ptup (jD r)] = .ret (.bl ((rnd cn2 x layG (R ++ [r]) L6 []).1.getLastD false)) := x_kf (kn2 C hx) (x_all6 C) (by decide) hr hR
theorem kf_all {R : List (List Nat)} {r : List Nat} : (rnd cn2 x layG (R ++ [r ++ [0, 1]]) L6 []).1.getLastD false = true := by
  rw [rnd_snoc]
  have hin := rnd_in (cnt := cn2) (x := x) (lay := layG) R L6 [] (by decide)
  have hs := (rnd_sub (cnt := cn2) (x := x) (lay := layG) R L6 []).subset
  generalize (rnd cn2 x layG R L6 []).2 = ys at *
  show (_ ++ [kn cn2 x (r ++ [0, 1]) ys layG]).getLastD false = true
  have : kn cn2 x (r ++ [0, 1]) ys layG = true := kB_same (lay := layG) (fun z => by
    have : layG ∈ ys.filter fun z => decide (kyN cn2 (r ++ [0, 1]) z = kyN cn2 (r ++ [0, 1]) layG) := List.mem_filter.mpr ⟨hin, decide_eq_true rfl⟩
    rw [z] at this; cases this) fun z hz => key_det (of_decide_eq_true (List.mem_filter.mp hz).2)
  rw [this]
  simp
def ndC : Mi.Env → M Bool := (cOf (mCall (fun ds => (m_knows_first ds).calm) (mCons (mVar 0) (mCons (mVar 1) (mCons (mVar 2) (mCons (mSlT (mVar 3) oNone (oSome (mVar 4))) (mCons (mOp fCatT (mOp fIx (mVar 3) (mVar 4)) (mVar 7)) mNil)))))))
theorem x_need (hx : x ∈ nm2) {R : List (List Nat)} (hR0 : 1 ≤ R.length) (hR : R.length ≤ 3) (hr : ∀ r ∈ R, (∀ d ∈ r, d < 2) ∧ r.length ≤ 2) (ck : m_check_question [stD C, rw layG, .str x, .ptup (rsD R)] = .ret .non) (p : Int) (hp : p = -1 ∨ p = 0 ∨ p = 1 ∨ p = 2 ∨ p = 3) :
    if 0 ≤ p ∧ p < (R.length : Nat) then ∃ d, m_needed_doors [stD C, rw layG, .str x, .ptup (rsD R), .int p] = .ret d else m_needed_doors [stD C, rw layG, .str x, .ptup (rsD R), .int p] = .err "InvalidNumber" [] := by
  have hlen : fLen [.ptup (rsD R)] = some (.int (R.length : Nat)) := by rw [f_lenP (by simp [rsD]; omega)]; simp [rsD]
  have hsub : fSub (.int (R.length : Nat)) (.int 1) = some (.int ((R.length : Int) - 1)) := rfl
  have hn := x_numP p ((R.length : Int) - 1) hp (by omega)
  by_cases hc : 0 ≤ p ∧ p < (R.length : Nat)
  · rw [if_pos (by omega)] at hn
    rw [if_pos hc]
    obtain ⟨i, rfl⟩ : ∃ i : Nat, p = i := ⟨p.toNat, by omega⟩
    have hi : i < R.length := by omega
    have t1 : sExpr (mCall m_check_question (mCons (mVar 0) (mCons (mVar 1) (mCons (mVar 2) (mCons (mVar 3) mNil))))) [.dat (stD C), .dat (rw layG), .dat (.str x), .dat (.ptup (rsD R)), .dat (.int (i : Nat)), .no, .no, .no] = .ret (.nx [.dat (stD C), .dat (rw layG), .dat (.str x), .dat (.ptup (rsD R)), .dat (.int (i : Nat)), .no, .no, .no]) := by
      generalize rw layG = q at *
      generalize stD C = S at *
      generalize rsD R = RD at *
      simp -implicitDefEqProofs only [defM, defR, lawM, fin, sSeq, sExpr, sAsg, sAsgB, sPat, sPatB, sOwn, sOwnB, sPar, sPar3, sRet, sRetN, sIf, sFor, sForB, sApp, sAppB, sExt, sExtB, sSet, sFz, sNext, sBreak, sCont, sAug, sAugL, sErrF, sErr, sParX, sParX3, agGo, Fl.next, Fl.turn, vB, ok1, okL, mVar, mC, mOp, mUn, mNil, mCons, mCB, mCBn, mCall, mTup, mLst, mNew, asB, cOf, cAnd, cOr, cNot, cYes, mAnd, mOr, mNot, mIf, mChain, oNone, asI, oSome, mOpN, mPt, iL, iT, mFld, mProp, mLenI, mSlT, mSlL, pName, pGo, pTup, pLst, wipeE, mIsT, mCallR, mDraw, isRow, look, M.bind_ret, M.bind_err, M.bind_bad, M.bind_draw, M.ofO_some, M.ofO_none, M.calm_ret, M.calm_bad, M.calm_draw, M.bind_assoc, M.wp_ret, List.length_cons, List.length_nil, List.map_cons, List.map_nil, List.replicate_zero, List.replicate_succ, List.cons_append, List.nil_append, List.set_cons_zero, List.set_cons_succ, List.getElem?_cons_zero, List.getElem?_cons_succ, Nat.reduceAdd, Nat.reduceSub, Nat.reduceLeDiff, Nat.reduceEqDiff, if_true, if_false, ite_true, ite_false, reduceIte, Bool.not_true, Bool.not_false, Bool.false_eq_true, ck]
    have t2 : sExpr (mCall m_check_number (mCons (mVar 4) (mCons (mC (.int 0)) (mCons (mOp fSub (mCB fLen (mCons (mVar 3) mNil)) (mC (.int 1))) mNil)))) [.dat (stD C), .dat (rw layG), .dat (.str x), .dat (.ptup (rsD R)), .dat (.int (i : Nat)), .no, .no, .no] = .ret (.nx [.dat (stD C), .dat (rw layG), .dat (.str x), .dat (.ptup (rsD R)), .dat (.int (i : Nat)), .no, .no, .no]) := by
      generalize rw layG = q at *
      generalize stD C = S at *
      generalize rsD R = RD at *
      simp -implicitDefEqProofs only [defM, defR, lawM, fin, sSeq, sExpr, sAsg, sAsgB, sPat, sPatB, sOwn, sOwnB, sPar, sPar3, sRet, sRetN, sIf, sFor, sForB, sApp, sAppB, sExt, sExtB, sSet, sFz, sNext, sBreak, sCont, sAug, sAugL, sErrF, sErr, sParX, sParX3, agGo, Fl.next, Fl.turn, vB, ok1, okL, mVar, mC, mOp, mUn, mNil, mCons, mCB, mCBn, mCall, mTup, mLst, mNew, asB, cOf, cAnd, cOr, cNot, cYes, mAnd, mOr, mNot, mIf, mChain, oNone, asI, oSome, mOpN, mPt, iL, iT, mFld, mProp, mLenI, mSlT, mSlL, pName, pGo, pTup, pLst, wipeE, mIsT, mCallR, mDraw, isRow, look, M.bind_ret, M.bind_err, M.bind_bad, M.bind_draw, M.ofO_some, M.ofO_none, M.calm_ret, M.calm_bad, M.calm_draw, M.bind_assoc, M.wp_ret, List.length_cons, List.length_nil, List.map_cons, List.map_nil, List.replicate_zero, List.replicate_succ, List.cons_append, List.nil_append, List.set_cons_zero, List.set_cons_succ, List.getElem?_cons_zero, List.getElem?_cons_succ, Nat.reduceAdd, Nat.reduceSub, Nat.reduceLeDiff, Nat.reduceEqDiff, if_true, if_false, ite_true, ite_false, reduceIte, Bool.not_true, Bool.not_false, Bool.false_eq_true, hlen, hsub, hn]
    have t3 : sAsg 5 (mCall (fun ds => (m_subsets 13 ds).calm) (mCons (mPt (rg1 (mLenI stP m_Store___len__ (mVar 0)))) mNil)) [.dat (stD C), .dat (rw layG), .dat (.str x), .dat (.ptup (rsD R)), .dat (.int (i : Nat)), .no, .no, .no] = .ret (.nx [.dat (stD C), .dat (rw layG), .dat (.str x), .dat (.ptup (rsD R)), .dat (.int (i : Nat)), .dat (.lst (SS.map fun s => D.ptup (jD s))), .no, .no]) := by
      generalize rw layG = q at *
      generalize rsD R = RD at *
      generalize ((i : Nat) : Int) = ii at *
      kernel_rfl
    let t : List Nat → Bool := fun s => (rnd cn2 x layG (R.take i ++ [R.getD i [] ++ s]) L6 []).1.getLastD false
    have ht : t [0, 1] = true := kf_all
    have hcat : ∀ s ∈ SS, fCatT (.ptup (jD (R.getD i []))) (.ptup (jD s)) = some (.ptup (jD (R.getD i [] ++ s))) := fun s hs => by
      have h1 : R.getD i [] ∈ R := by rw [List.getD_eq_getElem?_getD, List.getElem?_eq_getElem hi]; exact List.getElem_mem hi
      have h2 := (hr _ h1).2
      have h3 : s.length ≤ 2 := by
        simp only [SS, List.mem_cons, List.not_mem_nil, or_false] at hs
        rcases hs with rfl | rfl | rfl | rfl <;> simp
      rw [f_catT (by unfold jD; rw [List.length_map, List.length_map]; omega)]
      unfold jD
      rw [List.map_append]
    have hget : fIx (.ptup (rsD R)) (.int (i : Nat)) = some (.ptup (jD (R.getD i []))) := f_ixP (by unfold rsD; rw [List.getElem?_map, List.getD_eq_getElem?_getD, List.getElem?_eq_getElem hi]; rfl)
    have hcut : cutD (rsD R) none (some (i : Nat)) = rsD (R.take i) := by
      have := cut_to (fun r => D.ptup (jD r)) R (i := (i : Nat)) (by omega)
      rw [Int.toNat_natCast] at this
      exact this
    have hkf : ∀ s ∈ SS, m_knows_first [stD C, rw layG, .str x, .ptup (rsD (R.take i)), .ptup (jD (R.getD i [] ++ s))] = .ret (.bl (t s)) := fun s hs => by
      have h1 : R.getD i [] ∈ R := by rw [List.getD_eq_getElem?_getD, List.getElem?_eq_getElem hi]; exact List.getElem_mem hi
      refine x_kf2 hx (fun q hq => ?_) (by rw [List.length_take]; omega)
      rcases List.mem_append.mp hq with hq | hq
      · obtain ⟨g1, g2⟩ := hr q (List.take_subset _ _ hq)
        exact ⟨g1, by omega⟩
      · rw [List.mem_singleton.mp hq]
        obtain ⟨g1, g2⟩ := hr _ h1
        simp only [SS, List.mem_cons, List.not_mem_nil, or_false] at hs
        refine ⟨fun d hd => ?_, ?_⟩
        · rcases List.mem_append.mp hd with hd | hd
          · exact g1 d hd
          · rcases hs with rfl | rfl | rfl | rfl <;> simp at hd <;> omega
        · rw [List.length_append]
          rcases hs with rfl | rfl | rfl | rfl <;> simp only [List.length_cons, List.length_nil] <;> omega
    have eL : lcGo (pName 7) ndC (mVar 7) [.dat (stD C), .dat (rw layG), .dat (.str x), .dat (.ptup (rsD R)), .dat (.int (i : Nat)), .dat (.lst (SS.map fun s => D.ptup (jD s))), .no, .no] (SS.map fun s => D.ptup (jD s)) = .ret ((SS.filter t).map fun s => D.ptup (jD s)) := by
      refine lcGo_filt (fun s => D.ptup (jD s)) t (fun s => D.ptup (jD s)) SS fun s hs => ⟨_, rfl, ?_, fun _ => rfl⟩
      have a1 := hcat s hs
      have a2 := hkf s hs
      unfold ndC
      generalize SS.map (fun s => D.ptup (jD s)) = SD at *
      generalize rw layG = q at *
      generalize stD C = S at *
      generalize rsD (R.take i) = R2 at *
      generalize rsD R = R1 at *
      generalize jD (R.getD i [] ++ s) = J2 at *
      generalize jD (R.getD i []) = J1 at *
      generalize jD s = J0 at *
      simp -implicitDefEqProofs only [defM, defR, lawM, fin, sSeq, sExpr, sAsg, sAsgB, sPat, sPatB, sOwn, sOwnB, sPar, sPar3, sRet, sRetN, sIf, sFor, sForB, sApp, sAppB, sExt, sExtB, sSet, sFz, sNext, sBreak, sCont, sAug, sAugL, sErrF, sErr, sParX, sParX3, agGo, Fl.next, Fl.turn, vB, ok1, okL, mVar, mC, mOp, mUn, mNil, mCons, mCB, mCBn, mCall, mTup, mLst, mNew, asB, cOf, cAnd, cOr, cNot, cYes, mAnd, mOr, mNot, mIf, mChain, oNone, asI, oSome, mOpN, mPt, iL, iT, mFld, mProp, mLenI, mSlT, mSlL, pName, pGo, pTup, pLst, wipeE, mIsT, mCallR, mDraw, isRow, look, M.bind_ret, M.bind_err, M.bind_bad, M.bind_draw, M.ofO_some, M.ofO_none, M.calm_ret, M.calm_bad, M.calm_draw, M.bind_assoc, M.wp_ret, List.length_cons, List.length_nil, List.map_cons, List.map_nil, List.replicate_zero, List.replicate_succ, List.cons_append, List.nil_append, List.set_cons_zero, List.set_cons_succ, List.getElem?_cons_zero, List.getElem?_cons_succ, Nat.reduceAdd, Nat.reduceSub, Nat.reduceLeDiff, Nat.reduceEqDiff, if_true, if_false, ite_true, ite_false, reduceIte, Bool.not_true, Bool.not_false, Bool.false_eq_true, hget, hcut, a1, a2]
    have hmin := x_min t ht
    have hl4 : (SS.map fun s => D.ptup (jD s)).length ≤ 100000 := by simp [SS]
    have t4 : sAsg 6 (mNew (mLc (iL (mVar 5)) (pName 7) ndC (mVar 7) [7])) [.dat (stD C), .dat (rw layG), .dat (.str x), .dat (.ptup (rsD R)), .dat (.int (i : Nat)), .dat (.lst (SS.map fun s => D.ptup (jD s))), .no, .no] = .ret (.nx [.dat (stD C), .dat (rw layG), .dat (.str x), .dat (.ptup (rsD R)), .dat (.int (i : Nat)), .dat (.lst (SS.map fun s => D.ptup (jD s))), .dat (.lst ((SS.filter t).map fun s => D.ptup (jD s))), .no]) := by
      generalize (SS.filter t).map (fun s => D.ptup (jD s)) = SF at *
      generalize SS.map (fun s => D.ptup (jD s)) = SD at *
      generalize rw layG = q at *
      generalize stD C = S at *
      generalize rsD R = R1 at *
      generalize ndC = nc at *
      simp -implicitDefEqProofs only [defM, defR, lawM, fin, sSeq, sExpr, sAsg, sAsgB, sPat, sPatB, sOwn, sOwnB, sPar, sPar3, sRet, sRetN, sIf, sFor, sForB, sApp, sAppB, sExt, sExtB, sSet, sFz, sNext, sBreak, sCont, sAug, sAugL, sErrF, sErr, sParX, sParX3, agGo, Fl.next, Fl.turn, vB, ok1, okL, mVar, mC, mOp, mUn, mNil, mCons, mCB, mCBn, mCall, mTup, mLst, mNew, asB, cOf, cAnd, cOr, cNot, cYes, mAnd, mOr, mNot, mIf, mChain, oNone, asI, oSome, mOpN, mPt, iL, iT, mFld, mProp, mLenI, mSlT, mSlL, pName, pGo, pTup, pLst, wipeE, mIsT, mCallR, mDraw, isRow, look, M.bind_ret, M.bind_err, M.bind_bad, M.bind_draw, M.ofO_some, M.ofO_none, M.calm_ret, M.calm_bad, M.calm_draw, M.bind_assoc, M.wp_ret, List.length_cons, List.length_nil, List.map_cons, List.map_nil, List.replicate_zero, List.replicate_succ, List.cons_append, List.nil_append, List.set_cons_zero, List.set_cons_succ, List.getElem?_cons_zero, List.getElem?_cons_succ, Nat.reduceAdd, Nat.reduceSub, Nat.reduceLeDiff, Nat.reduceEqDiff, if_true, if_false, ite_true, ite_false, reduceIte, Bool.not_true, Bool.not_false, Bool.false_eq_true, mLc, hl4, eL]
    refine ⟨.ptup (jD (mn t)), ?_⟩
    unfold m_needed_doors defM
    refine (if_pos rfl).trans ?_
    show M.bind (sSeq (sExpr (mCall m_check_question (mCons (mVar 0) (mCons (mVar 1) (mCons (mVar 2) (mCons (mVar 3) mNil)))))) (sSeq (sExpr (mCall m_check_number (mCons (mVar 4) (mCons (mC (.int 0)) (mCons (mOp fSub (mCB fLen (mCons (mVar 3) mNil)) (mC (.int 1))) mNil))))) (sSeq (sAsg 5 (mCall (fun ds => (m_subsets 13 ds).calm) (mCons (mPt (rg1 (mLenI stP m_Store___len__ (mVar 0)))) mNil))) (sSeq (sAsg 6 (mNew (mLc (iL (mVar 5)) (pName 7) ndC (mVar 7) [7]))) (sRet (mMinK m_length_and_items (mVar 6)))))) [.dat (stD C), .dat (rw layG), .dat (.str x), .dat (.ptup (rsD R)), .dat (.int (i : Nat)), .no, .no, .no]) fin = _
    rw [seq_nx t1, seq_nx t2, seq_nx t3, seq_nx t4]
    generalize (SS.filter t).map (fun s => D.ptup (jD s)) = SF at *
    generalize SS.map (fun s => D.ptup (jD s)) = SD at *
    generalize rw layG = q at *
    generalize stD C = S at *
    generalize rsD R = R1 at *
    simp -implicitDefEqProofs only [defM, defR, lawM, fin, sSeq, sExpr, sAsg, sAsgB, sPat, sPatB, sOwn, sOwnB, sPar, sPar3, sRet, sRetN, sIf, sFor, sForB, sApp, sAppB, sExt, sExtB, sSet, sFz, sNext, sBreak, sCont, sAug, sAugL, sErrF, sErr, sParX, sParX3, agGo, Fl.next, Fl.turn, vB, ok1, okL, mVar, mC, mOp, mUn, mNil, mCons, mCB, mCBn, mCall, mTup, mLst, mNew, asB, cOf, cAnd, cOr, cNot, cYes, mAnd, mOr, mNot, mIf, mChain, oNone, asI, oSome, mOpN, mPt, iL, iT, mFld, mProp, mLenI, mSlT, mSlL, pName, pGo, pTup, pLst, wipeE, mIsT, mCallR, mDraw, isRow, look, M.bind_ret, M.bind_err, M.bind_bad, M.bind_draw, M.ofO_some, M.ofO_none, M.calm_ret, M.calm_bad, M.calm_draw, M.bind_assoc, M.wp_ret, List.length_cons, List.length_nil, List.map_cons, List.map_nil, List.replicate_zero, List.replicate_succ, List.cons_append, List.nil_append, List.set_cons_zero, List.set_cons_succ, List.getElem?_cons_zero, List.getElem?_cons_succ, Nat.reduceAdd, Nat.reduceSub, Nat.reduceLeDiff, Nat.reduceEqDiff, if_true, if_false, ite_true, ite_false, reduceIte, Bool.not_true, Bool.not_false, Bool.false_eq_true, mMinK, hmin]
  · rw [if_neg (by omega)] at hn
    rw [if_neg hc]
    generalize rw layG = q at *
    generalize stD C = S at *
    generalize rsD R = RD at *
    simp -implicitDefEqProofs only [defM, defR, lawM, fin, sSeq, sExpr, sAsg, sAsgB, sPat, sPatB, sOwn, sOwnB, sPar, sPar3, sRet, sRetN, sIf, sFor, sForB, sApp, sAppB, sExt, sExtB, sSet, sFz, sNext, sBreak, sCont, sAug, sAugL, sErrF, sErr, sParX, sParX3, agGo, Fl.next, Fl.turn, vB, ok1, okL, mVar, mC, mOp, mUn, mNil, mCons, mCB, mCBn, mCall, mTup, mLst, mNew, asB, cOf, cAnd, cOr, cNot, cYes, mAnd, mOr, mNot, mIf, mChain, oNone, asI, oSome, mOpN, mPt, iL, iT, mFld, mProp, mLenI, mSlT, mSlL, pName, pGo, pTup, pLst, wipeE, mIsT, mCallR, mDraw, isRow, look, M.bind_ret, M.bind_err, M.bind_bad, M.bind_draw, M.ofO_some, M.ofO_none, M.calm_ret, M.calm_bad, M.calm_draw, M.bind_assoc, M.wp_ret, List.length_cons, List.length_nil, List.map_cons, List.map_nil, List.replicate_zero, List.replicate_succ, List.cons_append, List.nil_append, List.set_cons_zero, List.set_cons_succ, List.getElem?_cons_zero, List.getElem?_cons_succ, Nat.reduceAdd, Nat.reduceSub, Nat.reduceLeDiff, Nat.reduceEqDiff, if_true, if_false, ite_true, ite_false, reduceIte, Bool.not_true, Bool.not_false, Bool.false_eq_true, m_needed_doors, ck, hlen, hsub, hn]
end
end
end My

namespace My
open PySem L2 Cc Mi
variable [Mi.PW]
noncomputable section
def w4 (C : Addr) : Mi.Env → M Fl := (sApp 13 (mCB fTup (mCons (mVar 6) mNil)))
def w3 (C : Addr) : Mi.Env → M Fl := sSeq (sAsg 4 (mNew (mOpN fCatL (mVar 4) (mNew (mOpN fRepL (mNew (mLst (mCons (mVar 5) mNil))) (mCB fInt (mCons (mOr (mVar 7) (mOp fEq (mVar 5) (mC (.int 3)))) mNil))))))) (w4 C)
def w2 (C : Addr) : Mi.Env → M Fl := sSeq (sAsg 6 (mNew (mOpN fCatL (mVar 6) (mNew (mOpN fRepL (mNew (mLst (mCons (mOp fIx (mNew (mLst (mCons (mC (.int 2)) (mCons (mOp fSub (mC (.int 0)) (mC (.int 1))) (mCons (mC (.bl true)) mNil))))) (mDraw 1 (mC (.int 3)))) mNil))) (mCB fInt (mCons (mVar 7) mNil))))))) (w3 C)
def w1 (C : Addr) : Mi.Env → M Fl := sSeq (sAsg 7 (mOp fEq (mDraw 1 (mC (.int 6))) (mC (.int 0)))) (w2 C)
def w0 (C : Addr) : Mi.Env → M Fl := sSeq (sAsg 6 (mNew (mLc (rg1 (mDraw 1 (mC (.int 3)))) (pName 15) cYes (mDraw 1 (mC (.int 2))) [15]))) (w1 C)
def v11 (C : Addr) : Mi.Env → M Fl := (sIf (cOf (mOp fNe (fun ρ => (m__law_told ((mCall m_needed_doors (mCons (mVar 14) (mCons (mVar 10) (mCons (mVar 11) (mCons (mCB fTup (mCons (mVar 13) mNil)) (mCons (mVar 12) mNil)))))) ρ)).calm) (mVar 9))) (sRet (mC (.bl false))) sNext)
def v10 (C : Addr) : Mi.Env → M Fl := sSeq (sAsgB 9 (mIf (cOf (mOp fNotN (mVar 8) (mC .non))) (mVar 8) (mIf (cOf (mChain fLe fLt (mC (.int 0)) (mVar 12) (mCB fLen (mCons (mVar 13) mNil)))) (mC .non) (mC (.str "number"))))) (v11 C)
def v9 (C : Addr) : Mi.Env → M Fl := sSeq (sAsg 12 (mOp fSub (mDraw 1 (mC (.int 5))) (mC (.int 1)))) (v10 C)
def v8 (C : Addr) : Mi.Env → M Fl := sSeq (sIf (cOf (mOp fNe (fun ρ => (m__law_told ((mCall m_first_to_know (mCons (mVar 14) (mCons (mVar 10) (mCons (mVar 11) (mCons (mCB fTup (mCons (mVar 13) mNil)) mNil))))) ρ)).calm) (mVar 8))) (sRet (mC (.bl false))) sNext) (v9 C)
def v7 (C : Addr) : Mi.Env → M Fl := sSeq (sIf (cOf (mOp fNe (fun ρ => (m__law_told ((mCall m_spoken (mCons (mVar 14) (mCons (mVar 10) (mCons (mVar 11) (mCons (mCB fTup (mCons (mVar 13) mNil)) mNil))))) ρ)).calm) (mVar 8))) (sRet (mC (.bl false))) sNext) (v8 C)
def v6 (C : Addr) : Mi.Env → M Fl := sSeq (sAsg 8 (mIf (cOf (mOp fNe (mVar 10) (mTup (mCons (mC (.str "fig")) (mCons (mC .non) (mCons (mC (.str "plum")) mNil)))))) (mC (.str "layout")) (mVar 8))) (v7 C)
def v5 (C : Addr) : Mi.Env → M Fl := sSeq (sAsg 8 (mIf (cOf (mOp (fIn true) (mVar 11) (mTup (mCons (mC (.str "fig")) (mCons (mC (.str "plum")) mNil))))) (mC (.str "crate")) (mVar 8))) (v6 C)
def v4 (C : Addr) : Mi.Env → M Fl := sSeq (sAsgB 8 (mIf (cOf (mOp fNe (mVar 4) (mNew (mLst mNil)))) (mTup (mCons (mC (.str "rows")) (mCons (mOp fIx (mVar 4) (mC (.int 0))) mNil))) (mIf (cOf (mOp fEq (mVar 13) (mNew (mLst mNil)))) (mTup (mCons (mC (.str "rows")) (mCons (mC (.int 0)) mNil))) (mC .non)))) (v5 C)
def v3 (C : Addr) : Mi.Env → M Fl := sSeq (sFor (rg1 (mDraw 1 (mC (.int 5)))) (pName 5) (w0 C)) (v4 C)
def v2 (C : Addr) : Mi.Env → M Fl := sSeq (sTupX [11, 13, 4] [.d (mOp fIx (mNew (mLst (mCons (mC (.str "fig")) (mCons (mC (.str "plum")) (mCons (mC (.str "kiwi")) (mCons (mC (.str "")) mNil)))))) (mOp fIx (mNew (mLst (mCons (mC (.int 0)) (mCons (mC (.int 1)) (mCons (mDraw 1 (mC (.int 4))) mNil))))) (mDraw 1 (mC (.int 3))))), .n (mLst mNil), .d (mNew (mLst mNil))]) (v3 C)
def v1 (C : Addr) : Mi.Env → M Fl := sSeq (sAsg 10 (mOp fIx (mNew (mLst (mCons (mTup (mCons (mC (.str "fig")) (mCons (mC .non) (mCons (mC (.str "plum")) mNil)))) (mCons (mTup (mCons (mC .non) (mCons (mC (.str "fig")) (mCons (mC (.str "fig")) mNil)))) (mCons (mTup (mCons (mC (.str "fig")) (mCons (mC (.str "plum")) mNil))) mNil))))) (mVar 3))) (v2 C)
def v0 (C : Addr) : Mi.Env → M Fl := sSeq (sAsg 3 (mOp fIx (mNew (mLst (mCons (mC (.int 0)) (mCons (mC (.int 0)) (mCons (mDraw 1 (mC (.int 3))) mNil))))) (mDraw 1 (mC (.int 3))))) (v1 C)
def u2 (C : Addr) : Mi.Env → M Fl := (sRet (mC (.bl true)))
def u1 (C : Addr) : Mi.Env → M Fl := sSeq (sFor (rg1 (mC (.int 8))) (pName 2) (v0 C)) (u2 C)
def u0 (C : Addr) : Mi.Env → M Fl := sSeq (sAsg 14 (mCall (m_Store___init__ C) (mCons (mTup (mCons (mTup (mCons (mC (.int 5)) (mCons (mC (.int 1)) mNil))) (mCons (mTup (mCons (mC (.int 3)) (mCons (mC (.int 2)) mNil))) mNil))) (mCons (mTup (mCons (mC (.str "fig")) (mCons (mC (.str "plum")) mNil))) mNil)))) (u1 C)
theorem law_u (C : Addr) : b_law C = u0 C := rfl
end
end My

namespace My
open PySem L2 Cc Mi Wm
variable [PW]
noncomputable section
def lyD (j : Nat) : D := if j = 0 then rw layG else if j = 1 then .ptup [.non, .str "fig", .str "fig"] else .ptup [.str "fig", .str "plum"]
def nm4 : List Str := ["fig", "plum", "kiwi", ""]
def dD : Option Nat → D
  | some k => .ptup [.str "rows", .int (k : Nat)]
  | none => .non
def tD (j : Nat) (nm : Str) (P : List RwI) : D := if j = 0 then (if nm ∈ nm2 then dD (dueO P) else .str "crate") else .str "layout"
theorem told0 (d : D) : m__law_told (.ret d) = .ret .non := by kernel_rfl
theorem toldL : m__law_told (.err "InvalidLayout" []) = .ret (.str "layout") := by kernel_rfl
theorem toldC : m__law_told (.err "UnknownCrate" []) = .ret (.str "crate") := by kernel_rfl
theorem toldN : m__law_told (.err "InvalidNumber" []) = .ret (.str "number") := by kernel_rfl
theorem toldR (k : Int) : m__law_told (.err "InvalidRows" [.int k]) = .ret (.ptup [.str "rows", .int k]) := by kernel_rfl
section
variable {C : Addr} {j : Nat} {nm : Str} {P : List RwI}
def ckE (j : Nat) (nm : Str) (P : List RwI) : M D := if j = 0 then (if nm ∈ nm2 then (match dueO P with
  | some k => .err "InvalidRows" [.int (k : Nat)]
  | none => .ret .non) else .err "UnknownCrate" []) else .err "InvalidLayout" []
theorem x_ck (hj : j < 3) (hn : nm ∈ nm4) (hl : P.length ≤ 50) (hw : ∀ p ∈ P, RwOk p) : m_check_question [stD C, lyD j, .str nm, .ptup (P.map rowI)] = ckE j nm P := by
  unfold ckE lyD
  by_cases h0 : j = 0
  · rw [if_pos h0, if_pos h0]
    by_cases h2 : nm ∈ nm2
    · rw [if_pos h2]
      exact x_check C h2 P hl hw
    · rw [if_neg h2]
      have c1 := x_layG C
      have c2 : m_check_crate [stD C, .str nm] = .err "UnknownCrate" [] := by
        simp only [nm4, List.mem_cons, List.not_mem_nil, or_false] at hn
        rcases hn with rfl | rfl | rfl | rfl
        · exact absurd (by simp [nm2]) h2
        · exact absurd (by simp [nm2]) h2
        · exact x_cr1 C
        · exact x_cr2 C
      generalize rw layG = q at *
      generalize stD C = S at *
      generalize P.map rowI = PD at *
      simp -implicitDefEqProofs only [defM, defR, lawM, fin, sSeq, sExpr, sAsg, sAsgB, sPat, sPatB, sOwn, sOwnB, sPar, sPar3, sRet, sRetN, sIf, sFor, sForB, sApp, sAppB, sExt, sExtB, sSet, sFz, sNext, sBreak, sCont, sAug, sAugL, sErrF, sErr, sParX, sParX3, agGo, Fl.next, Fl.turn, vB, ok1, okL, mVar, mC, mOp, mUn, mNil, mCons, mCB, mCBn, mCall, mTup, mLst, mNew, asB, cOf, cAnd, cOr, cNot, cYes, mAnd, mOr, mNot, mIf, mChain, oNone, asI, oSome, mOpN, mPt, iL, iT, mFld, mProp, mLenI, mSlT, mSlL, pName, pGo, pTup, pLst, wipeE, mIsT, mCallR, mDraw, isRow, look, M.bind_ret, M.bind_err, M.bind_bad, M.bind_draw, M.ofO_some, M.ofO_none, M.calm_ret, M.calm_bad, M.calm_draw, M.bind_assoc, M.wp_ret, List.length_cons, List.length_nil, List.map_cons, List.map_nil, List.replicate_zero, List.replicate_succ, List.cons_append, List.nil_append, List.set_cons_zero, List.set_cons_succ, List.getElem?_cons_zero, List.getElem?_cons_succ, Nat.reduceAdd, Nat.reduceSub, Nat.reduceLeDiff, Nat.reduceEqDiff, if_true, if_false, ite_true, ite_false, reduceIte, Bool.not_true, Bool.not_false, Bool.false_eq_true, m_check_question, c1, c2]
  · rw [if_neg h0, if_neg h0]
    have c1 : m_check_layout [stD C, if j = 1 then .ptup [.non, .str "fig", .str "fig"] else .ptup [.str "fig", .str "plum"]] = .err "InvalidLayout" [] := by
      by_cases h1 : j = 1
      · rw [if_pos h1]; exact x_lay1 C
      · rw [if_neg h1]; exact x_lay2 C
    generalize (if j = 1 then D.ptup [.non, .str "fig", .str "fig"] else .ptup [.str "fig", .str "plum"]) = q at *
    generalize stD C = S at *
    generalize P.map rowI = PD at *
    simp -implicitDefEqProofs only [defM, defR, lawM, fin, sSeq, sExpr, sAsg, sAsgB, sPat, sPatB, sOwn, sOwnB, sPar, sPar3, sRet, sRetN, sIf, sFor, sForB, sApp, sAppB, sExt, sExtB, sSet, sFz, sNext, sBreak, sCont, sAug, sAugL, sErrF, sErr, sParX, sParX3, agGo, Fl.next, Fl.turn, vB, ok1, okL, mVar, mC, mOp, mUn, mNil, mCons, mCB, mCBn, mCall, mTup, mLst, mNew, asB, cOf, cAnd, cOr, cNot, cYes, mAnd, mOr, mNot, mIf, mChain, oNone, asI, oSome, mOpN, mPt, iL, iT, mFld, mProp, mLenI, mSlT, mSlL, pName, pGo, pTup, pLst, wipeE, mIsT, mCallR, mDraw, isRow, look, M.bind_ret, M.bind_err, M.bind_bad, M.bind_draw, M.ofO_some, M.ofO_none, M.calm_ret, M.calm_bad, M.calm_draw, M.bind_assoc, M.wp_ret, List.length_cons, List.length_nil, List.map_cons, List.map_nil, List.replicate_zero, List.replicate_succ, List.cons_append, List.nil_append, List.set_cons_zero, List.set_cons_succ, List.getElem?_cons_zero, List.getElem?_cons_succ, Nat.reduceAdd, Nat.reduceSub, Nat.reduceLeDiff, Nat.reduceEqDiff, if_true, if_false, ite_true, ite_false, reduceIte, Bool.not_true, Bool.not_false, Bool.false_eq_true, m_check_question, c1]
theorem told_err {c : Str} {p : List D} {a b x y : D} (h : m_check_question [a, b, x, y] = .err c p) : m_spoken [a, b, x, y] = .err c p ∧ m_first_to_know [a, b, x, y] = .err c p ∧ ∀ z, m_needed_doors [a, b, x, y, z] = .err c p := by
  have h1 : m_spoken [a, b, x, y] = .err c p := by simp -implicitDefEqProofs only [defM, defR, lawM, fin, sSeq, sExpr, sAsg, sAsgB, sPat, sPatB, sOwn, sOwnB, sPar, sPar3, sRet, sRetN, sIf, sFor, sForB, sApp, sAppB, sExt, sExtB, sSet, sFz, sNext, sBreak, sCont, sAug, sAugL, sErrF, sErr, sParX, sParX3, agGo, Fl.next, Fl.turn, vB, ok1, okL, mVar, mC, mOp, mUn, mNil, mCons, mCB, mCBn, mCall, mTup, mLst, mNew, asB, cOf, cAnd, cOr, cNot, cYes, mAnd, mOr, mNot, mIf, mChain, oNone, asI, oSome, mOpN, mPt, iL, iT, mFld, mProp, mLenI, mSlT, mSlL, pName, pGo, pTup, pLst, wipeE, mIsT, mCallR, mDraw, isRow, look, M.bind_ret, M.bind_err, M.bind_bad, M.bind_draw, M.ofO_some, M.ofO_none, M.calm_ret, M.calm_bad, M.calm_draw, M.bind_assoc, M.wp_ret, List.length_cons, List.length_nil, List.map_cons, List.map_nil, List.replicate_zero, List.replicate_succ, List.cons_append, List.nil_append, List.set_cons_zero, List.set_cons_succ, List.getElem?_cons_zero, List.getElem?_cons_succ, Nat.reduceAdd, Nat.reduceSub, Nat.reduceLeDiff, Nat.reduceEqDiff, if_true, if_false, ite_true, ite_false, reduceIte, Bool.not_true, Bool.not_false, Bool.false_eq_true, m_spoken, h]
  refine ⟨h1, by simp -implicitDefEqProofs only [defM, defR, lawM, fin, sSeq, sExpr, sAsg, sAsgB, sPat, sPatB, sOwn, sOwnB, sPar, sPar3, sRet, sRetN, sIf, sFor, sForB, sApp, sAppB, sExt, sExtB, sSet, sFz, sNext, sBreak, sCont, sAug, sAugL, sErrF, sErr, sParX, sParX3, agGo, Fl.next, Fl.turn, vB, ok1, okL, mVar, mC, mOp, mUn, mNil, mCons, mCB, mCBn, mCall, mTup, mLst, mNew, asB, cOf, cAnd, cOr, cNot, cYes, mAnd, mOr, mNot, mIf, mChain, oNone, asI, oSome, mOpN, mPt, iL, iT, mFld, mProp, mLenI, mSlT, mSlL, pName, pGo, pTup, pLst, wipeE, mIsT, mCallR, mDraw, isRow, look, M.bind_ret, M.bind_err, M.bind_bad, M.bind_draw, M.ofO_some, M.ofO_none, M.calm_ret, M.calm_bad, M.calm_draw, M.bind_assoc, M.wp_ret, List.length_cons, List.length_nil, List.map_cons, List.map_nil, List.replicate_zero, List.replicate_succ, List.cons_append, List.nil_append, List.set_cons_zero, List.set_cons_succ, List.getElem?_cons_zero, List.getElem?_cons_succ, Nat.reduceAdd, Nat.reduceSub, Nat.reduceLeDiff, Nat.reduceEqDiff, if_true, if_false, ite_true, ite_false, reduceIte, Bool.not_true, Bool.not_false, Bool.false_eq_true, m_first_to_know, h1], fun z => by simp -implicitDefEqProofs only [defM, defR, lawM, fin, sSeq, sExpr, sAsg, sAsgB, sPat, sPatB, sOwn, sOwnB, sPar, sPar3, sRet, sRetN, sIf, sFor, sForB, sApp, sAppB, sExt, sExtB, sSet, sFz, sNext, sBreak, sCont, sAug, sAugL, sErrF, sErr, sParX, sParX3, agGo, Fl.next, Fl.turn, vB, ok1, okL, mVar, mC, mOp, mUn, mNil, mCons, mCB, mCBn, mCall, mTup, mLst, mNew, asB, cOf, cAnd, cOr, cNot, cYes, mAnd, mOr, mNot, mIf, mChain, oNone, asI, oSome, mOpN, mPt, iL, iT, mFld, mProp, mLenI, mSlT, mSlL, pName, pGo, pTup, pLst, wipeE, mIsT, mCallR, mDraw, isRow, look, M.bind_ret, M.bind_err, M.bind_bad, M.bind_draw, M.ofO_some, M.ofO_none, M.calm_ret, M.calm_bad, M.calm_draw, M.bind_assoc, M.wp_ret, List.length_cons, List.length_nil, List.map_cons, List.map_nil, List.replicate_zero, List.replicate_succ, List.cons_append, List.nil_append, List.set_cons_zero, List.set_cons_succ, List.getElem?_cons_zero, List.getElem?_cons_succ, Nat.reduceAdd, Nat.reduceSub, Nat.reduceLeDiff, Nat.reduceEqDiff, if_true, if_false, ite_true, ite_false, reduceIte, Bool.not_true, Bool.not_false, Bool.false_eq_true, m_needed_doors, h]⟩
theorem ck_cases : (ckE j nm P = .ret .non ∧ j = 0 ∧ nm ∈ nm2 ∧ dueO P = none ∧ tD j nm P = .non) ∨ ∃ c p, ckE j nm P = .err c p ∧ m__law_told (.err c p) = .ret (tD j nm P) ∧ tD j nm P ≠ .non := by
  unfold ckE tD
  by_cases h0 : j = 0
  · rw [if_pos h0, if_pos h0]
    by_cases h2 : nm ∈ nm2
    · rw [if_pos h2, if_pos h2]
      cases hd : dueO P with
      | none => exact .inl ⟨rfl, h0, h2, rfl, rfl⟩
      | some k => exact .inr ⟨_, _, rfl, toldR _, by simp [dD]⟩
    · rw [if_neg h2, if_neg h2]
      exact .inr ⟨_, _, rfl, toldC, by simp⟩
  · rw [if_neg h0, if_neg h0]
    exact .inr ⟨_, _, rfl, toldL, by simp⟩
theorem x_t1 (hj : j < 3) (hn : nm ∈ nm4) (hl : P.length ≤ 50) (hw : ∀ p ∈ P, RwOk p) : m__law_told (m_spoken [stD C, lyD j, .str nm, .ptup (P.map rowI)]) = .ret (tD j nm P) ∧ m__law_told (m_first_to_know [stD C, lyD j, .str nm, .ptup (P.map rowI)]) = .ret (tD j nm P) := by
  have ck := x_ck (C := C) hj hn hl hw
  rcases ck_cases (j := j) (nm := nm) (P := P) with ⟨h1, rfl, h3, h4, h5⟩ | ⟨c, p, h1, h2, _⟩
  · rw [h5]
    obtain ⟨w, k, e⟩ := x_spk (C := C) h3 hl hw h4
    have hP : P ≠ [] := fun z => by subst z; cases h4
    have hlen : fLen [.ptup (P.map rowI)] = some (.int (P.length : Nat)) := by rw [f_lenP (by simp; omega)]; simp
    have e2 := x_first (List.length_pos_iff.mpr hP) hlen e
    have el : lyD 0 = rw layG := rfl
    rw [el, e, e2, told0, told0]
    exact ⟨rfl, rfl⟩
  · rw [h1] at ck
    obtain ⟨a1, a2, _⟩ := told_err ck
    rw [a1, a2, h2]
    exact ⟨rfl, rfl⟩
def isNn : D → Bool
  | .non => true
  | _ => false
theorem isNn_non : isNn .non = true := rfl
theorem isNn_ne {d : D} (h : d ≠ .non) : isNn d = false := by cases d <;> first | rfl | exact absurd rfl h
def lD (j : Nat) (nm : Str) (P : List RwI) (p : Int) : D := if isNn (tD j nm P) = true then (if 0 ≤ p ∧ p < (P.length : Nat) then .non else .str "number") else tD j nm P
theorem x_t2 (hj : j < 3) (hn : nm ∈ nm4) (hl : P.length ≤ 50) (hw : ∀ p ∈ P, RwOk p) (p : Int) (hp : p = -1 ∨ p = 0 ∨ p = 1 ∨ p = 2 ∨ p = 3) : m__law_told (m_needed_doors [stD C, lyD j, .str nm, .ptup (P.map rowI), .int p]) = .ret (lD j nm P p) := by
  have ck := x_ck (C := C) hj hn hl hw
  unfold lD
  rcases ck_cases (j := j) (nm := nm) (P := P) with ⟨h1, rfl, h3, h4, h5⟩ | ⟨c, q, h1, h2, h3⟩
  · rw [h5]
    have hc : chk 0 P = none := by
      unfold dueO at h4
      split at h4
      · cases h4
      · exact h4
    have hP : P ≠ [] := fun z => by subst z; cases h4
    have hpos := List.length_pos_iff.mpr hP
    obtain ⟨g1, g2⟩ := chk_none hc
    rw [h1] at ck
    have el : lyD 0 = rw layG := rfl
    rw [el, rows_good g1] at ck
    have hA : 1 ≤ (P.map (·.1)).length := by rw [List.length_map]; omega
    have hB : (P.map (·.1)).length ≤ 3 := by
      rw [List.length_map]
      rcases g2 with z | z
      · exact absurd z hP
      · omega
    have hC : ∀ r ∈ P.map (·.1), (∀ d ∈ r, d < 2) ∧ r.length ≤ 2 := fun r hr => by
      obtain ⟨z, hz, rfl⟩ := List.mem_map.mp hr
      exact hw z hz
    have hrg := rows_good g1
    have hRl : (P.map (·.1)).length = P.length := by rw [List.length_map]
    generalize P.map (·.1) = R at *
    have n0 := x_need (C := C) (x := nm) (R := R) h3 hA hB hC
    have n1 := n0 ck
    have n2 := n1 p
    have nd := n2 hp
    rw [hRl] at nd
    rw [el, hrg]
    rw [if_pos isNn_non]
    by_cases hc2 : 0 ≤ p ∧ p < (P.length : Nat)
    · rw [if_pos hc2] at nd ⊢
      obtain ⟨d, e⟩ := nd
      rw [e, told0]
    · rw [if_neg hc2] at nd ⊢
      rw [nd, toldN]
  · rw [h1] at ck
    obtain ⟨_, _, a3⟩ := told_err ck
    rw [a3, h2, if_neg (by rw [isNn_ne h3]; exact Bool.false_ne_true)]
end
end
end My

namespace My
open PySem L2 Cc Mi Wm
variable [PW]
noncomputable section
section
variable {C : Addr} {j i : Nat} {nm : Str} {P : List RwI} {E : Str → List D → Prop}
def wrg : Nat → List RwI → List Nat
  | _, [] => []
  | k, p :: P => (if bdB p || decide (k = 3) then [k] else []) ++ wrg (k + 1) P
theorem wrg_app : ∀ (P : List RwI) (k : Nat) (p : RwI), wrg k (P ++ [p]) = wrg k P ++ (if bdB p || decide (k + P.length = 3) then [k + P.length] else [])
  | [], k, p => by simp [wrg]
  | q :: P, k, p => by
    rw [List.cons_append, wrg, wrg_app P (k + 1) p, wrg, List.append_assoc, List.length_cons]
    rw [show k + 1 + P.length = k + (P.length + 1) by omega]
theorem wrg_head : ∀ (P : List RwI) (k : Nat), k + P.length ≤ 4 → (wrg k P).head? = chk k P
  | [], k, _ => rfl
  | p :: P, k, h => by
    rw [List.length_cons] at h
    unfold wrg chk
    by_cases c : 3 ≤ k ∨ bdB p = true
    · have : (bdB p || decide (k = 3)) = true := by
        rcases c with c | c
        · rw [decide_eq_true (show k = 3 by omega), Bool.or_true]
        · rw [c]; rfl
      rw [this, if_pos c]
      rfl
    · rw [not_or] at c
      have : (bdB p || decide (k = 3)) = false := by
        rw [decide_eq_false (show ¬ k = 3 by omega), Bool.or_false]
        simpa using c.2
      rw [this, if_neg Bool.false_ne_true, if_neg (show ¬(3 ≤ k ∨ bdB p = true) by rw [not_or]; exact c)]
      exact wrg_head P (k + 1) (by omega)
abbrev rhoP (C : Addr) (z2 z3 : D) (P : List RwI) (s5 s6 s7 s8 s9 : Sl) (j : Nat) (nm : Str) (s12 : Sl) : Mi.Env := [.no, .row, .dat z2, .dat z3, .dat (.lst (jD (wrg 0 P))), s5, s6, s7, s8, s9, .dat (lyD j), .dat (.str nm), s12, .own (P.map rowI), .dat (stD C), .no]
theorem catJ {js : List Nat} {ds : List D} (h : js.length + ds.length ≤ 1000) : fCatL (.lst (jD js)) (.lst ds) = some (jD js ++ ds) := f_catL (by simp; omega)
theorem w_tail (hi : i ≤ 3) (hP : P.length = i) {gs : List Nat} (hg : (∀ d ∈ gs, d < 2) ∧ gs.length ≤ 2) (hw : ∀ p ∈ P, RwOk p) {z2 z3 : D} {s8 s9 s12 : Sl} (b : Bool) :
    Wp (w2 C (rhoP C z2 z3 P (.dat (.int (i : Nat))) (.dat (.lst (jD gs))) (.dat (.bl b)) s8 s9 j nm s12)) (fun fl => ∃ ρ', fl = .nx ρ' ∧ ∃ P' d6 d7, P'.length = i + 1 ∧ (∀ p ∈ P', RwOk p) ∧ ρ' = rhoP C z2 z3 P' (.dat (.int (i : Nat))) (.dat d6) (.dat d7) s8 s9 j nm s12) E := by
  unfold w2
  refine wp_drawn (n := 3) rfl ⟨by decide, by decide⟩ fun d d0 d1 => ?_
  have hd : d = 0 ∨ d = 1 ∨ d = 2 := by omega
  have hcat : ∀ ds : List D, ds.length ≤ 1 → fCatL (.lst (jD gs)) (.lst ds) = some (jD gs ++ ds) := fun ds h => catJ (by have := hg.2; omega)
  have hlen1 : P.length < 100000 := by omega
  -- what is left
  have fin : ∀ bd : Bd, (bdB (gs, bd) = b) → Wp (w3 C (rhoP C z2 z3 P (.dat (.int (i : Nat))) (.dat (.lst (jD gs ++ bd.ds))) (.dat (.bl b)) s8 s9 j nm s12)) (fun fl => ∃ ρ', fl = .nx ρ' ∧ ∃ P' d6 d7, P'.length = i + 1 ∧ (∀ p ∈ P', RwOk p) ∧ ρ' = rhoP C z2 z3 P' (.dat (.int (i : Nat))) (.dat d6) (.dat d7) s8 s9 j nm s12) E := fun bd hbd => by
    have hwl : (wrg 0 P).length ≤ 100 := by
      have : ∀ (P : List RwI) (k : Nat), (wrg k P).length ≤ P.length := fun P => by
        induction P with
        | nil => exact fun _ => Nat.le_refl _
        | cons p P ih =>
          intro k
          have := ih (k + 1)
          unfold wrg
          split <;> simp <;> omega
      have := this P 0
      omega
    have ew : jD (wrg 0 (P ++ [(gs, bd)])) = jD (wrg 0 P) ++ (if b || decide (i = 3) then [D.int (i : Nat)] else []) := by
      rw [wrg_app, hbd, Nat.zero_add, hP]
      unfold jD
      rw [List.map_append]
      congr 1
      split <;> simp
    have eor : ((((i : Nat) : Int)) == 3) = decide (i = 3) := by
      by_cases h : i = 3
      · rw [h]; rfl
      · rw [decide_eq_false h]
        simp only [beq_eq_false_iff_ne, ne_eq]
        omega
    unfold w3
    refine wp_next (ρ' := [.no, .row, .dat z2, .dat z3, .dat (.lst (jD (wrg 0 (P ++ [(gs, bd)])))), .dat (.int (i : Nat)), .dat (.lst (jD gs ++ bd.ds)), .dat (.bl b), s8, s9, .dat (lyD j), .dat (.str nm), s12, .own (P.map rowI), .dat (stD C), .no]) ?_ ?_
    · have c1 : fCatL (.lst (jD (wrg 0 P))) (.lst [.int (i : Nat)]) = some (jD (wrg 0 P) ++ [.int (i : Nat)]) := catJ (by simp; omega)
      have c0 : fCatL (.lst (jD (wrg 0 P))) (.lst []) = some (jD (wrg 0 P) ++ []) := catJ (by simp; omega)
      have r1 : fRepL (.lst [.int (i : Nat)]) (.int 1) = some [.int (i : Nat)] := rfl
      have r0 : fRepL (.lst [.int (i : Nat)]) (.int 0) = some [] := rfl
      have t1 : fInt [.bl true] = some (.int 1) := rfl
      have t0 : fInt [.bl false] = some (.int 0) := rfl
      have k1 : (1 : Nat) ≤ 100000 := by omega
      rw [ew]
      unfold rhoP
      generalize jD gs ++ bd.ds = G at *
      generalize jD (wrg 0 P) = J at *
      generalize P.map rowI = PD at *
      generalize stD C = S at *
      generalize lyD j = ly at *
      generalize ((i : Nat) : Int) = ii at *
      have eq3 : fEq (.int ii) (.int 3) = some (.bl (decide (i = 3))) := by rw [f_eqI, eor]
      cases b with
      | true =>
        simp -implicitDefEqProofs only [defM, defR, lawM, fin, sSeq, sExpr, sAsg, sAsgB, sPat, sPatB, sOwn, sOwnB, sPar, sPar3, sRet, sRetN, sIf, sFor, sForB, sApp, sAppB, sExt, sExtB, sSet, sFz, sNext, sBreak, sCont, sAug, sAugL, sErrF, sErr, sParX, sParX3, agGo, Fl.next, Fl.turn, vB, ok1, okL, mVar, mC, mOp, mUn, mNil, mCons, mCB, mCBn, mCall, mTup, mLst, mNew, asB, cOf, cAnd, cOr, cNot, cYes, mAnd, mOr, mNot, mIf, mChain, oNone, asI, oSome, mOpN, mPt, iL, iT, mFld, mProp, mLenI, mSlT, mSlL, pName, pGo, pTup, pLst, wipeE, mIsT, mCallR, mDraw, isRow, look, M.bind_ret, M.bind_err, M.bind_bad, M.bind_draw, M.ofO_some, M.ofO_none, M.calm_ret, M.calm_bad, M.calm_draw, M.bind_assoc, M.wp_ret, List.length_cons, List.length_nil, List.map_cons, List.map_nil, List.replicate_zero, List.replicate_succ, List.cons_append, List.nil_append, List.set_cons_zero, List.set_cons_succ, List.getElem?_cons_zero, List.getElem?_cons_succ, Nat.reduceAdd, Nat.reduceSub, Nat.reduceLeDiff, Nat.reduceEqDiff, if_true, if_false, ite_true, ite_false, reduceIte, Bool.not_true, Bool.not_false, Bool.false_eq_true, k1, t1, r1, c1]
        simp
      | false =>
        cases hc : decide (i = 3) with
        | true =>
          rw [hc] at eq3
          simp -implicitDefEqProofs only [defM, defR, lawM, fin, sSeq, sExpr, sAsg, sAsgB, sPat, sPatB, sOwn, sOwnB, sPar, sPar3, sRet, sRetN, sIf, sFor, sForB, sApp, sAppB, sExt, sExtB, sSet, sFz, sNext, sBreak, sCont, sAug, sAugL, sErrF, sErr, sParX, sParX3, agGo, Fl.next, Fl.turn, vB, ok1, okL, mVar, mC, mOp, mUn, mNil, mCons, mCB, mCBn, mCall, mTup, mLst, mNew, asB, cOf, cAnd, cOr, cNot, cYes, mAnd, mOr, mNot, mIf, mChain, oNone, asI, oSome, mOpN, mPt, iL, iT, mFld, mProp, mLenI, mSlT, mSlL, pName, pGo, pTup, pLst, wipeE, mIsT, mCallR, mDraw, isRow, look, M.bind_ret, M.bind_err, M.bind_bad, M.bind_draw, M.ofO_some, M.ofO_none, M.calm_ret, M.calm_bad, M.calm_draw, M.bind_assoc, M.wp_ret, List.length_cons, List.length_nil, List.map_cons, List.map_nil, List.replicate_zero, List.replicate_succ, List.cons_append, List.nil_append, List.set_cons_zero, List.set_cons_succ, List.getElem?_cons_zero, List.getElem?_cons_succ, Nat.reduceAdd, Nat.reduceSub, Nat.reduceLeDiff, Nat.reduceEqDiff, if_true, if_false, ite_true, ite_false, reduceIte, Bool.not_true, Bool.not_false, Bool.false_eq_true, eq3, k1, t1, r1, c1]
          simp
        | false =>
          rw [hc] at eq3
          simp -implicitDefEqProofs only [defM, defR, lawM, fin, sSeq, sExpr, sAsg, sAsgB, sPat, sPatB, sOwn, sOwnB, sPar, sPar3, sRet, sRetN, sIf, sFor, sForB, sApp, sAppB, sExt, sExtB, sSet, sFz, sNext, sBreak, sCont, sAug, sAugL, sErrF, sErr, sParX, sParX3, agGo, Fl.next, Fl.turn, vB, ok1, okL, mVar, mC, mOp, mUn, mNil, mCons, mCB, mCBn, mCall, mTup, mLst, mNew, asB, cOf, cAnd, cOr, cNot, cYes, mAnd, mOr, mNot, mIf, mChain, oNone, asI, oSome, mOpN, mPt, iL, iT, mFld, mProp, mLenI, mSlT, mSlL, pName, pGo, pTup, pLst, wipeE, mIsT, mCallR, mDraw, isRow, look, M.bind_ret, M.bind_err, M.bind_bad, M.bind_draw, M.ofO_some, M.ofO_none, M.calm_ret, M.calm_bad, M.calm_draw, M.bind_assoc, M.wp_ret, List.length_cons, List.length_nil, List.map_cons, List.map_nil, List.replicate_zero, List.replicate_succ, List.cons_append, List.nil_append, List.set_cons_zero, List.set_cons_succ, List.getElem?_cons_zero, List.getElem?_cons_succ, Nat.reduceAdd, Nat.reduceSub, Nat.reduceLeDiff, Nat.reduceEqDiff, if_true, if_false, ite_true, ite_false, reduceIte, Bool.not_true, Bool.not_false, Bool.false_eq_true, eq3, k1, t0, r0, c0]
          simp
    · have ht : fTup [.lst (jD gs ++ bd.ds)] = some (.ptup (jD gs ++ bd.ds)) := rfl
      have hl : (P.map rowI).length < 100000 := by rw [List.length_map]; exact hlen1
      unfold w4
      refine wp_ret (fl := .nx (rhoP C z2 z3 (P ++ [(gs, bd)]) (.dat (.int (i : Nat))) (.dat (.lst (jD gs ++ bd.ds))) (.dat (.bl b)) s8 s9 j nm s12)) ?_ ⟨_, rfl, P ++ [(gs, bd)], _, _, by simp [hP], fun p hp => ?_, rfl⟩
      · have ea : (P ++ [(gs, bd)]).map rowI = P.map rowI ++ [.ptup (jD gs ++ bd.ds)] := by rw [List.map_append]; rfl
        unfold rhoP
        rw [ea]
        generalize jD gs ++ bd.ds = G at *
        generalize jD (wrg 0 (P ++ [(gs, bd)])) = J at *
        generalize P.map rowI = PD at *
        generalize stD C = S at *
        generalize lyD j = ly at *
        simp -implicitDefEqProofs only [defM, defR, lawM, fin, sSeq, sExpr, sAsg, sAsgB, sPat, sPatB, sOwn, sOwnB, sPar, sPar3, sRet, sRetN, sIf, sFor, sForB, sApp, sAppB, sExt, sExtB, sSet, sFz, sNext, sBreak, sCont, sAug, sAugL, sErrF, sErr, sParX, sParX3, agGo, Fl.next, Fl.turn, vB, ok1, okL, mVar, mC, mOp, mUn, mNil, mCons, mCB, mCBn, mCall, mTup, mLst, mNew, asB, cOf, cAnd, cOr, cNot, cYes, mAnd, mOr, mNot, mIf, mChain, oNone, asI, oSome, mOpN, mPt, iL, iT, mFld, mProp, mLenI, mSlT, mSlL, pName, pGo, pTup, pLst, wipeE, mIsT, mCallR, mDraw, isRow, look, M.bind_ret, M.bind_err, M.bind_bad, M.bind_draw, M.ofO_some, M.ofO_none, M.calm_ret, M.calm_bad, M.calm_draw, M.bind_assoc, M.wp_ret, List.length_cons, List.length_nil, List.map_cons, List.map_nil, List.replicate_zero, List.replicate_succ, List.cons_append, List.nil_append, List.set_cons_zero, List.set_cons_succ, List.getElem?_cons_zero, List.getElem?_cons_succ, Nat.reduceAdd, Nat.reduceSub, Nat.reduceLeDiff, Nat.reduceEqDiff, if_true, if_false, ite_true, ite_false, reduceIte, Bool.not_true, Bool.not_false, Bool.false_eq_true, ht, hl]
      · rcases List.mem_append.mp hp with h | h
        · exact hw p h
        · rw [List.mem_singleton.mp h]; exact hg
  have fx0 : ∀ a b c : D, fIx (.lst [a, b, c]) (.int 0) = some a := fun _ _ _ => rfl
  have fx1 : ∀ a b c : D, fIx (.lst [a, b, c]) (.int 1) = some b := fun _ _ _ => rfl
  have fx2 : ∀ a b c : D, fIx (.lst [a, b, c]) (.int 2) = some c := fun _ _ _ => rfl
  have t1 : fInt [.bl true] = some (.int 1) := rfl
  have t0 : fInt [.bl false] = some (.int 0) := rfl
  have k1 : (1 : Nat) ≤ 100000 := by omega
  have k3 : (3 : Nat) ≤ 100000 := by omega
  have e0 := hcat [] (by simp)
  have e2 := hcat [.int 2] (by simp)
  have eN := hcat [.int (0 - 1)] (by simp)
  have eT := hcat [.bl true] (by simp)
  have r0 : ∀ x : D, fRepL (.lst [x]) (.int 0) = some [] := fun _ => rfl
  have r1 : ∀ x : D, fRepL (.lst [x]) (.int 1) = some [x] := fun _ => rfl
  have sub1 : fSub (.int 0) (.int 1) = some (.int (0 - 1)) := rfl
  cases b with
  | false =>
    have f0 := fin .g rfl
    show ∃ ρ', _ ∧ _
    refine ⟨_, ?_, f0⟩
    unfold rhoP
    generalize jD gs = G at *
    generalize P.map rowI = PD at *
    generalize stD C = S at *
    generalize lyD j = ly at *
    generalize jD (wrg 0 P) = J at *
    rcases hd with rfl | rfl | rfl <;> simp -implicitDefEqProofs only [defM, defR, lawM, fin, sSeq, sExpr, sAsg, sAsgB, sPat, sPatB, sOwn, sOwnB, sPar, sPar3, sRet, sRetN, sIf, sFor, sForB, sApp, sAppB, sExt, sExtB, sSet, sFz, sNext, sBreak, sCont, sAug, sAugL, sErrF, sErr, sParX, sParX3, agGo, Fl.next, Fl.turn, vB, ok1, okL, mVar, mC, mOp, mUn, mNil, mCons, mCB, mCBn, mCall, mTup, mLst, mNew, asB, cOf, cAnd, cOr, cNot, cYes, mAnd, mOr, mNot, mIf, mChain, oNone, asI, oSome, mOpN, mPt, iL, iT, mFld, mProp, mLenI, mSlT, mSlL, pName, pGo, pTup, pLst, wipeE, mIsT, mCallR, mDraw, isRow, look, M.bind_ret, M.bind_err, M.bind_bad, M.bind_draw, M.ofO_some, M.ofO_none, M.calm_ret, M.calm_bad, M.calm_draw, M.bind_assoc, M.wp_ret, List.length_cons, List.length_nil, List.map_cons, List.map_nil, List.replicate_zero, List.replicate_succ, List.cons_append, List.nil_append, List.set_cons_zero, List.set_cons_succ, List.getElem?_cons_zero, List.getElem?_cons_succ, Nat.reduceAdd, Nat.reduceSub, Nat.reduceLeDiff, Nat.reduceEqDiff, if_true, if_false, ite_true, ite_false, reduceIte, Bool.not_true, Bool.not_false, Bool.false_eq_true, fx0, fx1, fx2, t0, k1, k3, r0, e0, sub1, Bd.ds]
  | true =>
    rcases hd with rfl | rfl | rfl
    · refine ⟨_, ?_, fin .two rfl⟩
      unfold rhoP
      generalize jD gs = G at *
      generalize P.map rowI = PD at *
      generalize stD C = S at *
      generalize lyD j = ly at *
      generalize jD (wrg 0 P) = J at *
      simp -implicitDefEqProofs only [defM, defR, lawM, fin, sSeq, sExpr, sAsg, sAsgB, sPat, sPatB, sOwn, sOwnB, sPar, sPar3, sRet, sRetN, sIf, sFor, sForB, sApp, sAppB, sExt, sExtB, sSet, sFz, sNext, sBreak, sCont, sAug, sAugL, sErrF, sErr, sParX, sParX3, agGo, Fl.next, Fl.turn, vB, ok1, okL, mVar, mC, mOp, mUn, mNil, mCons, mCB, mCBn, mCall, mTup, mLst, mNew, asB, cOf, cAnd, cOr, cNot, cYes, mAnd, mOr, mNot, mIf, mChain, oNone, asI, oSome, mOpN, mPt, iL, iT, mFld, mProp, mLenI, mSlT, mSlL, pName, pGo, pTup, pLst, wipeE, mIsT, mCallR, mDraw, isRow, look, M.bind_ret, M.bind_err, M.bind_bad, M.bind_draw, M.ofO_some, M.ofO_none, M.calm_ret, M.calm_bad, M.calm_draw, M.bind_assoc, M.wp_ret, List.length_cons, List.length_nil, List.map_cons, List.map_nil, List.replicate_zero, List.replicate_succ, List.cons_append, List.nil_append, List.set_cons_zero, List.set_cons_succ, List.getElem?_cons_zero, List.getElem?_cons_succ, Nat.reduceAdd, Nat.reduceSub, Nat.reduceLeDiff, Nat.reduceEqDiff, if_true, if_false, ite_true, ite_false, reduceIte, Bool.not_true, Bool.not_false, Bool.false_eq_true, fx0, fx1, fx2, t1, k1, k3, r1, e2, sub1, Bd.ds]
    · refine ⟨_, ?_, fin .neg rfl⟩
      unfold rhoP
      generalize jD gs = G at *
      generalize P.map rowI = PD at *
      generalize stD C = S at *
      generalize lyD j = ly at *
      generalize jD (wrg 0 P) = J at *
      simp -implicitDefEqProofs only [defM, defR, lawM, fin, sSeq, sExpr, sAsg, sAsgB, sPat, sPatB, sOwn, sOwnB, sPar, sPar3, sRet, sRetN, sIf, sFor, sForB, sApp, sAppB, sExt, sExtB, sSet, sFz, sNext, sBreak, sCont, sAug, sAugL, sErrF, sErr, sParX, sParX3, agGo, Fl.next, Fl.turn, vB, ok1, okL, mVar, mC, mOp, mUn, mNil, mCons, mCB, mCBn, mCall, mTup, mLst, mNew, asB, cOf, cAnd, cOr, cNot, cYes, mAnd, mOr, mNot, mIf, mChain, oNone, asI, oSome, mOpN, mPt, iL, iT, mFld, mProp, mLenI, mSlT, mSlL, pName, pGo, pTup, pLst, wipeE, mIsT, mCallR, mDraw, isRow, look, M.bind_ret, M.bind_err, M.bind_bad, M.bind_draw, M.ofO_some, M.ofO_none, M.calm_ret, M.calm_bad, M.calm_draw, M.bind_assoc, M.wp_ret, List.length_cons, List.length_nil, List.map_cons, List.map_nil, List.replicate_zero, List.replicate_succ, List.cons_append, List.nil_append, List.set_cons_zero, List.set_cons_succ, List.getElem?_cons_zero, List.getElem?_cons_succ, Nat.reduceAdd, Nat.reduceSub, Nat.reduceLeDiff, Nat.reduceEqDiff, if_true, if_false, ite_true, ite_false, reduceIte, Bool.not_true, Bool.not_false, Bool.false_eq_true, fx0, fx1, fx2, t1, k1, k3, r1, eN, sub1, Bd.ds]
      rfl
    · refine ⟨_, ?_, fin .tr rfl⟩
      unfold rhoP
      generalize jD gs = G at *
      generalize P.map rowI = PD at *
      generalize stD C = S at *
      generalize lyD j = ly at *
      generalize jD (wrg 0 P) = J at *
      simp -implicitDefEqProofs only [defM, defR, lawM, fin, sSeq, sExpr, sAsg, sAsgB, sPat, sPatB, sOwn, sOwnB, sPar, sPar3, sRet, sRetN, sIf, sFor, sForB, sApp, sAppB, sExt, sExtB, sSet, sFz, sNext, sBreak, sCont, sAug, sAugL, sErrF, sErr, sParX, sParX3, agGo, Fl.next, Fl.turn, vB, ok1, okL, mVar, mC, mOp, mUn, mNil, mCons, mCB, mCBn, mCall, mTup, mLst, mNew, asB, cOf, cAnd, cOr, cNot, cYes, mAnd, mOr, mNot, mIf, mChain, oNone, asI, oSome, mOpN, mPt, iL, iT, mFld, mProp, mLenI, mSlT, mSlL, pName, pGo, pTup, pLst, wipeE, mIsT, mCallR, mDraw, isRow, look, M.bind_ret, M.bind_err, M.bind_bad, M.bind_draw, M.ofO_some, M.ofO_none, M.calm_ret, M.calm_bad, M.calm_draw, M.bind_assoc, M.wp_ret, List.length_cons, List.length_nil, List.map_cons, List.map_nil, List.replicate_zero, List.replicate_succ, List.cons_append, List.nil_append, List.set_cons_zero, List.set_cons_succ, List.getElem?_cons_zero, List.getElem?_cons_succ, Nat.reduceAdd, Nat.reduceSub, Nat.reduceLeDiff, Nat.reduceEqDiff, if_true, if_false, ite_true, ite_false, reduceIte, Bool.not_true, Bool.not_false, Bool.false_eq_true, fx0, fx1, fx2, t1, k1, k3, r1, eT, sub1, Bd.ds]
end
end
end My

namespace My
open PySem L2 Cc Mi Wm
variable [PW]
noncomputable section
section
variable {C : Addr} {j i : Nat} {nm : Str} {P : List RwI} {E : Str → List D → Prop} {z2 z3 : D} {s5 s6 s7 s8 s9 s12 : Sl}
def PostI (C : Addr) (z2 z3 : D) (i : Nat) (s8 s9 : Sl) (j : Nat) (nm : Str) (s12 : Sl) : Fl → Prop := fun fl => ∃ ρ', fl = .nx ρ' ∧ ∃ P' d6 d7, P'.length = i + 1 ∧ (∀ p ∈ P', RwOk p) ∧ ρ' = rhoP C z2 z3 P' (.dat (.int (i : Nat))) (.dat d6) (.dat d7) s8 s9 j nm s12
theorem w_1 (hi : i ≤ 3) (hP : P.length = i) {gs : List Nat} (hg : (∀ d ∈ gs, d < 2) ∧ gs.length ≤ 2) (hw : ∀ p ∈ P, RwOk p) : Wp (w1 C (rhoP C z2 z3 P (.dat (.int (i : Nat))) (.dat (.lst (jD gs))) s7 s8 s9 j nm s12)) (PostI C z2 z3 i s8 s9 j nm s12) E := by
  unfold w1
  refine wp_drawn (n := 6) rfl ⟨by decide, by decide⟩ fun d d0 d1 => ?_
  exact ⟨rhoP C z2 z3 P (.dat (.int (i : Nat))) (.dat (.lst (jD gs))) (.dat (.bl (d == 0))) s8 s9 j nm s12, rfl, w_tail hi hP hg hw (d == 0)⟩
theorem w_0 (hi : i ≤ 3) (hP : P.length = i) (hw : ∀ p ∈ P, RwOk p) : Wp (w0 C (rhoP C z2 z3 P (.dat (.int (i : Nat))) s6 s7 s8 s9 j nm s12)) (PostI C z2 z3 i s8 s9 j nm s12) E := by
  unfold w0
  refine wp_seq ⟨?_⟩
  have h1 : sAsg 6 (mNew (mLc (rg1 (mDraw 1 (mC (.int 3)))) (pName 15) cYes (mDraw 1 (mC (.int 2))) [15])) (rhoP C z2 z3 P (.dat (.int (i : Nat))) s6 s7 s8 s9 j nm s12) = .draw 3 fun d => (((((if rgOk 0 d = true then M.ret (rgD 0 d) else M.bad).bind fun ds => if ds.length ≤ 100000 then lcGo (pName 15) cYes (mDraw 1 (mC (.int 2))) (rhoP C z2 z3 P (.dat (.int (i : Nat))) s6 s7 s8 s9 j nm s12) ds else .bad)).bind fun xs => .ret (.lst xs)).bind fun d => .ret (.nx ((rhoP C z2 z3 P (.dat (.int (i : Nat))) s6 s7 s8 s9 j nm s12).set 6 (.dat d)))) := by rfl
  rw [h1, M.wp_draw]
  refine ⟨⟨by decide, by decide⟩, fun d d0 d1 => ?_⟩
  obtain ⟨k, hk, rfl⟩ := int_lt (n := 3) d0 (by simpa using d1)
  rw [if_pos (rg_ok' (by omega)), M.bind_ret, rgD_nat, if_pos (by simp; omega), M.wp_bind, M.wp_bind]
  refine lc_drawn (G := fun d => ∃ e : Nat, e < 2 ∧ d = .int (e : Nat)) (fun k => ⟨_, rfl, ?_⟩) fun ds hl hG => ?_
  · show (M.draw 2 fun d => M.ret (D.int d)).wp _ _
    rw [M.wp_draw]
    refine ⟨⟨by decide, by decide⟩, fun d d0 d1 => ?_⟩
    obtain ⟨e, he, rfl⟩ := int_lt (n := 2) d0 (by simpa using d1)
    exact ⟨e, he, rfl⟩
  · have : ∃ gs : List Nat, ds = jD gs ∧ ∀ d ∈ gs, d < 2 := by
      clear hl
      induction ds with
      | nil => exact ⟨[], rfl, fun _ h => nomatch h⟩
      | cons d ds ih =>
        obtain ⟨gs, h1, h2⟩ := ih fun x hx => hG x (by simp [hx])
        obtain ⟨e, he, rfl⟩ := hG d (by simp)
        exact ⟨e :: gs, by rw [h1]; rfl, fun x hx => by
          rcases List.mem_cons.mp hx with rfl | hx
          · exact he
          · exact h2 x hx⟩
    obtain ⟨gs, rfl, hg⟩ := this
    have hlen : gs.length ≤ 2 := by
      rw [show (jD gs).length = gs.length by simp] at hl
      omega
    exact ⟨rhoP C z2 z3 P (.dat (.int (i : Nat))) (.dat (.lst (jD gs))) s7 s8 s9 j nm s12, rfl, w_1 hi hP ⟨hg, hlen⟩ hw⟩
theorem rows_ok (P : List RwI) : datOks 2 (P.map rowI) = true := datOks_iff.mpr fun d hd => by
  obtain ⟨p, _, rfl⟩ := List.mem_map.mp hd
  show datOks 1 (jD p.1 ++ p.2.ds) = true
  refine datOks_iff.mpr fun d hd => ?_
  rcases List.mem_append.mp hd with h | h
  · obtain ⟨k, _, rfl⟩ := List.mem_map.mp h
    rfl
  · obtain ⟨g, b⟩ := p
    cases b <;> simp [Bd.ds] at h <;> subst h <;> rfl
theorem due_v4 (hP : P.length ≤ 4) : sAsgB 8 (mIf (cOf (mOp fNe (mVar 4) (mNew (mLst mNil)))) (mTup (mCons (mC (.str "rows")) (mCons (mOp fIx (mVar 4) (mC (.int 0))) mNil))) (mIf (cOf (mOp fEq (mVar 13) (mNew (mLst mNil)))) (mTup (mCons (mC (.str "rows")) (mCons (mC (.int 0)) mNil))) (mC .non))) (rhoP C z2 z3 P s5 s6 s7 s8 s9 j nm s12) = .ret (.nx (rhoP C z2 z3 P s5 s6 s7 (.dat (dD (dueO P))) s9 j nm s12)) := by
  have hh := wrg_head P 0 (by omega)
  have k0 : (0 : Nat) ≤ 100000 := by omega
  have k2 : (2 : Nat) ≤ 100000 := by omega
  unfold rhoP
  cases hw : wrg 0 P with
  | nil =>
    rw [hw] at hh
    have hc : chk 0 P = none := hh.symm
    have e1 : fNe (.lst (jD [])) (.lst []) = some (.bl false) := f_neSame (n := 1) (by decide) (by decide)
    cases P with
    | nil =>
      have e2 : fEq (.lst []) (.lst []) = some (.bl true) := by kernel_rfl
      have hd : dD (dueO []) = .ptup [.str "rows", .int 0] := rfl
      rw [hd]
      generalize stD C = S at *
      generalize lyD j = ly at *
      have e1' : fNe (.lst []) (.lst []) = some (.bl false) := e1
      simp -implicitDefEqProofs only [defM, defR, lawM, fin, sSeq, sExpr, sAsg, sAsgB, sPat, sPatB, sOwn, sOwnB, sPar, sPar3, sRet, sRetN, sIf, sFor, sForB, sApp, sAppB, sExt, sExtB, sSet, sFz, sNext, sBreak, sCont, sAug, sAugL, sErrF, sErr, sParX, sParX3, agGo, Fl.next, Fl.turn, vB, ok1, okL, mVar, mC, mOp, mUn, mNil, mCons, mCB, mCBn, mCall, mTup, mLst, mNew, asB, cOf, cAnd, cOr, cNot, cYes, mAnd, mOr, mNot, mIf, mChain, oNone, asI, oSome, mOpN, mPt, iL, iT, mFld, mProp, mLenI, mSlT, mSlL, pName, pGo, pTup, pLst, wipeE, mIsT, mCallR, mDraw, isRow, look, M.bind_ret, M.bind_err, M.bind_bad, M.bind_draw, M.ofO_some, M.ofO_none, M.calm_ret, M.calm_bad, M.calm_draw, M.bind_assoc, M.wp_ret, List.length_cons, List.length_nil, List.map_cons, List.map_nil, List.replicate_zero, List.replicate_succ, List.cons_append, List.nil_append, List.set_cons_zero, List.set_cons_succ, List.getElem?_cons_zero, List.getElem?_cons_succ, Nat.reduceAdd, Nat.reduceSub, Nat.reduceLeDiff, Nat.reduceEqDiff, if_true, if_false, ite_true, ite_false, reduceIte, Bool.not_true, Bool.not_false, Bool.false_eq_true, jD, e1', e2, k0, k2, D.fix, D.fixs, D.pl, D.pls, Bool.and_self]
    | cons p P =>
      have e2 : fEq (.lst ((p :: P).map rowI)) (.lst []) = some (.bl false) := f_eqNil (rows_ok (p :: P)) (by decide)
      have hd : dD (dueO (p :: P)) = .non := by
        unfold dueO
        rw [if_neg (by simp), hc]
        rfl
      rw [hd]
      generalize (p :: P).map rowI = PD at *
      generalize stD C = S at *
      generalize lyD j = ly at *
      have e1' : fNe (.lst []) (.lst []) = some (.bl false) := e1
      simp -implicitDefEqProofs only [defM, defR, lawM, fin, sSeq, sExpr, sAsg, sAsgB, sPat, sPatB, sOwn, sOwnB, sPar, sPar3, sRet, sRetN, sIf, sFor, sForB, sApp, sAppB, sExt, sExtB, sSet, sFz, sNext, sBreak, sCont, sAug, sAugL, sErrF, sErr, sParX, sParX3, agGo, Fl.next, Fl.turn, vB, ok1, okL, mVar, mC, mOp, mUn, mNil, mCons, mCB, mCBn, mCall, mTup, mLst, mNew, asB, cOf, cAnd, cOr, cNot, cYes, mAnd, mOr, mNot, mIf, mChain, oNone, asI, oSome, mOpN, mPt, iL, iT, mFld, mProp, mLenI, mSlT, mSlL, pName, pGo, pTup, pLst, wipeE, mIsT, mCallR, mDraw, isRow, look, M.bind_ret, M.bind_err, M.bind_bad, M.bind_draw, M.ofO_some, M.ofO_none, M.calm_ret, M.calm_bad, M.calm_draw, M.bind_assoc, M.wp_ret, List.length_cons, List.length_nil, List.map_cons, List.map_nil, List.replicate_zero, List.replicate_succ, List.cons_append, List.nil_append, List.set_cons_zero, List.set_cons_succ, List.getElem?_cons_zero, List.getElem?_cons_succ, Nat.reduceAdd, Nat.reduceSub, Nat.reduceLeDiff, Nat.reduceEqDiff, if_true, if_false, ite_true, ite_false, reduceIte, Bool.not_true, Bool.not_false, Bool.false_eq_true, jD, e1', e2, k0, k2, D.fix, D.fixs, D.pl, D.pls, Bool.and_self]
  | cons k ks =>
    rw [hw] at hh
    have hc : chk 0 P = some k := hh.symm
    have hP0 : P ≠ [] := fun z => by subst z; cases hc
    have e1 : fNe (.lst (jD (k :: ks))) (.lst []) = some (.bl true) := f_neNil (datOks_ints (fun k : Nat => (k : Int)) (k :: ks) 1) (by decide)
    have e3 : fIx (.lst (jD (k :: ks))) (.int 0) = some (.int (k : Nat)) := f_ixL (j := 0) rfl
    have hd : dD (dueO P) = .ptup [.str "rows", .int (k : Nat)] := by
      unfold dueO
      rw [if_neg hP0, hc]
      rfl
    rw [hd]
    generalize P.map rowI = PD at *
    generalize stD C = S at *
    generalize lyD j = ly at *
    generalize jD (k :: ks) = J at *
    simp -implicitDefEqProofs only [defM, defR, lawM, fin, sSeq, sExpr, sAsg, sAsgB, sPat, sPatB, sOwn, sOwnB, sPar, sPar3, sRet, sRetN, sIf, sFor, sForB, sApp, sAppB, sExt, sExtB, sSet, sFz, sNext, sBreak, sCont, sAug, sAugL, sErrF, sErr, sParX, sParX3, agGo, Fl.next, Fl.turn, vB, ok1, okL, mVar, mC, mOp, mUn, mNil, mCons, mCB, mCBn, mCall, mTup, mLst, mNew, asB, cOf, cAnd, cOr, cNot, cYes, mAnd, mOr, mNot, mIf, mChain, oNone, asI, oSome, mOpN, mPt, iL, iT, mFld, mProp, mLenI, mSlT, mSlL, pName, pGo, pTup, pLst, wipeE, mIsT, mCallR, mDraw, isRow, look, M.bind_ret, M.bind_err, M.bind_bad, M.bind_draw, M.ofO_some, M.ofO_none, M.calm_ret, M.calm_bad, M.calm_draw, M.bind_assoc, M.wp_ret, List.length_cons, List.length_nil, List.map_cons, List.map_nil, List.replicate_zero, List.replicate_succ, List.cons_append, List.nil_append, List.set_cons_zero, List.set_cons_succ, List.getElem?_cons_zero, List.getElem?_cons_succ, Nat.reduceAdd, Nat.reduceSub, Nat.reduceLeDiff, Nat.reduceEqDiff, if_true, if_false, ite_true, ite_false, reduceIte, Bool.not_true, Bool.not_false, Bool.false_eq_true, e1, e3, k0, k2, D.fix, D.fixs, D.pl, D.pls, Bool.and_self]
theorem s_v5 (hn : nm ∈ nm4) (d : D) : sAsg 8 (mIf (cOf (mOp (fIn true) (mVar 11) (mTup (mCons (mC (.str "fig")) (mCons (mC (.str "plum")) mNil))))) (mC (.str "crate")) (mVar 8)) (rhoP C z2 z3 P s5 s6 s7 (.dat d) s9 j nm s12) = .ret (.nx (rhoP C z2 z3 P s5 s6 s7 (.dat (if nm ∈ nm2 then d else .str "crate")) s9 j nm s12)) := by
  have e := f_inStrs true nm nm2
  rw [if_pos rfl] at e
  have k2 : (2 : Nat) ≤ 100000 := by omega
  have em : nm2.map D.str = [D.str "fig", .str "plum"] := rfl
  rw [em] at e
  unfold rhoP
  generalize P.map rowI = PD at *
  generalize stD C = S at *
  generalize lyD j = ly at *
  generalize jD (wrg 0 P) = J at *
  by_cases h : nm ∈ nm2
  · have hd : decide (nm ∉ nm2) = false := by simp [h]
    rw [hd] at e
    rw [if_pos h]
    simp -implicitDefEqProofs only [defM, defR, lawM, fin, sSeq, sExpr, sAsg, sAsgB, sPat, sPatB, sOwn, sOwnB, sPar, sPar3, sRet, sRetN, sIf, sFor, sForB, sApp, sAppB, sExt, sExtB, sSet, sFz, sNext, sBreak, sCont, sAug, sAugL, sErrF, sErr, sParX, sParX3, agGo, Fl.next, Fl.turn, vB, ok1, okL, mVar, mC, mOp, mUn, mNil, mCons, mCB, mCBn, mCall, mTup, mLst, mNew, asB, cOf, cAnd, cOr, cNot, cYes, mAnd, mOr, mNot, mIf, mChain, oNone, asI, oSome, mOpN, mPt, iL, iT, mFld, mProp, mLenI, mSlT, mSlL, pName, pGo, pTup, pLst, wipeE, mIsT, mCallR, mDraw, isRow, look, M.bind_ret, M.bind_err, M.bind_bad, M.bind_draw, M.ofO_some, M.ofO_none, M.calm_ret, M.calm_bad, M.calm_draw, M.bind_assoc, M.wp_ret, List.length_cons, List.length_nil, List.map_cons, List.map_nil, List.replicate_zero, List.replicate_succ, List.cons_append, List.nil_append, List.set_cons_zero, List.set_cons_succ, List.getElem?_cons_zero, List.getElem?_cons_succ, Nat.reduceAdd, Nat.reduceSub, Nat.reduceLeDiff, Nat.reduceEqDiff, if_true, if_false, ite_true, ite_false, reduceIte, Bool.not_true, Bool.not_false, Bool.false_eq_true, k2, e]
  · have hd : decide (nm ∉ nm2) = true := by simp [h]
    rw [hd] at e
    rw [if_neg h]
    simp -implicitDefEqProofs only [defM, defR, lawM, fin, sSeq, sExpr, sAsg, sAsgB, sPat, sPatB, sOwn, sOwnB, sPar, sPar3, sRet, sRetN, sIf, sFor, sForB, sApp, sAppB, sExt, sExtB, sSet, sFz, sNext, sBreak, sCont, sAug, sAugL, sErrF, sErr, sParX, sParX3, agGo, Fl.next, Fl.turn, vB, ok1, okL, mVar, mC, mOp, mUn, mNil, mCons, mCB, mCBn, mCall, mTup, mLst, mNew, asB, cOf, cAnd, cOr, cNot, cYes, mAnd, mOr, mNot, mIf, mChain, oNone, asI, oSome, mOpN, mPt, iL, iT, mFld, mProp, mLenI, mSlT, mSlL, pName, pGo, pTup, pLst, wipeE, mIsT, mCallR, mDraw, isRow, look, M.bind_ret, M.bind_err, M.bind_bad, M.bind_draw, M.ofO_some, M.ofO_none, M.calm_ret, M.calm_bad, M.calm_draw, M.bind_assoc, M.wp_ret, List.length_cons, List.length_nil, List.map_cons, List.map_nil, List.replicate_zero, List.replicate_succ, List.cons_append, List.nil_append, List.set_cons_zero, List.set_cons_succ, List.getElem?_cons_zero, List.getElem?_cons_succ, Nat.reduceAdd, Nat.reduceSub, Nat.reduceLeDiff, Nat.reduceEqDiff, if_true, if_false, ite_true, ite_false, reduceIte, Bool.not_true, Bool.not_false, Bool.false_eq_true, k2, e]
theorem ly_ne (hj : j < 3) : fNe (lyD j) (.ptup [.str "fig", .non, .str "plum"]) = some (.bl (!decide (j = 0))) := by
  have h : j = 0 ∨ j = 1 ∨ j = 2 := by omega
  rcases h with rfl | rfl | rfl <;> kernel_rfl
theorem s_v6 (hj : j < 3) (d : D) : sAsg 8 (mIf (cOf (mOp fNe (mVar 10) (mTup (mCons (mC (.str "fig")) (mCons (mC .non) (mCons (mC (.str "plum")) mNil)))))) (mC (.str "layout")) (mVar 8)) (rhoP C z2 z3 P s5 s6 s7 (.dat d) s9 j nm s12) = .ret (.nx (rhoP C z2 z3 P s5 s6 s7 (.dat (if j = 0 then d else .str "layout")) s9 j nm s12)) := by
  have e := ly_ne hj
  have k3 : (3 : Nat) ≤ 100000 := by omega
  unfold rhoP
  generalize P.map rowI = PD at *
  generalize stD C = S at *
  generalize lyD j = ly at *
  generalize jD (wrg 0 P) = J at *
  by_cases h : j = 0
  · rw [decide_eq_true h] at e
    rw [if_pos h]
    simp -implicitDefEqProofs only [defM, defR, lawM, fin, sSeq, sExpr, sAsg, sAsgB, sPat, sPatB, sOwn, sOwnB, sPar, sPar3, sRet, sRetN, sIf, sFor, sForB, sApp, sAppB, sExt, sExtB, sSet, sFz, sNext, sBreak, sCont, sAug, sAugL, sErrF, sErr, sParX, sParX3, agGo, Fl.next, Fl.turn, vB, ok1, okL, mVar, mC, mOp, mUn, mNil, mCons, mCB, mCBn, mCall, mTup, mLst, mNew, asB, cOf, cAnd, cOr, cNot, cYes, mAnd, mOr, mNot, mIf, mChain, oNone, asI, oSome, mOpN, mPt, iL, iT, mFld, mProp, mLenI, mSlT, mSlL, pName, pGo, pTup, pLst, wipeE, mIsT, mCallR, mDraw, isRow, look, M.bind_ret, M.bind_err, M.bind_bad, M.bind_draw, M.ofO_some, M.ofO_none, M.calm_ret, M.calm_bad, M.calm_draw, M.bind_assoc, M.wp_ret, List.length_cons, List.length_nil, List.map_cons, List.map_nil, List.replicate_zero, List.replicate_succ, List.cons_append, List.nil_append, List.set_cons_zero, List.set_cons_succ, List.getElem?_cons_zero, List.getElem?_cons_succ, Nat.reduceAdd, Nat.reduceSub, Nat.reduceLeDiff, Nat.reduceEqDiff, if_true, if_false, ite_true, ite_false, reduceIte, Bool.not_true, Bool.not_false, Bool.false_eq_true, k3, e]
  · rw [decide_eq_false h] at e
    rw [if_neg h]
    simp -implicitDefEqProofs only [defM, defR, lawM, fin, sSeq, sExpr, sAsg, sAsgB, sPat, sPatB, sOwn, sOwnB, sPar, sPar3, sRet, sRetN, sIf, sFor, sForB, sApp, sAppB, sExt, sExtB, sSet, sFz, sNext, sBreak, sCont, sAug, sAugL, sErrF, sErr, sParX, sParX3, agGo, Fl.next, Fl.turn, vB, ok1, okL, mVar, mC, mOp, mUn, mNil, mCons, mCB, mCBn, mCall, mTup, mLst, mNew, asB, cOf, cAnd, cOr, cNot, cYes, mAnd, mOr, mNot, mIf, mChain, oNone, asI, oSome, mOpN, mPt, iL, iT, mFld, mProp, mLenI, mSlT, mSlL, pName, pGo, pTup, pLst, wipeE, mIsT, mCallR, mDraw, isRow, look, M.bind_ret, M.bind_err, M.bind_bad, M.bind_draw, M.ofO_some, M.ofO_none, M.calm_ret, M.calm_bad, M.calm_draw, M.bind_assoc, M.wp_ret, List.length_cons, List.length_nil, List.map_cons, List.map_nil, List.replicate_zero, List.replicate_succ, List.cons_append, List.nil_append, List.set_cons_zero, List.set_cons_succ, List.getElem?_cons_zero, List.getElem?_cons_succ, Nat.reduceAdd, Nat.reduceSub, Nat.reduceLeDiff, Nat.reduceEqDiff, if_true, if_false, ite_true, ite_false, reduceIte, Bool.not_true, Bool.not_false, Bool.false_eq_true, k3, e]
theorem td_ok : datOk 1 (tD j nm P) = true := by
  unfold tD
  split
  · split
    · cases dueO P with
      | none => rfl
      | some k =>
        show datOk 1 (.ptup [.str "rows", .int (k : Nat)]) = true
        generalize ((k : Nat) : Int) = ii
        kernel_rfl
    · kernel_rfl
  · kernel_rfl
theorem s_v7 (hj : j < 3) (hn : nm ∈ nm4) (hl : P.length ≤ 50) (hw : ∀ p ∈ P, RwOk p) (h5 : Ds s5) (h6 : Ds s6) (h7 : Ds s7) (h9 : Ds s9) (h12 : Ds s12) : sIf (cOf (mOp fNe (fun ρ => (m__law_told ((mCall m_spoken (mCons (mVar 14) (mCons (mVar 10) (mCons (mVar 11) (mCons (mCB fTup (mCons (mVar 13) mNil)) mNil))))) ρ)).calm) (mVar 8))) (sRet (mC (.bl false))) sNext (rhoP C z2 z3 P s5 s6 s7 (.dat (tD j nm P)) s9 j nm s12) = .ret (.nx (rhoP C z2 z3 P s5 s6 s7 (.dat (tD j nm P)) s9 j nm s12)) ∧
    sIf (cOf (mOp fNe (fun ρ => (m__law_told ((mCall m_first_to_know (mCons (mVar 14) (mCons (mVar 10) (mCons (mVar 11) (mCons (mCB fTup (mCons (mVar 13) mNil)) mNil))))) ρ)).calm) (mVar 8))) (sRet (mC (.bl false))) sNext (rhoP C z2 z3 P s5 s6 s7 (.dat (tD j nm P)) s9 j nm s12) = .ret (.nx (rhoP C z2 z3 P s5 s6 s7 (.dat (tD j nm P)) s9 j nm s12)) := by
  obtain ⟨e1, e2⟩ := x_t1 (C := C) hj hn hl hw
  have e3 : fTup [.lst (P.map rowI)] = some (.ptup (P.map rowI)) := rfl
  have e4 : fNe (tD j nm P) (tD j nm P) = some (.bl false) := f_neSame td_ok (by decide)
  unfold rhoP
  generalize tD j nm P = t at *
  generalize P.map rowI = PD at *
  generalize stD C = S at *
  generalize lyD j = ly at *
  generalize jD (wrg 0 P) = J at *
  constructor <;> rcases h5 with rfl | ⟨z5, rfl⟩ <;> rcases h6 with rfl | ⟨z6, rfl⟩ <;> rcases h7 with rfl | ⟨z7, rfl⟩ <;> rcases h9 with rfl | ⟨z9, rfl⟩ <;> rcases h12 with rfl | ⟨z12, rfl⟩ <;> simp -implicitDefEqProofs only [defM, defR, lawM, fin, sSeq, sExpr, sAsg, sAsgB, sPat, sPatB, sOwn, sOwnB, sPar, sPar3, sRet, sRetN, sIf, sFor, sForB, sApp, sAppB, sExt, sExtB, sSet, sFz, sNext, sBreak, sCont, sAug, sAugL, sErrF, sErr, sParX, sParX3, agGo, Fl.next, Fl.turn, vB, ok1, okL, mVar, mC, mOp, mUn, mNil, mCons, mCB, mCBn, mCall, mTup, mLst, mNew, asB, cOf, cAnd, cOr, cNot, cYes, mAnd, mOr, mNot, mIf, mChain, oNone, asI, oSome, mOpN, mPt, iL, iT, mFld, mProp, mLenI, mSlT, mSlL, pName, pGo, pTup, pLst, wipeE, mIsT, mCallR, mDraw, isRow, look, M.bind_ret, M.bind_err, M.bind_bad, M.bind_draw, M.ofO_some, M.ofO_none, M.calm_ret, M.calm_bad, M.calm_draw, M.bind_assoc, M.wp_ret, List.length_cons, List.length_nil, List.map_cons, List.map_nil, List.replicate_zero, List.replicate_succ, List.cons_append, List.nil_append, List.set_cons_zero, List.set_cons_succ, List.getElem?_cons_zero, List.getElem?_cons_succ, Nat.reduceAdd, Nat.reduceSub, Nat.reduceLeDiff, Nat.reduceEqDiff, if_true, if_false, ite_true, ite_false, reduceIte, Bool.not_true, Bool.not_false, Bool.false_eq_true, e1, e2, e3, e4]
theorem f_notTd : ∀ d : D, fNotN d .non = some (.bl (!isNn d)) := fun d => by cases d <;> rfl
theorem td_ok1 : ok1 (tD j nm P) = true := by
  unfold tD
  split
  · split
    · cases dueO P with
      | none => rfl
      | some k => rfl
    · rfl
  · rfl
theorem s_v10 (hl : P.length ≤ 50) (p : Int) (h5 : Ds s5) (h6 : Ds s6) (h7 : Ds s7) (h9 : Ds s9) : sAsgB 9 (mIf (cOf (mOp fNotN (mVar 8) (mC .non))) (mVar 8) (mIf (cOf (mChain fLe fLt (mC (.int 0)) (mVar 12) (mCB fLen (mCons (mVar 13) mNil)))) (mC .non) (mC (.str "number")))) (rhoP C z2 z3 P s5 s6 s7 (.dat (tD j nm P)) s9 j nm (.dat (.int p))) = .ret (.nx (rhoP C z2 z3 P s5 s6 s7 (.dat (tD j nm P)) (.dat (lD j nm P p)) j nm (.dat (.int p)))) := by
  have e1 := f_notTd (tD j nm P)
  have ho := td_ok1 (j := j) (nm := nm) (P := P)
  have hlen : fLen [.lst (P.map rowI)] = some (.int (P.length : Nat)) := by rw [f_lenL (by simp; omega)]; simp
  have l0 : fLe (.int 0) (.int p) = some (.bl (decide (0 ≤ p))) := rfl
  have l1 : fLt (.int p) (.int (P.length : Nat)) = some (.bl (decide (p < (P.length : Nat)))) := rfl
  have ho' : (tD j nm P).fix = true ∧ (tD j nm P).pl = true := by simpa [ok1] using ho
  unfold rhoP lD
  generalize tD j nm P = t at *
  generalize P.map rowI = PD at *
  generalize stD C = S at *
  generalize lyD j = ly at *
  generalize jD (wrg 0 P) = J at *
  cases hi : isNn t with
  | false =>
    rw [hi] at e1
    rw [if_neg Bool.false_ne_true]
    rcases h5 with rfl | ⟨z5, rfl⟩ <;> rcases h6 with rfl | ⟨z6, rfl⟩ <;> rcases h7 with rfl | ⟨z7, rfl⟩ <;> rcases h9 with rfl | ⟨z9, rfl⟩ <;> simp -implicitDefEqProofs only [defM, defR, lawM, fin, sSeq, sExpr, sAsg, sAsgB, sPat, sPatB, sOwn, sOwnB, sPar, sPar3, sRet, sRetN, sIf, sFor, sForB, sApp, sAppB, sExt, sExtB, sSet, sFz, sNext, sBreak, sCont, sAug, sAugL, sErrF, sErr, sParX, sParX3, agGo, Fl.next, Fl.turn, vB, ok1, okL, mVar, mC, mOp, mUn, mNil, mCons, mCB, mCBn, mCall, mTup, mLst, mNew, asB, cOf, cAnd, cOr, cNot, cYes, mAnd, mOr, mNot, mIf, mChain, oNone, asI, oSome, mOpN, mPt, iL, iT, mFld, mProp, mLenI, mSlT, mSlL, pName, pGo, pTup, pLst, wipeE, mIsT, mCallR, mDraw, isRow, look, M.bind_ret, M.bind_err, M.bind_bad, M.bind_draw, M.ofO_some, M.ofO_none, M.calm_ret, M.calm_bad, M.calm_draw, M.bind_assoc, M.wp_ret, List.length_cons, List.length_nil, List.map_cons, List.map_nil, List.replicate_zero, List.replicate_succ, List.cons_append, List.nil_append, List.set_cons_zero, List.set_cons_succ, List.getElem?_cons_zero, List.getElem?_cons_succ, Nat.reduceAdd, Nat.reduceSub, Nat.reduceLeDiff, Nat.reduceEqDiff, if_true, if_false, ite_true, ite_false, reduceIte, Bool.not_true, Bool.not_false, Bool.false_eq_true, e1, ho'.1, ho'.2, Bool.and_self]
  | true =>
    rw [hi] at e1
    rw [if_pos rfl]
    by_cases c0 : 0 ≤ p
    · rw [decide_eq_true c0] at l0
      by_cases c1 : p < (P.length : Nat)
      · rw [decide_eq_true c1] at l1
        rw [if_pos ⟨c0, c1⟩]
        generalize ((P.length : Nat) : Int) = n at *
        rcases h5 with rfl | ⟨z5, rfl⟩ <;> rcases h6 with rfl | ⟨z6, rfl⟩ <;> rcases h7 with rfl | ⟨z7, rfl⟩ <;> rcases h9 with rfl | ⟨z9, rfl⟩ <;> simp -implicitDefEqProofs only [defM, defR, lawM, fin, sSeq, sExpr, sAsg, sAsgB, sPat, sPatB, sOwn, sOwnB, sPar, sPar3, sRet, sRetN, sIf, sFor, sForB, sApp, sAppB, sExt, sExtB, sSet, sFz, sNext, sBreak, sCont, sAug, sAugL, sErrF, sErr, sParX, sParX3, agGo, Fl.next, Fl.turn, vB, ok1, okL, mVar, mC, mOp, mUn, mNil, mCons, mCB, mCBn, mCall, mTup, mLst, mNew, asB, cOf, cAnd, cOr, cNot, cYes, mAnd, mOr, mNot, mIf, mChain, oNone, asI, oSome, mOpN, mPt, iL, iT, mFld, mProp, mLenI, mSlT, mSlL, pName, pGo, pTup, pLst, wipeE, mIsT, mCallR, mDraw, isRow, look, M.bind_ret, M.bind_err, M.bind_bad, M.bind_draw, M.ofO_some, M.ofO_none, M.calm_ret, M.calm_bad, M.calm_draw, M.bind_assoc, M.wp_ret, List.length_cons, List.length_nil, List.map_cons, List.map_nil, List.replicate_zero, List.replicate_succ, List.cons_append, List.nil_append, List.set_cons_zero, List.set_cons_succ, List.getElem?_cons_zero, List.getElem?_cons_succ, Nat.reduceAdd, Nat.reduceSub, Nat.reduceLeDiff, Nat.reduceEqDiff, if_true, if_false, ite_true, ite_false, reduceIte, Bool.not_true, Bool.not_false, Bool.false_eq_true, e1, hlen, l0, l1, D.fix, D.pl, Bool.and_self]
      · rw [decide_eq_false c1] at l1
        rw [if_neg (fun z => c1 z.2)]
        generalize ((P.length : Nat) : Int) = n at *
        rcases h5 with rfl | ⟨z5, rfl⟩ <;> rcases h6 with rfl | ⟨z6, rfl⟩ <;> rcases h7 with rfl | ⟨z7, rfl⟩ <;> rcases h9 with rfl | ⟨z9, rfl⟩ <;> simp -implicitDefEqProofs only [defM, defR, lawM, fin, sSeq, sExpr, sAsg, sAsgB, sPat, sPatB, sOwn, sOwnB, sPar, sPar3, sRet, sRetN, sIf, sFor, sForB, sApp, sAppB, sExt, sExtB, sSet, sFz, sNext, sBreak, sCont, sAug, sAugL, sErrF, sErr, sParX, sParX3, agGo, Fl.next, Fl.turn, vB, ok1, okL, mVar, mC, mOp, mUn, mNil, mCons, mCB, mCBn, mCall, mTup, mLst, mNew, asB, cOf, cAnd, cOr, cNot, cYes, mAnd, mOr, mNot, mIf, mChain, oNone, asI, oSome, mOpN, mPt, iL, iT, mFld, mProp, mLenI, mSlT, mSlL, pName, pGo, pTup, pLst, wipeE, mIsT, mCallR, mDraw, isRow, look, M.bind_ret, M.bind_err, M.bind_bad, M.bind_draw, M.ofO_some, M.ofO_none, M.calm_ret, M.calm_bad, M.calm_draw, M.bind_assoc, M.wp_ret, List.length_cons, List.length_nil, List.map_cons, List.map_nil, List.replicate_zero, List.replicate_succ, List.cons_append, List.nil_append, List.set_cons_zero, List.set_cons_succ, List.getElem?_cons_zero, List.getElem?_cons_succ, Nat.reduceAdd, Nat.reduceSub, Nat.reduceLeDiff, Nat.reduceEqDiff, if_true, if_false, ite_true, ite_false, reduceIte, Bool.not_true, Bool.not_false, Bool.false_eq_true, e1, hlen, l0, l1, D.fix, D.pl, Bool.and_self]
    · rw [decide_eq_false c0] at l0
      rw [if_neg (fun z => c0 z.1)]
      generalize ((P.length : Nat) : Int) = n at *
      rcases h5 with rfl | ⟨z5, rfl⟩ <;> rcases h6 with rfl | ⟨z6, rfl⟩ <;> rcases h7 with rfl | ⟨z7, rfl⟩ <;> rcases h9 with rfl | ⟨z9, rfl⟩ <;> simp -implicitDefEqProofs only [defM, defR, lawM, fin, sSeq, sExpr, sAsg, sAsgB, sPat, sPatB, sOwn, sOwnB, sPar, sPar3, sRet, sRetN, sIf, sFor, sForB, sApp, sAppB, sExt, sExtB, sSet, sFz, sNext, sBreak, sCont, sAug, sAugL, sErrF, sErr, sParX, sParX3, agGo, Fl.next, Fl.turn, vB, ok1, okL, mVar, mC, mOp, mUn, mNil, mCons, mCB, mCBn, mCall, mTup, mLst, mNew, asB, cOf, cAnd, cOr, cNot, cYes, mAnd, mOr, mNot, mIf, mChain, oNone, asI, oSome, mOpN, mPt, iL, iT, mFld, mProp, mLenI, mSlT, mSlL, pName, pGo, pTup, pLst, wipeE, mIsT, mCallR, mDraw, isRow, look, M.bind_ret, M.bind_err, M.bind_bad, M.bind_draw, M.ofO_some, M.ofO_none, M.calm_ret, M.calm_bad, M.calm_draw, M.bind_assoc, M.wp_ret, List.length_cons, List.length_nil, List.map_cons, List.map_nil, List.replicate_zero, List.replicate_succ, List.cons_append, List.nil_append, List.set_cons_zero, List.set_cons_succ, List.getElem?_cons_zero, List.getElem?_cons_succ, Nat.reduceAdd, Nat.reduceSub, Nat.reduceLeDiff, Nat.reduceEqDiff, if_true, if_false, ite_true, ite_false, reduceIte, Bool.not_true, Bool.not_false, Bool.false_eq_true, e1, hlen, l0, l1, D.fix, D.pl, Bool.and_self]
theorem ld_ok (p : Int) : datOk 1 (lD j nm P p) = true := by
  unfold lD
  split
  · split
    · rfl
    · kernel_rfl
  · exact td_ok
theorem s_v11 (hj : j < 3) (hn : nm ∈ nm4) (hl : P.length ≤ 50) (hw : ∀ p ∈ P, RwOk p) (p : Int) (hp : p = -1 ∨ p = 0 ∨ p = 1 ∨ p = 2 ∨ p = 3) (h5 : Ds s5) (h6 : Ds s6) (h7 : Ds s7) {d8 : D} : v11 C (rhoP C z2 z3 P s5 s6 s7 (.dat d8) (.dat (lD j nm P p)) j nm (.dat (.int p))) = .ret (.nx (rhoP C z2 z3 P s5 s6 s7 (.dat d8) (.dat (lD j nm P p)) j nm (.dat (.int p)))) := by
  have e1 := x_t2 (C := C) hj hn hl hw p hp
  have e3 : fTup [.lst (P.map rowI)] = some (.ptup (P.map rowI)) := rfl
  have e4 : fNe (lD j nm P p) (lD j nm P p) = some (.bl false) := f_neSame (ld_ok p) (by decide)
  unfold rhoP v11
  generalize lD j nm P p = t at *
  generalize P.map rowI = PD at *
  generalize stD C = S at *
  generalize lyD j = ly at *
  generalize jD (wrg 0 P) = J at *
  rcases h5 with rfl | ⟨z5, rfl⟩ <;> rcases h6 with rfl | ⟨z6, rfl⟩ <;> rcases h7 with rfl | ⟨z7, rfl⟩ <;> simp -implicitDefEqProofs only [defM, defR, lawM, fin, sSeq, sExpr, sAsg, sAsgB, sPat, sPatB, sOwn, sOwnB, sPar, sPar3, sRet, sRetN, sIf, sFor, sForB, sApp, sAppB, sExt, sExtB, sSet, sFz, sNext, sBreak, sCont, sAug, sAugL, sErrF, sErr, sParX, sParX3, agGo, Fl.next, Fl.turn, vB, ok1, okL, mVar, mC, mOp, mUn, mNil, mCons, mCB, mCBn, mCall, mTup, mLst, mNew, asB, cOf, cAnd, cOr, cNot, cYes, mAnd, mOr, mNot, mIf, mChain, oNone, asI, oSome, mOpN, mPt, iL, iT, mFld, mProp, mLenI, mSlT, mSlL, pName, pGo, pTup, pLst, wipeE, mIsT, mCallR, mDraw, isRow, look, M.bind_ret, M.bind_err, M.bind_bad, M.bind_draw, M.ofO_some, M.ofO_none, M.calm_ret, M.calm_bad, M.calm_draw, M.bind_assoc, M.wp_ret, List.length_cons, List.length_nil, List.map_cons, List.map_nil, List.replicate_zero, List.replicate_succ, List.cons_append, List.nil_append, List.set_cons_zero, List.set_cons_succ, List.getElem?_cons_zero, List.getElem?_cons_succ, Nat.reduceAdd, Nat.reduceSub, Nat.reduceLeDiff, Nat.reduceEqDiff, if_true, if_false, ite_true, ite_false, reduceIte, Bool.not_true, Bool.not_false, Bool.false_eq_true, e1, e3, e4]
def PostT (C : Addr) : Fl → Prop := fun fl => ∃ ρ', fl = .nx ρ' ∧ ∃ s2 s3 s4 s5 s6 s7 s8 s9 s10 s11 s12 s13, Ds s5 ∧ Ds s6 ∧ Ds s7 ∧ Ds s9 ∧ Ds s12 ∧ ρ' = [.no, .row, s2, s3, s4, s5, s6, s7, s8, s9, s10, s11, s12, s13, .dat (stD C), .no]
theorem v_4 (hj : j < 3) (hn : nm ∈ nm4) (hl : P.length ≤ 4) (hw : ∀ p ∈ P, RwOk p) (h5 : Ds s5) (h6 : Ds s6) (h7 : Ds s7) (h9 : Ds s9) (h12 : Ds s12) : Wp (v4 C (rhoP C z2 z3 P s5 s6 s7 s8 s9 j nm s12)) (PostT C) E := by
  unfold v4
  refine wp_next (due_v4 hl) ?_
  unfold v5
  refine wp_next (s_v5 hn (dD (dueO P))) ?_
  unfold v6
  refine wp_next (s_v6 hj _) ?_
  have et : (if j = 0 then (if nm ∈ nm2 then dD (dueO P) else D.str "crate") else D.str "layout") = tD j nm P := rfl
  rw [et]
  obtain ⟨a1, a2⟩ := s_v7 (C := C) (z2 := z2) (z3 := z3) hj hn (by omega) hw h5 h6 h7 h9 h12
  unfold v7
  refine wp_next a1 ?_
  unfold v8
  refine wp_next a2 ?_
  unfold v9
  refine wp_drawn (n := 5) rfl ⟨by decide, by decide⟩ fun d d0 d1 => ?_
  refine ⟨rhoP C z2 z3 P s5 s6 s7 (.dat (tD j nm P)) s9 j nm (.dat (.int (d - 1))), rfl, ?_⟩
  unfold v10
  refine wp_next (s_v10 (by omega) (d - 1) h5 h6 h7 h9) ?_
  exact wp_ret (s_v11 hj hn (by omega) hw (d - 1) (by omega) h5 h6 h7) ⟨_, rfl, _, _, _, _, _, _, _, _, _, _, _, _, h5, h6, h7, .inr ⟨_, rfl⟩, .inr ⟨_, rfl⟩, rfl⟩
theorem rows_run : ∀ (m i : Nat) (P : List RwI) (s5 s6 s7 : Sl), i + m ≤ 4 → P.length = i → (∀ p ∈ P, RwOk p) → Ds s5 → Ds s6 → Ds s7 →
    (forGo (pName 5) (w0 C) ((List.range' i m).map fun k : Nat => D.int (k : Int)) (rhoP C z2 z3 P s5 s6 s7 s8 s9 j nm s12)).wp (fun fl => ∃ ρ', fl = .nx ρ' ∧ ∃ P s5 s6 s7, P.length = i + m ∧ (∀ p ∈ P, RwOk p) ∧ Ds s5 ∧ Ds s6 ∧ Ds s7 ∧ ρ' = rhoP C z2 z3 P s5 s6 s7 s8 s9 j nm s12) E
  | 0, i, P, s5, s6, s7, _, hP, hw, h5, h6, h7 => ⟨_, rfl, P, s5, s6, s7, hP, hw, h5, h6, h7, rfl⟩
  | m + 1, i, P, s5, s6, s7, hm, hP, hw, h5, h6, h7 => by
    rw [List.range'_succ, List.map_cons, forGo]
    show ((w0 C (rhoP C z2 z3 P (.dat (.int (i : Nat))) s6 s7 s8 s9 j nm s12)).bind _).wp _ _
    rw [M.wp_bind]
    refine M.wp_mono (fun fl hf => ?_) (fun _ _ h => h) _ (w_0 (C := C) (E := E) (z2 := z2) (z3 := z3) (s6 := s6) (s7 := s7) (s8 := s8) (s9 := s9) (j := j) (nm := nm) (s12 := s12) (by omega) hP hw).out
    obtain ⟨ρ', rfl, P', d6, d7, hP', hw', rfl⟩ := hf
    have r := rows_run m (i + 1) P' (.dat (.int (i : Nat))) (.dat d6) (.dat d7) (by omega) hP' hw' (.inr ⟨_, rfl⟩) (.inr ⟨_, rfl⟩) (.inr ⟨_, rfl⟩)
    rw [show i + 1 + m = i + (m + 1) by omega] at r
    exact r
theorem v_3 (hj : j < 3) (hn : nm ∈ nm4) (h5 : Ds s5) (h6 : Ds s6) (h7 : Ds s7) (h9 : Ds s9) (h12 : Ds s12) : Wp (v3 C (rhoP C z2 z3 [] s5 s6 s7 s8 s9 j nm s12)) (PostT C) E := by
  unfold v3
  refine wp_seq ⟨?_⟩
  have hdr : sFor (rg1 (mDraw 1 (mC (.int 5)))) (pName 5) (w0 C) (rhoP C z2 z3 [] s5 s6 s7 s8 s9 j nm s12) = .draw 5 fun d => (if rgOk 0 d = true then M.ret (rgD 0 d) else .bad).bind fun ds => forGo (pName 5) (w0 C) ds (rhoP C z2 z3 [] s5 s6 s7 s8 s9 j nm s12) := by rfl
  rw [hdr, M.wp_draw]
  refine ⟨⟨by decide, by decide⟩, fun d d0 d1 => ?_⟩
  obtain ⟨k, hk, rfl⟩ := int_lt (n := 5) d0 (by simpa using d1)
  rw [if_pos (rg_ok' (by omega)), M.bind_ret, rgD_nat, List.range_eq_range']
  refine M.wp_mono (fun fl hf => ?_) (fun _ _ h => h) _ (rows_run (C := C) (E := E) (z2 := z2) (z3 := z3) (s8 := s8) (s9 := s9) (j := j) (nm := nm) (s12 := s12) k 0 [] s5 s6 s7 (by omega) rfl (fun _ h => nomatch h) h5 h6 h7)
  obtain ⟨ρ', rfl, P', s5', s6', s7', hP', hw', g5, g6, g7, rfl⟩ := hf
  exact ⟨_, rfl, v_4 hj hn (by omega) hw' g5 g6 g7 h9 h12⟩
theorem v_2 (hj : j < 3) {s4 s11 s13 : Sl} (h5 : Ds s5) (h6 : Ds s6) (h7 : Ds s7) (h9 : Ds s9) (h12 : Ds s12) : Wp (v2 C [.no, .row, .dat z2, .dat z3, s4, s5, s6, s7, s8, s9, .dat (lyD j), s11, s12, s13, .dat (stD C), .no]) (PostT C) E := by
  have k : ∀ nm ∈ nm4, Wp (v3 C (rhoP C z2 z3 [] s5 s6 s7 s8 s9 j nm s12)) (PostT C) E := fun nm hn => v_3 hj hn h5 h6 h7 h9 h12
  have k0 := k "fig" (by simp [nm4])
  have k1 := k "plum" (by simp [nm4])
  have k2 := k "kiwi" (by simp [nm4])
  have k3 := k "" (by simp [nm4])
  unfold v2
  refine wp_seq ⟨?_⟩
  refine ⟨⟨by decide, by decide⟩, fun e e0 e1 => ?_⟩
  refine ⟨⟨by decide, by decide⟩, fun d d0 d1 => ?_⟩
  have hd : d = 0 ∨ d = 1 ∨ d = 2 := by omega
  have he : e = 0 ∨ e = 1 ∨ e = 2 ∨ e = 3 := by omega
  rcases hd with rfl | rfl | rfl
  · exact ⟨_, rfl, k0⟩
  · exact ⟨_, rfl, k1⟩
  · rcases he with rfl | rfl | rfl | rfl
    · exact ⟨_, rfl, k0⟩
    · exact ⟨_, rfl, k1⟩
    · exact ⟨_, rfl, k2⟩
    · exact ⟨_, rfl, k3⟩
theorem v_0 {s3 s4 s10 s11 s13 : Sl} (h5 : Ds s5) (h6 : Ds s6) (h7 : Ds s7) (h9 : Ds s9) (h12 : Ds s12) : Wp (v0 C [.no, .row, .dat z2, s3, s4, s5, s6, s7, s8, s9, s10, s11, s12, s13, .dat (stD C), .no]) (PostT C) E := by
  have k : ∀ j < 3, Wp (v1 C [.no, .row, .dat z2, .dat (.int (j : Nat)), s4, s5, s6, s7, s8, s9, s10, s11, s12, s13, .dat (stD C), .no]) (PostT C) E := fun j hj => by
    have v := v_2 (C := C) (E := E) (z2 := z2) (z3 := .int (j : Nat)) (j := j) (s8 := s8) hj (s4 := s4) (s11 := s11) (s13 := s13) h5 h6 h7 h9 h12
    unfold v1
    have hj3 : j = 0 ∨ j = 1 ∨ j = 2 := by omega
    refine wp_next ?_ v
    generalize stD C = S
    rcases hj3 with rfl | rfl | rfl <;> rfl
  have k0 := k 0 (by omega)
  have k1 := k 1 (by omega)
  have k2 := k 2 (by omega)
  unfold v0
  generalize stD C = S at *
  refine wp_seq ⟨?_⟩
  refine ⟨⟨by decide, by decide⟩, fun e e0 e1 => ?_⟩
  refine ⟨⟨by decide, by decide⟩, fun d d0 d1 => ?_⟩
  have hd : d = 0 ∨ d = 1 ∨ d = 2 := by omega
  have he : e = 0 ∨ e = 1 ∨ e = 2 := by omega
  rcases hd with rfl | rfl | rfl
  · exact ⟨_, rfl, k0⟩
  · exact ⟨_, rfl, k0⟩
  · rcases he with rfl | rfl | rfl
    · exact ⟨_, rfl, k0⟩
    · exact ⟨_, rfl, k1⟩
    · exact ⟨_, rfl, k2⟩
theorem law_pure (C : Addr) : Wp (m_law C) (fun d => d = .bl true) (fun _ _ => False) := by
  unfold m_law
  rw [law_u]
  refine law_ofW ?_
  show Wp (u0 C [.no, .row, .no, .no, .no, .no, .no, .no, .no, .no, .no, .no, .no, .no, .no, .no]) _ _
  unfold u0
  refine wp_next (ρ' := [.no, .row, .no, .no, .no, .no, .no, .no, .no, .no, .no, .no, .no, .no, .dat (stD C), .no]) ?_ ?_
  · have xm := x_made C
    have k2 : (2 : Nat) ≤ 100000 := by omega
    generalize stD C = s at *
    simp -implicitDefEqProofs only [defM, defR, lawM, fin, sSeq, sExpr, sAsg, sAsgB, sPat, sPatB, sOwn, sOwnB, sPar, sPar3, sRet, sRetN, sIf, sFor, sForB, sApp, sAppB, sExt, sExtB, sSet, sFz, sNext, sBreak, sCont, sAug, sAugL, sErrF, sErr, sParX, sParX3, agGo, Fl.next, Fl.turn, vB, ok1, okL, mVar, mC, mOp, mUn, mNil, mCons, mCB, mCBn, mCall, mTup, mLst, mNew, asB, cOf, cAnd, cOr, cNot, cYes, mAnd, mOr, mNot, mIf, mChain, oNone, asI, oSome, mOpN, mPt, iL, iT, mFld, mProp, mLenI, mSlT, mSlL, pName, pGo, pTup, pLst, wipeE, mIsT, mCallR, mDraw, isRow, look, M.bind_ret, M.bind_err, M.bind_bad, M.bind_draw, M.ofO_some, M.ofO_none, M.calm_ret, M.calm_bad, M.calm_draw, M.bind_assoc, M.wp_ret, List.length_cons, List.length_nil, List.map_cons, List.map_nil, List.replicate_zero, List.replicate_succ, List.cons_append, List.nil_append, List.set_cons_zero, List.set_cons_succ, List.getElem?_cons_zero, List.getElem?_cons_succ, Nat.reduceAdd, Nat.reduceSub, Nat.reduceLeDiff, Nat.reduceEqDiff, if_true, if_false, ite_true, ite_false, reduceIte, Bool.not_true, Bool.not_false, Bool.false_eq_true, k2, xm]
  unfold u1
  refine wp_rng (n := 8) (fun ρ => ∃ s2 s3 s4 s5 s6 s7 s8 s9 s10 s11 s12 s13, Ds s5 ∧ Ds s6 ∧ Ds s7 ∧ Ds s9 ∧ Ds s12 ∧ ρ = [.no, .row, s2, s3, s4, s5, s6, s7, s8, s9, s10, s11, s12, s13, .dat (stD C), .no]) (by rfl) (by decide) ⟨.no, .no, .no, .no, .no, .no, .no, .no, .no, .no, .no, .no, .inl rfl, .inl rfl, .inl rfl, .inl rfl, .inl rfl, rfl⟩ (fun ρ k hk hp => ?_) fun ρ hp => ?_
  · obtain ⟨s2, s3, s4, s5, s6, s7, s8, s9, s10, s11, s12, s13, h5, h6, h7, h9, h12, rfl⟩ := hp
    have v := v_0 (C := C) (E := fun _ _ => False) (z2 := .int (k : Int)) (s3 := s3) (s4 := s4) (s8 := s8) (s10 := s10) (s11 := s11) (s13 := s13) h5 h6 h7 h9 h12
    exact v.mono fun fl ⟨ρ', e, s2, s3, s4, s5, s6, s7, s8, s9, s10, s11, s12, s13, g5, g6, g7, g9, g12, e2⟩ => ⟨ρ', e, s2, s3, s4, s5, s6, s7, s8, s9, s10, s11, s12, s13, g5, g6, g7, g9, g12, e2⟩
  · unfold u2
    exact wp_ret (fl := .rt (.bl true)) (by rfl) rfl
end
end
end My

namespace My
open PySem L2 RZ Cc Mi
structure TkT (mg : Str → Option Value) : Prop where
  int : mg "int" = none
  len : mg "len" = none
section
variable {P : Program} {w : World} {K : Fg} {mg : Str → Option Value} {base : Heap}
theorem ok_taken {f : Addr} {fd : FuncData} (F : Fun K "_law_taken" "_law_taken" s__law_taken f fd) (T : TkT mg) : FnOk P w K mg base CX0 1 f fd ["_law_row", "_law_many"] (spTaken K) := by
  refine F.ok sc__law_taken (fun vs H Q E h => ?_) (fun cdv A outer s H vs Q E hr h => ?_)
  · obtain ⟨S, r, n, rfl, _⟩ := h
    rfl
  · obtain ⟨⟨a, ns⟩, r, n, rfl, ⟨pos, rng, rest, hr0, hs, hne, hl, hp⟩, hn, hn2, k⟩ := h
    dsimp only at hr0 hs hl
    refine ⟨_, (pss_cons (ps_if (pt_cmpR op_gt (pe_ix (ixL K) (pv 0) pe_int (fun _ _ => rfl)) pe_int (nomark _)) (pss_cons (ps_set (i := 2) sc__law_taken.nd rfl (Or.inl rfl) (pe_op op_mod (pe_callTy call_int1 (by rfl) T.int (by decide +kernel) (pa_cons (pe_ix (ixL K) (pv 0) pe_int (fun _ _ => rfl)) pa_nil)) (pv 1)))
      (pss_cons (ps_asg (pe_op op_fdiv (pe_ix (ixL K) (pv 0) pe_int (fun _ _ => rfl)) (pv 1)) (pg_sub (pv 0) pe_int set_list))
      (pss_one (ps_ret (pv 2))))) pss_nil)
      (pss_cons (ps_asg (pe_op op_add (pe_ix (ixL K) (pv 0) pe_int (fun _ _ => rfl)) pe_int) (pg_sub (pv 0) pe_int set_list))
      (pss_cons (ps_if (pt_cmpR op_gt (pe_ix (ixL K) (pv 0) pe_int (fun _ _ => rfl)) (pe_callB (lenK K) (by rfl) T.len PySem.boot_len (pa_cons (pe_ix (ixL K) (pv 0) pe_int (fun _ _ => rfl)) pa_nil)) (nomark _)) (pss_cons (ps_asg (pe_op op_mod (pe_callTy call_int1 (by rfl) T.int (by decide +kernel) (pa_cons (pe_op op_add (pe_op op_mul (pe_ix (ixL K) (pv 0) pe_int (fun _ _ => rfl)) pe_int) pe_int) pa_nil)) pe_int) (pg_sub (pv 0) pe_int set_list))
      (pss_one (ps_ret (pe_op op_mod (pe_callTy call_int1 (by rfl) T.int (by decide +kernel) (pa_cons (pe_op op_fdiv (pe_ix (ixL K) (pv 0) pe_int (fun _ _ => rfl)) pe_int) pa_nil)) (pv 1))))) pss_nil)
      (pss_cons (ps_set (i := 3) sc__law_taken.nd rfl (Or.inl rfl) (pe_ix (ixA K) (pe_ix (ixL K) (pv 0) pe_int (fun _ _ => rfl)) (pe_op op_sub (pe_ix (ixL K) (pv 0) pe_int (fun _ _ => rfl)) pe_int) (fun _ _ => rfl)))
      (pss_cons (ps_asg (pe_op op_mod (pe_callTy call_int1 (by rfl) T.int (by decide +kernel) (pa_cons (pe_op op_add (pe_op op_add (pe_op op_mul (pe_ix (ixL K) (pv 0) pe_int (fun _ _ => rfl)) pe_int) (pv 3)) pe_int) pa_nil)) pe_int) (pg_sub (pv 0) pe_int set_list))
      (pss_cons (ps_if (pt_cmpR op_ge (pv 3) (pe_op op_pow pe_int pe_int) (nomark _)) (pss_one (ps_asg (pe_op op_fdiv (pv 3) (pv 1)) (pg_sub (pv 0) pe_int set_list))) pss_nil)
      (pss_one (ps_ret (pe_op op_mod (pe_callTy call_int1 (by rfl) T.int (by decide +kernel) (pa_cons (pv 3) pa_nil)) (pv 1)))))))))), ?_⟩
    refine s_when (gt_test (gd_op (gd_ixV (j := 3) (i := 0) rfl hr0 rfl (.int rest)) gd_i r_intB)) (fun e H1 e1 => ?_) fun e H1 e1 => ?_
    · -- what is left of a great number
      have h1 := e1 _ _ hr0
      refine s_asg (K := K) (gd_op (gd_cb (ga1 (gd_ixV (j := 3) (i := 0) rfl h1 rfl (.int rest))) rc_int) (gd_var rfl (.int n)) (r_intC (by omega))) fun v H2 e2 hv => ?_
      cases hv
      have h2 := e2 _ _ h1
      dsimp only
      refine s_setL (K := K) (j := 3) h2 (at_var rfl) gd_i (by simp) (gd_op (gd_ixV (j := 3) (i := 0) rfl h2 rfl (.int rest)) (gd_var rfl (.int n)) (r_intC ⟨hn, hn2⟩)) fun v H3 e3 hv => ?_
      cases hv
      dsimp only
      refine s_ret (K := K) (gd_var rfl (.int _)) fun v H4 e4 hv => ?_
      cases hv
      have e13 := (e1.trans e2).trans e3
      refine k _ H4 (Int.emod_nonneg _ (by omega)) (Int.emod_lt_of_pos _ hn) (((But.of e13).trans (But.upd (by simp))).trans (.of e4)) ⟨pos, rng, _, e4 _ _ upd_same, same_l e4 (lkeep (S := (a, ns)) (same_l e13 hs) hne), hne, hl, hp⟩
    · dsimp only
      have h1 := e1 _ _ hr0
      refine s_setL (K := K) (j := 1) h1 (at_var rfl) gd_i (by simp) (gd_op (gd_ixV (j := 1) (i := 0) rfl h1 rfl (.int pos)) gd_i r_int) fun v H2 e2 hv => ?_
      cases hv
      have e12 := e1.trans e2
      generalize hG : upd H2 r _ = G
      have hGr : G r = some (.lst [.ref a, .int (pos + 1), .int rng, .int rest]) := by rw [← hG]; exact upd_same
      have hGs : SqL K G a (ns.map V.int) := by rw [← hG]; exact lkeep (S := (a, ns)) (same_l e12 hs) hne
      have hGb : But [r] H G := by rw [← hG]; exact (But.of e12).trans (But.upd (by simp))
      dsimp only
      have hlen : GD K (tCB (Cc.rLen K) (tCons (tOp (rIxL K) (tVar 0) (tC (.int 0))) tNil)) [some (.ref r), some (.int n), none, none] G (.int (ns.length : Nat)) := fun H3 e Q q =>
        ⟨.ref r, rfl, r, _, 0, .ref a, rfl, rfl, SqL.of (e _ _ hGr), rfl, .ref a, ns.length, rfl, .inl ⟨_, same_l e hGs, by simp⟩, q _ H3 (Same.refl _) (.int _)⟩
      refine s_when (gt_test (gd_op (gd_ixV (j := 1) (i := 0) rfl hGr rfl (.int (pos + 1))) hlen r_intB)) (fun e H3 e3 => ?_) fun e H3 e3 => ?_
      · -- behind the script's end
        have h3 := e3 _ _ hGr
        refine s_setL (K := K) (j := 2) h3 (at_var rfl) gd_i (by simp) (gd_op (gd_cb (ga1 (gd_op (gd_op (gd_ixV (j := 2) (i := 0) rfl h3 rfl (.int rng)) gd_i (r_intC (.inr (by decide)))) gd_i r_int)) rc_int) gd_i (r_intC (by decide))) fun v H4 e4 hv => ?_
        cases hv
        dsimp only
        generalize hR : (rng * 48271 + 11) % 2147483647 = R
        refine s_ret (K := K) (gd_op (gd_cb (ga1 (gd_op (gd_ixV (xs := [.ref a, .int (pos + 1), .int R, .int rest]) (j := 2) (i := 0) rfl upd_same rfl (.int R)) gd_i (r_intC ⟨by decide, by decide⟩))) rc_int) (gd_var rfl (.int n)) (r_intC hn)) fun v H5 e5 hv => ?_
        cases hv
        refine k _ H5 (Int.emod_nonneg _ (by omega)) (Int.emod_lt_of_pos _ hn) ((hGb.trans (.of (e3.trans e4))).trans ((But.upd (by simp)).trans (.of e5))) ⟨pos + 1, R, rest, e5 _ _ upd_same, same_l e5 (lkeep (S := (a, ns)) (same_l (e3.trans e4) hGs) hne), hne, hl, by omega⟩
      · have hlt : pos < ns.length := by
          simp at e
          omega
        obtain ⟨j, rfl⟩ : ∃ j : Nat, pos = j := ⟨pos.toNat, by omega⟩
        obtain ⟨c, hc⟩ : ∃ c, ns[j]? = some c := ⟨ns[j]'(by omega), by simp⟩
        have h3 := e3 _ _ hGr
        have hcell : GD K (tOp (rIx K) (tOp (rIxL K) (tVar 0) (tC (.int 0))) (tOp (rI0 fun i j => .int (i - j)) (tOp (rIxL K) (tVar 0) (tC (.int 1))) (tC (.int 1)))) [some (.ref r), some (.int n), none, none] H3 (.int c) := fun H4 e Q q =>
          ⟨.ref r, rfl, r, _, 0, .ref a, rfl, rfl, SqL.of (e _ _ h3), rfl, .ref r, rfl, r, _, 1, .int ((j : Nat) + 1), rfl, rfl, SqL.of (e _ _ h3), rfl, (j : Nat) + 1, 1, rfl, rfl, .inl ⟨a, _, (j : Nat) + 1 - 1, .int c, rfl, rfl, same_l (e3.trans e) hGs, by
            rw [show ((j : Nat) : Int) + 1 - 1 = (j : Nat) by omega]
            exact atI_nat (by rw [List.getElem?_map, hc]; rfl), q _ H4 (Same.refl _) (.int _)⟩⟩
        dsimp only
        refine s_asg (K := K) hcell fun v H4 e4 hv => ?_
        cases hv
        have h4 := e4 _ _ h3
        dsimp only
        refine s_setL (K := K) (j := 2) h4 (at_var rfl) gd_i (by simp) (gd_op (gd_cb (ga1 (gd_op (gd_op (gd_op (gd_ixV (j := 2) (i := 0) rfl h4 rfl (.int rng)) gd_i (r_intC (.inr (by decide)))) (gd_var rfl (.int c)) r_int) gd_i r_int)) rc_int) gd_i (r_intC (by decide))) fun v H5 e5 hv => ?_
        cases hv
        generalize hR : (rng * 48271 + c + 11) % 2147483647 = R
        dsimp only
        have hu : upd H5 r (.lst ([.ref a, .int ((j : Nat) + 1), .int rng, .int rest].set 2 (.int R))) r = some (.lst [.ref a, .int ((j : Nat) + 1), .int R, .int rest]) := upd_same
        generalize hV : upd H5 r (.lst ([.ref a, .int ((j : Nat) + 1), .int rng, .int rest].set 2 (.int R))) = W at hu
        have hWb : But [r] H W := by rw [← hV]; exact (hGb.trans (.of ((e3.trans e4).trans e5))).trans (But.upd (by simp))
        have hWs : SqL K W a (ns.map V.int) := by rw [← hV]; exact lkeep (S := (a, ns)) (same_l ((e3.trans e4).trans e5) hGs) hne
        have big : Cc.GT (tTest (tOp (rI0 fun i j => .bl (decide (j ≤ i))) (tVar 3) (tOp (rI CPow fun i j => .int (i ^ j.toNat)) (tC (.int 10)) (tC (.int 18))))) [some (.ref r), some (.int n), none, some (.int c)] W (decide ((10 : Int) ^ ((18 : Int).toNat) ≤ c)) := gt_test (K := K) (gd_op (gd_var rfl (.int c)) (gd_op gd_i gd_i (r_intC ⟨by decide, by decide, by decide⟩)) r_intB)
        refine s_if big (fun _ H6 e6 => ?_) (fun _ H6 e6 => ?_)
        · have hu6 := e6 _ _ hu
          refine s_setL (K := K) (j := 3) hu6 (at_var rfl) gd_i (by simp) (gd_op (gd_var rfl (.int c)) (gd_var rfl (.int n)) (r_intC ⟨hn, hn2⟩)) fun v H7 e7 hv => ?_
          cases hv
          dsimp only
          refine s_ret (K := K) (gd_op (gd_cb (ga1 (gd_var rfl (.int c))) rc_int) (gd_var rfl (.int n)) (r_intC hn)) fun v H8 e8 hv => ?_
          cases hv
          exact k _ H8 (Int.emod_nonneg _ (by omega)) (Int.emod_lt_of_pos _ hn) ((hWb.trans (.of (e6.trans e7))).trans ((But.upd (by simp)).trans (.of e8))) ⟨(j : Nat) + 1, R, c / n, e8 _ _ upd_same, same_l e8 (lkeep (S := (a, ns)) (same_l (e6.trans e7) hWs) hne), hne, hl, by omega⟩
        · dsimp only
          refine s_ret (K := K) (gd_op (gd_cb (ga1 (gd_var rfl (.int c))) rc_int) (gd_var rfl (.int n)) (r_intC hn)) fun v H7 e7 hv => ?_
          cases hv
          exact k _ H7 (Int.emod_nonneg _ (by omega)) (Int.emod_lt_of_pos _ hn) (hWb.trans (.of (e6.trans e7))) ⟨(j : Nat) + 1, R, rest, (e6.trans e7) _ _ hu, same_l (e6.trans e7) hWs, hne, hl, by omega⟩
end
end My

namespace My
open PySem L2 RZ Cc Mi PyProof.Rows
abbrev pwK : Program := PySem.Challenge.pw_coldcrates_k35_speaking_rejected
def CT (C : Addr) : List Str → Option Addr := fun ns => if stP ns = true then some C else none
def CL (C : Addr) : Nat → Addr
  | _ => C
def EAf (e_InvalidLayout e_InvalidNumber e_InvalidRows e_InvalidStore e_UnknownCrate e_UnknownDoor : Addr) : Str → Addr := fun x => if x = ("InvalidLayout" : Str) then e_InvalidLayout else if x = ("InvalidNumber" : Str) then e_InvalidNumber else if x = ("InvalidRows" : Str) then e_InvalidRows else if x = ("InvalidStore" : Str) then e_InvalidStore else if x = ("UnknownCrate" : Str) then e_UnknownCrate else if x = ("UnknownDoor" : Str) then e_UnknownDoor else 0
def FIf (fI_InvalidRows fI_InvalidStore : Addr) : Str → Addr := fun x => if x = ("InvalidRows" : Str) then fI_InvalidRows else if x = ("InvalidStore" : Str) then fI_InvalidStore else 0
def EFf : Str → List Str := fun x => if x = ("InvalidRows" : Str) then ["index"] else if x = ("InvalidStore" : Str) then ["part"] else []
theorem all_mk {w : World} {K : Fg} {h : Heap} {mg : Str → Option Value} {fa : Addr} (X : K.In h) (G : h.Ns mainGlobals mg) (hfa : mg "law" = some (.ref fa)) (own : LamX.OwnTab K fa h)
    {C CE : Addr}
    {c0 P0 : Addr}
    {oc_is_number kV_is_number dc_is_number pm_is_number ct_is_number cd_is_number : Value}
    {od_is_number an_is_number : Option Addr}
    {sl_is_number : Array (Option Value)}
    {f_is_number : Addr}
    {oc_check_number kV_check_number dc_check_number pm_check_number ct_check_number cd_check_number : Value}
    {od_check_number an_check_number : Option Addr}
    {sl_check_number : Array (Option Value)}
    {f_check_number : Addr}
    {oc_is_word kV_is_word dc_is_word pm_is_word ct_is_word cd_is_word : Value}
    {od_is_word an_is_word : Option Addr}
    {sl_is_word : Array (Option Value)}
    {f_is_word : Addr}
    {oc_subsets kV_subsets dc_subsets pm_subsets ct_subsets cd_subsets : Value}
    {od_subsets an_subsets : Option Addr}
    {sl_subsets : Array (Option Value)}
    {f_subsets : Addr}
    {oc_length_and_items kV_length_and_items dc_length_and_items pm_length_and_items ct_length_and_items cd_length_and_items : Value}
    {od_length_and_items an_length_and_items : Option Addr}
    {sl_length_and_items : Array (Option Value)}
    {f_length_and_items : Addr}
    {oc_is_door kV_is_door dc_is_door pm_is_door ct_is_door cd_is_door : Value}
    {od_is_door an_is_door : Option Addr}
    {sl_is_door : Array (Option Value)}
    {f_is_door : Addr}
    {oc_doors_fit kV_doors_fit dc_doors_fit pm_doors_fit ct_doors_fit cd_doors_fit : Value}
    {od_doors_fit an_doors_fit : Option Addr}
    {sl_doors_fit : Array (Option Value)}
    {f_doors_fit : Addr}
    {oc_crates_fit kV_crates_fit dc_crates_fit pm_crates_fit ct_crates_fit cd_crates_fit : Value}
    {od_crates_fit an_crates_fit : Option Addr}
    {sl_crates_fit : Array (Option Value)}
    {f_crates_fit : Addr}
    {oc_places_behind kV_places_behind dc_places_behind pm_places_behind ct_places_behind cd_places_behind : Value}
    {od_places_behind an_places_behind : Option Addr}
    {sl_places_behind : Array (Option Value)}
    {f_places_behind : Addr}
    {oc_arrangements kV_arrangements dc_arrangements pm_arrangements ct_arrangements cd_arrangements : Value}
    {od_arrangements an_arrangements : Option Addr}
    {sl_arrangements : Array (Option Value)}
    {f_arrangements : Addr}
    {oc_all_layouts kV_all_layouts dc_all_layouts pm_all_layouts ct_all_layouts cd_all_layouts : Value}
    {od_all_layouts an_all_layouts : Option Addr}
    {sl_all_layouts : Array (Option Value)}
    {f_all_layouts : Addr}
    {oc_is_layout kV_is_layout dc_is_layout pm_is_layout ct_is_layout cd_is_layout : Value}
    {od_is_layout an_is_layout : Option Addr}
    {sl_is_layout : Array (Option Value)}
    {f_is_layout : Addr}
    {oc_check_layout kV_check_layout dc_check_layout pm_check_layout ct_check_layout cd_check_layout : Value}
    {od_check_layout an_check_layout : Option Addr}
    {sl_check_layout : Array (Option Value)}
    {f_check_layout : Addr}
    {oc_check_crate kV_check_crate dc_check_crate pm_check_crate ct_check_crate cd_check_crate : Value}
    {od_check_crate an_check_crate : Option Addr}
    {sl_check_crate : Array (Option Value)}
    {f_check_crate : Addr}
    {oc_has_door kV_has_door dc_has_door pm_has_door ct_has_door cd_has_door : Value}
    {od_has_door an_has_door : Option Addr}
    {sl_has_door : Array (Option Value)}
    {f_has_door : Addr}
    {oc_check_door kV_check_door dc_check_door pm_check_door ct_check_door cd_check_door : Value}
    {od_check_door an_check_door : Option Addr}
    {sl_check_door : Array (Option Value)}
    {f_check_door : Addr}
    {oc_contents kV_contents dc_contents pm_contents ct_contents cd_contents : Value}
    {od_contents an_contents : Option Addr}
    {sl_contents : Array (Option Value)}
    {f_contents : Addr}
    {oc_told_apart kV_told_apart dc_told_apart pm_told_apart ct_told_apart cd_told_apart : Value}
    {od_told_apart an_told_apart : Option Addr}
    {sl_told_apart : Array (Option Value)}
    {f_told_apart : Addr}
    {oc_check_question kV_check_question dc_check_question pm_check_question ct_check_question cd_check_question : Value}
    {od_check_question an_check_question : Option Addr}
    {sl_check_question : Array (Option Value)}
    {f_check_question : Addr}
    {oc_who_know kV_who_know dc_who_know pm_who_know ct_who_know cd_who_know : Value}
    {od_who_know an_who_know : Option Addr}
    {sl_who_know : Array (Option Value)}
    {f_who_know : Addr}
    {oc_one_round kV_one_round dc_one_round pm_one_round ct_one_round cd_one_round : Value}
    {od_one_round an_one_round : Option Addr}
    {sl_one_round : Array (Option Value)}
    {f_one_round : Addr}
    {oc_spoken kV_spoken dc_spoken pm_spoken ct_spoken cd_spoken : Value}
    {od_spoken an_spoken : Option Addr}
    {sl_spoken : Array (Option Value)}
    {f_spoken : Addr}
    {oc_first_to_know kV_first_to_know dc_first_to_know pm_first_to_know ct_first_to_know cd_first_to_know : Value}
    {od_first_to_know an_first_to_know : Option Addr}
    {sl_first_to_know : Array (Option Value)}
    {f_first_to_know : Addr}
    {oc_knows_first kV_knows_first dc_knows_first pm_knows_first ct_knows_first cd_knows_first : Value}
    {od_knows_first an_knows_first : Option Addr}
    {sl_knows_first : Array (Option Value)}
    {f_knows_first : Addr}
    {oc_needed_doors kV_needed_doors dc_needed_doors pm_needed_doors ct_needed_doors cd_needed_doors : Value}
    {od_needed_doors an_needed_doors : Option Addr}
    {sl_needed_doors : Array (Option Value)}
    {f_needed_doors : Addr}
    {oc__law_taken kV__law_taken dc__law_taken pm__law_taken ct__law_taken cd__law_taken : Value}
    {od__law_taken an__law_taken : Option Addr}
    {sl__law_taken : Array (Option Value)}
    {f__law_taken : Addr}
    {oc_law kV_law dc_law pm_law ct_law : Value}
    {od_law an_law : Option Addr}
    {sl_law : Array (Option Value)}
    {f_law : Addr}
    {oc__law_told kV__law_told dc__law_told pm__law_told ct__law_told cd__law_told : Value}
    {od__law_told an__law_told : Option Addr}
    {sl__law_told : Array (Option Value)}
    {f__law_told : Addr}
    {oc_m__len__ kV_m__len__ dc_m__len__ pm_m__len__ ct_m__len__ cd_m__len__ : Value}
    {od_m__len__ an_m__len__ : Option Addr}
    {sl_m__len__ : Array (Option Value)}
    {f_m__len__ : Addr}
    {oc_mplaces_of kV_mplaces_of dc_mplaces_of pm_mplaces_of ct_mplaces_of cd_mplaces_of : Value}
    {od_mplaces_of an_mplaces_of : Option Addr}
    {sl_mplaces_of : Array (Option Value)}
    {f_mplaces_of : Addr}
    {oc_m__init__ kV_m__init__ dc_m__init__ pm_m__init__ ct_m__init__ cd_m__init__ : Value}
    {od_m__init__ an_m__init__ : Option Addr}
    {sl_m__init__ : Array (Option Value)}
    {f_m__init__ : Addr}
    {p_pcrates : Addr}
    {r_pcrates : List Value}
    {oc_pcrates kV_pcrates dc_pcrates pm_pcrates ct_pcrates cd_pcrates : Value}
    {od_pcrates an_pcrates : Option Addr}
    {sl_pcrates : Array (Option Value)}
    {f_pcrates : Addr}
    {p_psize : Addr}
    {r_psize : List Value}
    {oc_psize kV_psize dc_psize pm_psize ct_psize cd_psize : Value}
    {od_psize an_psize : Option Addr}
    {sl_psize : Array (Option Value)}
    {f_psize : Addr}
    {e_InvalidRows : Addr}
    {nm_InvalidRows qn_InvalidRows : Str}
    {N_InvalidRows : Addr}
    {bs_InvalidRows sub_InvalidRows : List Value}
    {sn_InvalidRows : List Str}
    {ab_InvalidRows : Bool}
    {col_InvalidRows : Option Bool}
    {dd_InvalidRows : Option Addr}
    {k0_InvalidRows k1_InvalidRows k2_InvalidRows k3_InvalidRows k5_InvalidRows : Option Value}
    {fI_InvalidRows cda_InvalidRows ccI_InvalidRows : Addr}
    {ocI_InvalidRows dcI_InvalidRows pmI_InvalidRows ctI_InvalidRows cclI_InvalidRows clI_InvalidRows : Value}
    {odI_InvalidRows anI_InvalidRows cddI_InvalidRows cldI_InvalidRows : Option Addr}
    {slI_InvalidRows ccsI_InvalidRows cslI_InvalidRows : Array (Option Value)}
    {vsI_InvalidRows : Array Value}
    {fileI_InvalidRows : Str}
    {tfI_InvalidRows : Tok}
    {e_InvalidStore : Addr}
    {nm_InvalidStore qn_InvalidStore : Str}
    {N_InvalidStore : Addr}
    {bs_InvalidStore sub_InvalidStore : List Value}
    {sn_InvalidStore : List Str}
    {ab_InvalidStore : Bool}
    {col_InvalidStore : Option Bool}
    {dd_InvalidStore : Option Addr}
    {k0_InvalidStore k1_InvalidStore k2_InvalidStore k3_InvalidStore k5_InvalidStore : Option Value}
    {fI_InvalidStore cda_InvalidStore ccI_InvalidStore : Addr}
    {ocI_InvalidStore dcI_InvalidStore pmI_InvalidStore ctI_InvalidStore cclI_InvalidStore clI_InvalidStore : Value}
    {odI_InvalidStore anI_InvalidStore cddI_InvalidStore cldI_InvalidStore : Option Addr}
    {slI_InvalidStore ccsI_InvalidStore cslI_InvalidStore : Array (Option Value)}
    {vsI_InvalidStore : Array Value}
    {fileI_InvalidStore : Str}
    {tfI_InvalidStore : Tok}
    {e_InvalidLayout : Addr}
    {e_InvalidNumber : Addr}
    {e_UnknownCrate : Addr}
    {e_UnknownDoor : Addr}
    {t_LETTERS : Tok}
    {t_LONGEST_WORD : Tok}
    {t_MOST_BEHIND : Tok}
    {t_MOST_CRATES : Tok}
    {t_MOST_DOORS : Tok}
    {t_MOST_PEOPLE : Tok}
    {t_MOST_PLACES : Tok}
    {t_MOST_WARMTH : Tok}
    {ecd : Value}
    {dcd : Option Addr}
    {vcd : Array Value}
    {slcd : Array (Option Value)}
    (a_is_number : PySem.W.nsIn K mainGlobals "is_number" = some (some (.ref f_is_number)))
    (l_is_number : K.lookup f_is_number = some ⟨oc_is_number, od_is_number, .func (PySem.W.fnOf "is_number" "is_number" (defArgs s_is_number) (defBody s_is_number) (defScope s_is_number) .none kV_is_number dc_is_number pm_is_number an_is_number cd_is_number ct_is_number), sl_is_number⟩)
    (c_is_number : PySem.W.codeIn K cd_is_number "is_number" = true)
    (k_is_number : PySem.W.keepIn K (.ref f_is_number) = true)
    (a_check_number : PySem.W.nsIn K mainGlobals "check_number" = some (some (.ref f_check_number)))
    (l_check_number : K.lookup f_check_number = some ⟨oc_check_number, od_check_number, .func (PySem.W.fnOf "check_number" "check_number" (defArgs s_check_number) (defBody s_check_number) (defScope s_check_number) .none kV_check_number dc_check_number pm_check_number an_check_number cd_check_number ct_check_number), sl_check_number⟩)
    (c_check_number : PySem.W.codeIn K cd_check_number "check_number" = true)
    (k_check_number : PySem.W.keepIn K (.ref f_check_number) = true)
    (a_is_word : PySem.W.nsIn K mainGlobals "is_word" = some (some (.ref f_is_word)))
    (l_is_word : K.lookup f_is_word = some ⟨oc_is_word, od_is_word, .func (PySem.W.fnOf "is_word" "is_word" (defArgs s_is_word) (defBody s_is_word) (defScope s_is_word) .none kV_is_word dc_is_word pm_is_word an_is_word cd_is_word ct_is_word), sl_is_word⟩)
    (c_is_word : PySem.W.codeIn K cd_is_word "is_word" = true)
    (k_is_word : PySem.W.keepIn K (.ref f_is_word) = true)
    (a_subsets : PySem.W.nsIn K mainGlobals "subsets" = some (some (.ref f_subsets)))
    (l_subsets : K.lookup f_subsets = some ⟨oc_subsets, od_subsets, .func (PySem.W.fnOf "subsets" "subsets" (defArgs s_subsets) (defBody s_subsets) (defScope s_subsets) .none kV_subsets dc_subsets pm_subsets an_subsets cd_subsets ct_subsets), sl_subsets⟩)
    (c_subsets : PySem.W.codeIn K cd_subsets "subsets" = true)
    (k_subsets : PySem.W.keepIn K (.ref f_subsets) = true)
    (a_length_and_items : PySem.W.nsIn K mainGlobals "length_and_items" = some (some (.ref f_length_and_items)))
    (l_length_and_items : K.lookup f_length_and_items = some ⟨oc_length_and_items, od_length_and_items, .func (PySem.W.fnOf "length_and_items" "length_and_items" (defArgs s_length_and_items) (defBody s_length_and_items) (defScope s_length_and_items) .none kV_length_and_items dc_length_and_items pm_length_and_items an_length_and_items cd_length_and_items ct_length_and_items), sl_length_and_items⟩)
    (c_length_and_items : PySem.W.codeIn K cd_length_and_items "length_and_items" = true)
    (k_length_and_items : PySem.W.keepIn K (.ref f_length_and_items) = true)
    (a_is_door : PySem.W.nsIn K mainGlobals "is_door" = some (some (.ref f_is_door)))
    (l_is_door : K.lookup f_is_door = some ⟨oc_is_door, od_is_door, .func (PySem.W.fnOf "is_door" "is_door" (defArgs s_is_door) (defBody s_is_door) (defScope s_is_door) .none kV_is_door dc_is_door pm_is_door an_is_door cd_is_door ct_is_door), sl_is_door⟩)
    (c_is_door : PySem.W.codeIn K cd_is_door "is_door" = true)
    (k_is_door : PySem.W.keepIn K (.ref f_is_door) = true)
    (a_doors_fit : PySem.W.nsIn K mainGlobals "doors_fit" = some (some (.ref f_doors_fit)))
    (l_doors_fit : K.lookup f_doors_fit = some ⟨oc_doors_fit, od_doors_fit, .func (PySem.W.fnOf "doors_fit" "doors_fit" (defArgs s_doors_fit) (defBody s_doors_fit) (defScope s_doors_fit) .none kV_doors_fit dc_doors_fit pm_doors_fit an_doors_fit cd_doors_fit ct_doors_fit), sl_doors_fit⟩)
    (c_doors_fit : PySem.W.codeIn K cd_doors_fit "doors_fit" = true)
    (k_doors_fit : PySem.W.keepIn K (.ref f_doors_fit) = true)
    (a_crates_fit : PySem.W.nsIn K mainGlobals "crates_fit" = some (some (.ref f_crates_fit)))
    (l_crates_fit : K.lookup f_crates_fit = some ⟨oc_crates_fit, od_crates_fit, .func (PySem.W.fnOf "crates_fit" "crates_fit" (defArgs s_crates_fit) (defBody s_crates_fit) (defScope s_crates_fit) .none kV_crates_fit dc_crates_fit pm_crates_fit an_crates_fit cd_crates_fit ct_crates_fit), sl_crates_fit⟩)
    (c_crates_fit : PySem.W.codeIn K cd_crates_fit "crates_fit" = true)
    (k_crates_fit : PySem.W.keepIn K (.ref f_crates_fit) = true)
    (a_places_behind : PySem.W.nsIn K mainGlobals "places_behind" = some (some (.ref f_places_behind)))
    (l_places_behind : K.lookup f_places_behind = some ⟨oc_places_behind, od_places_behind, .func (PySem.W.fnOf "places_behind" "places_behind" (defArgs s_places_behind) (defBody s_places_behind) (defScope s_places_behind) .none kV_places_behind dc_places_behind pm_places_behind an_places_behind cd_places_behind ct_places_behind), sl_places_behind⟩)
    (c_places_behind : PySem.W.codeIn K cd_places_behind "places_behind" = true)
    (k_places_behind : PySem.W.keepIn K (.ref f_places_behind) = true)
    (a_arrangements : PySem.W.nsIn K mainGlobals "arrangements" = some (some (.ref f_arrangements)))
    (l_arrangements : K.lookup f_arrangements = some ⟨oc_arrangements, od_arrangements, .func (PySem.W.fnOf "arrangements" "arrangements" (defArgs s_arrangements) (defBody s_arrangements) (defScope s_arrangements) .none kV_arrangements dc_arrangements pm_arrangements an_arrangements cd_arrangements ct_arrangements), sl_arrangements⟩)
    (c_arrangements : PySem.W.codeIn K cd_arrangements "arrangements" = true)
    (k_arrangements : PySem.W.keepIn K (.ref f_arrangements) = true)
    (a_all_layouts : PySem.W.nsIn K mainGlobals "all_layouts" = some (some (.ref f_all_layouts)))
    (l_all_layouts : K.lookup f_all_layouts = some ⟨oc_all_layouts, od_all_layouts, .func (PySem.W.fnOf "all_layouts" "all_layouts" (defArgs s_all_layouts) (defBody s_all_layouts) (defScope s_all_layouts) .none kV_all_layouts dc_all_layouts pm_all_layouts an_all_layouts cd_all_layouts ct_all_layouts), sl_all_layouts⟩)
    (c_all_layouts : PySem.W.codeIn K cd_all_layouts "all_layouts" = true)
    (k_all_layouts : PySem.W.keepIn K (.ref f_all_layouts) = true)
    (a_is_layout : PySem.W.nsIn K mainGlobals "is_layout" = some (some (.ref f_is_layout)))
    (l_is_layout : K.lookup f_is_layout = some ⟨oc_is_layout, od_is_layout, .func (PySem.W.fnOf "is_layout" "is_layout" (defArgs s_is_layout) (defBody s_is_layout) (defScope s_is_layout) .none kV_is_layout dc_is_layout pm_is_layout an_is_layout cd_is_layout ct_is_layout), sl_is_layout⟩)
    (c_is_layout : PySem.W.codeIn K cd_is_layout "is_layout" = true)
    (k_is_layout : PySem.W.keepIn K (.ref f_is_layout) = true)
    (a_check_layout : PySem.W.nsIn K mainGlobals "check_layout" = some (some (.ref f_check_layout)))
    (l_check_layout : K.lookup f_check_layout = some ⟨oc_check_layout, od_check_layout, .func (PySem.W.fnOf "check_layout" "check_layout" (defArgs s_check_layout) (defBody s_check_layout) (defScope s_check_layout) .none kV_check_layout dc_check_layout pm_check_layout an_check_layout cd_check_layout ct_check_layout), sl_check_layout⟩)
    (c_check_layout : PySem.W.codeIn K cd_check_layout "check_layout" = true)
    (k_check_layout : PySem.W.keepIn K (.ref f_check_layout) = true)
    (a_check_crate : PySem.W.nsIn K mainGlobals "check_crate" = some (some (.ref f_check_crate)))
    (l_check_crate : K.lookup f_check_crate = some ⟨oc_check_crate, od_check_crate, .func (PySem.W.fnOf "check_crate" "check_crate" (defArgs s_check_crate) (defBody s_check_crate) (defScope s_check_crate) .none kV_check_crate dc_check_crate pm_check_crate an_check_crate cd_check_crate ct_check_crate), sl_check_crate⟩)
    (c_check_crate : PySem.W.codeIn K cd_check_crate "check_crate" = true)
    (k_check_crate : PySem.W.keepIn K (.ref f_check_crate) = true)
    (a_has_door : PySem.W.nsIn K mainGlobals "has_door" = some (some (.ref f_has_door)))
    (l_has_door : K.lookup f_has_door = some ⟨oc_has_door, od_has_door, .func (PySem.W.fnOf "has_door" "has_door" (defArgs s_has_door) (defBody s_has_door) (defScope s_has_door) .none kV_has_door dc_has_door pm_has_door an_has_door cd_has_door ct_has_door), sl_has_door⟩)
    (c_has_door : PySem.W.codeIn K cd_has_door "has_door" = true)
    (k_has_door : PySem.W.keepIn K (.ref f_has_door) = true)
    (a_check_door : PySem.W.nsIn K mainGlobals "check_door" = some (some (.ref f_check_door)))
    (l_check_door : K.lookup f_check_door = some ⟨oc_check_door, od_check_door, .func (PySem.W.fnOf "check_door" "check_door" (defArgs s_check_door) (defBody s_check_door) (defScope s_check_door) .none kV_check_door dc_check_door pm_check_door an_check_door cd_check_door ct_check_door), sl_check_door⟩)
    (c_check_door : PySem.W.codeIn K cd_check_door "check_door" = true)
    (k_check_door : PySem.W.keepIn K (.ref f_check_door) = true)
    (a_contents : PySem.W.nsIn K mainGlobals "contents" = some (some (.ref f_contents)))
    (l_contents : K.lookup f_contents = some ⟨oc_contents, od_contents, .func (PySem.W.fnOf "contents" "contents" (defArgs s_contents) (defBody s_contents) (defScope s_contents) .none kV_contents dc_contents pm_contents an_contents cd_contents ct_contents), sl_contents⟩)
    (c_contents : PySem.W.codeIn K cd_contents "contents" = true)
    (k_contents : PySem.W.keepIn K (.ref f_contents) = true)
    (a_told_apart : PySem.W.nsIn K mainGlobals "told_apart" = some (some (.ref f_told_apart)))
    (l_told_apart : K.lookup f_told_apart = some ⟨oc_told_apart, od_told_apart, .func (PySem.W.fnOf "told_apart" "told_apart" (defArgs s_told_apart) (defBody s_told_apart) (defScope s_told_apart) .none kV_told_apart dc_told_apart pm_told_apart an_told_apart cd_told_apart ct_told_apart), sl_told_apart⟩)
    (c_told_apart : PySem.W.codeIn K cd_told_apart "told_apart" = true)
    (k_told_apart : PySem.W.keepIn K (.ref f_told_apart) = true)
    (a_check_question : PySem.W.nsIn K mainGlobals "check_question" = some (some (.ref f_check_question)))
    (l_check_question : K.lookup f_check_question = some ⟨oc_check_question, od_check_question, .func (PySem.W.fnOf "check_question" "check_question" (defArgs s_check_question) (defBody s_check_question) (defScope s_check_question) .none kV_check_question dc_check_question pm_check_question an_check_question cd_check_question ct_check_question), sl_check_question⟩)
    (c_check_question : PySem.W.codeIn K cd_check_question "check_question" = true)
    (k_check_question : PySem.W.keepIn K (.ref f_check_question) = true)
    (a_who_know : PySem.W.nsIn K mainGlobals "who_know" = some (some (.ref f_who_know)))
    (l_who_know : K.lookup f_who_know = some ⟨oc_who_know, od_who_know, .func (PySem.W.fnOf "who_know" "who_know" (defArgs s_who_know) (defBody s_who_know) (defScope s_who_know) .none kV_who_know dc_who_know pm_who_know an_who_know cd_who_know ct_who_know), sl_who_know⟩)
    (c_who_know : PySem.W.codeIn K cd_who_know "who_know" = true)
    (k_who_know : PySem.W.keepIn K (.ref f_who_know) = true)
    (a_one_round : PySem.W.nsIn K mainGlobals "one_round" = some (some (.ref f_one_round)))
    (l_one_round : K.lookup f_one_round = some ⟨oc_one_round, od_one_round, .func (PySem.W.fnOf "one_round" "one_round" (defArgs s_one_round) (defBody s_one_round) (defScope s_one_round) .none kV_one_round dc_one_round pm_one_round an_one_round cd_one_round ct_one_round), sl_one_round⟩)
    (c_one_round : PySem.W.codeIn K cd_one_round "one_round" = true)
    (k_one_round : PySem.W.keepIn K (.ref f_one_round) = true)
    (a_spoken : PySem.W.nsIn K mainGlobals "spoken" = some (some (.ref f_spoken)))
    (l_spoken : K.lookup f_spoken = some ⟨oc_spoken, od_spoken, .func (PySem.W.fnOf "spoken" "spoken" (defArgs s_spoken) (defBody s_spoken) (defScope s_spoken) .none kV_spoken dc_spoken pm_spoken an_spoken cd_spoken ct_spoken), sl_spoken⟩)
    (c_spoken : PySem.W.codeIn K cd_spoken "spoken" = true)
    (k_spoken : PySem.W.keepIn K (.ref f_spoken) = true)
    (a_first_to_know : PySem.W.nsIn K mainGlobals "first_to_know" = some (some (.ref f_first_to_know)))
    (l_first_to_know : K.lookup f_first_to_know = some ⟨oc_first_to_know, od_first_to_know, .func (PySem.W.fnOf "first_to_know" "first_to_know" (defArgs s_first_to_know) (defBody s_first_to_know) (defScope s_first_to_know) .none kV_first_to_know dc_first_to_know pm_first_to_know an_first_to_know cd_first_to_know ct_first_to_know), sl_first_to_know⟩)
    (c_first_to_know : PySem.W.codeIn K cd_first_to_know "first_to_know" = true)
    (k_first_to_know : PySem.W.keepIn K (.ref f_first_to_know) = true)
    (a_knows_first : PySem.W.nsIn K mainGlobals "knows_first" = some (some (.ref f_knows_first)))
    (l_knows_first : K.lookup f_knows_first = some ⟨oc_knows_first, od_knows_first, .func (PySem.W.fnOf "knows_first" "knows_first" (defArgs s_knows_first) (defBody s_knows_first) (defScope s_knows_first) .none kV_knows_first dc_knows_first pm_knows_first an_knows_first cd_knows_first ct_knows_first), sl_knows_first⟩)
    (c_knows_first : PySem.W.codeIn K cd_knows_first "knows_first" = true)
    (k_knows_first : PySem.W.keepIn K (.ref f_knows_first) = true)
    (a_needed_doors : PySem.W.nsIn K mainGlobals "needed_doors" = some (some (.ref f_needed_doors)))
    (l_needed_doors : K.lookup f_needed_doors = some ⟨oc_needed_doors, od_needed_doors, .func (PySem.W.fnOf "needed_doors" "needed_doors" (defArgs s_needed_doors) (defBody s_needed_doors) (defScope s_needed_doors) .none kV_needed_doors dc_needed_doors pm_needed_doors an_needed_doors cd_needed_doors ct_needed_doors), sl_needed_doors⟩)
    (c_needed_doors : PySem.W.codeIn K cd_needed_doors "needed_doors" = true)
    (k_needed_doors : PySem.W.keepIn K (.ref f_needed_doors) = true)
    (a__law_taken : PySem.W.nsIn K mainGlobals "_law_taken" = some (some (.ref f__law_taken)))
    (l__law_taken : K.lookup f__law_taken = some ⟨oc__law_taken, od__law_taken, .func (PySem.W.fnOf "_law_taken" "_law_taken" (defArgs s__law_taken) (defBody s__law_taken) (defScope s__law_taken) .none kV__law_taken dc__law_taken pm__law_taken an__law_taken cd__law_taken ct__law_taken), sl__law_taken⟩)
    (c__law_taken : PySem.W.codeIn K cd__law_taken "_law_taken" = true)
    (k__law_taken : PySem.W.keepIn K (.ref f__law_taken) = true)
    (a_law : PySem.W.nsIn K mainGlobals "law" = some (some (.ref f_law)))
    (l_law : K.lookup f_law = some ⟨oc_law, od_law, .func (PySem.W.fnOf "law" "law" (defArgs s_law) (defBody s_law) (defScope s_law) .none kV_law dc_law pm_law an_law (.ref c0) ct_law), sl_law⟩)
    (c_law : PySem.W.codeIn K (.ref c0) "law" = true)
    (k_law : PySem.W.keepIn K (.ref f_law) = true)
    (a__law_told : PySem.W.nsIn K mainGlobals "_law_told" = some (some (.ref f__law_told)))
    (l__law_told : K.lookup f__law_told = some ⟨oc__law_told, od__law_told, .func (PySem.W.fnOf "_law_told" "_law_told" (defArgs s__law_told) (defBody s__law_told) (defScope s__law_told) .none kV__law_told dc__law_told pm__law_told an__law_told cd__law_told ct__law_told), sl__law_told⟩)
    (c__law_told : PySem.W.codeIn K cd__law_told "_law_told" = true)
    (k__law_told : PySem.W.keepIn K (.ref f__law_told) = true)
    (a_Store : PySem.W.nsIn K mainGlobals "Store" = some (some (.ref C)))
    (a_m__len__ : PySem.W.findIn K (.ref C) "__len__" = some (some (.ref f_m__len__)))
    (i_m__len__ : PySem.W.isFn K (.ref f_m__len__) = true)
    (l_m__len__ : K.lookup f_m__len__ = some ⟨oc_m__len__, od_m__len__, .func (PySem.W.fnOf "__len__" "Store.__len__" (defArgs s_Store___len__) (defBody s_Store___len__) (defScope s_Store___len__) .none kV_m__len__ dc_m__len__ pm_m__len__ an_m__len__ cd_m__len__ ct_m__len__), sl_m__len__⟩)
    (c_m__len__ : PySem.W.codeIn K cd_m__len__ "Store.__len__" = true)
    (k_m__len__ : PySem.W.keepIn K (.ref f_m__len__) = true)
    (a_mplaces_of : PySem.W.findIn K (.ref C) "places_of" = some (some (.ref f_mplaces_of)))
    (i_mplaces_of : PySem.W.isFn K (.ref f_mplaces_of) = true)
    (l_mplaces_of : K.lookup f_mplaces_of = some ⟨oc_mplaces_of, od_mplaces_of, .func (PySem.W.fnOf "places_of" "Store.places_of" (defArgs s_Store_places_of) (defBody s_Store_places_of) (defScope s_Store_places_of) .none kV_mplaces_of dc_mplaces_of pm_mplaces_of an_mplaces_of cd_mplaces_of ct_mplaces_of), sl_mplaces_of⟩)
    (c_mplaces_of : PySem.W.codeIn K cd_mplaces_of "Store.places_of" = true)
    (k_mplaces_of : PySem.W.keepIn K (.ref f_mplaces_of) = true)
    (a_m__init__ : PySem.W.findIn K (.ref C) "__init__" = some (some (.ref f_m__init__)))
    (i_m__init__ : PySem.W.isFn K (.ref f_m__init__) = true)
    (l_m__init__ : K.lookup f_m__init__ = some ⟨oc_m__init__, od_m__init__, .func (PySem.W.fnOf "__init__" "Store.__init__" (defArgs s_Store___init__) (defBody s_Store___init__) (defScope s_Store___init__) .none kV_m__init__ dc_m__init__ pm_m__init__ an_m__init__ cd_m__init__ ct_m__init__), sl_m__init__⟩)
    (c_m__init__ : PySem.W.codeIn K cd_m__init__ "Store.__init__" = true)
    (k_m__init__ : PySem.W.keepIn K (.ref f_m__init__) = true)
    (a_pcrates : PySem.W.findIn K (.ref C) "crates" = some (some (.ref p_pcrates)))
    (g_pcrates : PySem.W.specialIn K (.ref p_pcrates) "__get__" = some (some (.builtin "property.__get__")))
    (t_pcrates : PySem.W.takesIn K (.ref p_pcrates) = some true)
    (e_pcrates : PySem.W.recIn K p_pcrates "property" = some (.ref f_pcrates :: r_pcrates))
    (l_pcrates : K.lookup f_pcrates = some ⟨oc_pcrates, od_pcrates, .func (PySem.W.fnOf "crates" "Store.crates" (defArgs s_Store_crates) (defBody s_Store_crates) (defScope s_Store_crates) .none kV_pcrates dc_pcrates pm_pcrates an_pcrates cd_pcrates ct_pcrates), sl_pcrates⟩)
    (c_pcrates : PySem.W.codeIn K cd_pcrates "Store.crates" = true)
    (k_pcrates : PySem.W.keepIn K (.ref f_pcrates) = true)
    (a_psize : PySem.W.findIn K (.ref C) "size" = some (some (.ref p_psize)))
    (g_psize : PySem.W.specialIn K (.ref p_psize) "__get__" = some (some (.builtin "property.__get__")))
    (t_psize : PySem.W.takesIn K (.ref p_psize) = some true)
    (e_psize : PySem.W.recIn K p_psize "property" = some (.ref f_psize :: r_psize))
    (l_psize : K.lookup f_psize = some ⟨oc_psize, od_psize, .func (PySem.W.fnOf "size" "Store.size" (defArgs s_Store_size) (defBody s_Store_size) (defScope s_Store_size) .none kV_psize dc_psize pm_psize an_psize cd_psize ct_psize), sl_psize⟩)
    (c_psize : PySem.W.codeIn K cd_psize "Store.size" = true)
    (k_psize : PySem.W.keepIn K (.ref f_psize) = true)
    (s_pg : PySem.W.plainGet K C Str.empty = true)
    (s_hd : PySem.W.hasDictIn K C = true)
    (s_po : PySem.W.plainOver K C = true)
    (s_sa : PySem.W.findIn K (.ref C) "__setattr__" = some (some (.builtin "object.__setattr__")))
    (s_mk : PySem.W.makesIn K C = true)
    (s_kc : PySem.W.keepIn K (.ref C) = true)
    (s_nplaces : PySem.W.findIn K (.ref C) "_places" = some none)
    (s_nsize : PySem.W.findIn K (.ref C) "_size" = some none)
    (s_ndoors : PySem.W.findIn K (.ref C) "_doors" = some none)
    (s_ncrates : PySem.W.findIn K (.ref C) "_crates" = some none)
    (a_InvalidRows : PySem.W.nsIn K mainGlobals "InvalidRows" = some (some (.ref e_InvalidRows)))
    (ob_InvalidRows : K.lookup e_InvalidRows = some (excClassObj nm_InvalidRows qn_InvalidRows e_InvalidRows N_InvalidRows bs_InvalidRows [.ref CE, .type "ValueError", .type "Exception", .type "BaseException", .type "object"] true sn_InvalidRows sub_InvalidRows ab_InvalidRows col_InvalidRows dd_InvalidRows k0_InvalidRows k1_InvalidRows k2_InvalidRows k3_InvalidRows k5_InvalidRows "ValueError.__new__"))
    (sa_InvalidRows : PySem.W.findIn K (.ref e_InvalidRows) "__setattr__" = some (some (.builtin "object.__setattr__")))
    (iC_InvalidRows : PySem.W.findIn K (.ref e_InvalidRows) "__init__" = some (some (.ref fI_InvalidRows)))
    (tC_InvalidRows : PySem.W.typeIn K (.ref fI_InvalidRows) = some (.type "function"))
    (ve_InvalidRows : PySem.W.subIn K (.ref e_InvalidRows) (.type "ValueError") = some true)
    (slf_InvalidRows : PySem.W.mroIn K e_InvalidRows (.ref e_InvalidRows) = some true)
    (op_InvalidRows : PySem.W.nsIn K cStatics "thirdparty.any" = some none)
    (al_InvalidRows : PySem.W.ks_superIn K e_InvalidRows e_InvalidRows "__init__" = some (some (.builtin "ValueError.__init__")))
    (li_InvalidRows : K.lookup fI_InvalidRows = some ⟨ocI_InvalidRows, odI_InvalidRows, .func (PySem.W.ksFn "__init__" "InvalidRows.__init__" (defArgs s_InvalidRows___init__) (defBody s_InvalidRows___init__) (defScope s_InvalidRows___init__) .none .none dcI_InvalidRows pmI_InvalidRows anI_InvalidRows (.ref cda_InvalidRows) ctI_InvalidRows ccI_InvalidRows), slI_InvalidRows⟩)
    (ci_InvalidRows : PySem.W.codeIn K (.ref cda_InvalidRows) "InvalidRows.__init__" = true)
    (cd_InvalidRows : K.lookup cda_InvalidRows = some ⟨cclI_InvalidRows, cddI_InvalidRows, .fields vsI_InvalidRows, ccsI_InvalidRows⟩)
    (v2_InvalidRows : vsI_InvalidRows[2]? = some (.str fileI_InvalidRows tfI_InvalidRows))
    (fi_InvalidRows : ((PySem.Challenge.pw_coldcrates_k35_speaking_rejected.main.file : Str) == fileI_InvalidRows) = true)
    (cc_InvalidRows : K.lookup ccI_InvalidRows = some ⟨clI_InvalidRows, cldI_InvalidRows, .cell (some (.ref e_InvalidRows)), cslI_InvalidRows⟩)
    (no_InvalidRows : PySem.W.findIn K (.ref e_InvalidRows) "index" = some none)
    (kC_InvalidRows : PySem.W.keepIn K (.ref e_InvalidRows) = true)
    (exC_InvalidRows : PySem.W.subIn K (.ref e_InvalidRows) (.type "BaseException") = some true)
    (tyC_InvalidRows : PySem.W.typeIn K (.ref e_InvalidRows) = some (.type "type"))
    (a_InvalidStore : PySem.W.nsIn K mainGlobals "InvalidStore" = some (some (.ref e_InvalidStore)))
    (ob_InvalidStore : K.lookup e_InvalidStore = some (excClassObj nm_InvalidStore qn_InvalidStore e_InvalidStore N_InvalidStore bs_InvalidStore [.ref CE, .type "ValueError", .type "Exception", .type "BaseException", .type "object"] true sn_InvalidStore sub_InvalidStore ab_InvalidStore col_InvalidStore dd_InvalidStore k0_InvalidStore k1_InvalidStore k2_InvalidStore k3_InvalidStore k5_InvalidStore "ValueError.__new__"))
    (sa_InvalidStore : PySem.W.findIn K (.ref e_InvalidStore) "__setattr__" = some (some (.builtin "object.__setattr__")))
    (iC_InvalidStore : PySem.W.findIn K (.ref e_InvalidStore) "__init__" = some (some (.ref fI_InvalidStore)))
    (tC_InvalidStore : PySem.W.typeIn K (.ref fI_InvalidStore) = some (.type "function"))
    (ve_InvalidStore : PySem.W.subIn K (.ref e_InvalidStore) (.type "ValueError") = some true)
    (slf_InvalidStore : PySem.W.mroIn K e_InvalidStore (.ref e_InvalidStore) = some true)
    (op_InvalidStore : PySem.W.nsIn K cStatics "thirdparty.any" = some none)
    (al_InvalidStore : PySem.W.ks_superIn K e_InvalidStore e_InvalidStore "__init__" = some (some (.builtin "ValueError.__init__")))
    (li_InvalidStore : K.lookup fI_InvalidStore = some ⟨ocI_InvalidStore, odI_InvalidStore, .func (PySem.W.ksFn "__init__" "InvalidStore.__init__" (defArgs s_InvalidStore___init__) (defBody s_InvalidStore___init__) (defScope s_InvalidStore___init__) .none .none dcI_InvalidStore pmI_InvalidStore anI_InvalidStore (.ref cda_InvalidStore) ctI_InvalidStore ccI_InvalidStore), slI_InvalidStore⟩)
    (ci_InvalidStore : PySem.W.codeIn K (.ref cda_InvalidStore) "InvalidStore.__init__" = true)
    (cd_InvalidStore : K.lookup cda_InvalidStore = some ⟨cclI_InvalidStore, cddI_InvalidStore, .fields vsI_InvalidStore, ccsI_InvalidStore⟩)
    (v2_InvalidStore : vsI_InvalidStore[2]? = some (.str fileI_InvalidStore tfI_InvalidStore))
    (fi_InvalidStore : ((PySem.Challenge.pw_coldcrates_k35_speaking_rejected.main.file : Str) == fileI_InvalidStore) = true)
    (cc_InvalidStore : K.lookup ccI_InvalidStore = some ⟨clI_InvalidStore, cldI_InvalidStore, .cell (some (.ref e_InvalidStore)), cslI_InvalidStore⟩)
    (no_InvalidStore : PySem.W.findIn K (.ref e_InvalidStore) "part" = some none)
    (kC_InvalidStore : PySem.W.keepIn K (.ref e_InvalidStore) = true)
    (exC_InvalidStore : PySem.W.subIn K (.ref e_InvalidStore) (.type "BaseException") = some true)
    (tyC_InvalidStore : PySem.W.typeIn K (.ref e_InvalidStore) = some (.type "type"))
    (a_InvalidLayout : PySem.W.nsIn K mainGlobals "InvalidLayout" = some (some (.ref e_InvalidLayout)))
    (kC_InvalidLayout : PySem.W.keepIn K (.ref e_InvalidLayout) = true)
    (exC_InvalidLayout : PySem.W.subIn K (.ref e_InvalidLayout) (.type "BaseException") = some true)
    (tyC_InvalidLayout : PySem.W.typeIn K (.ref e_InvalidLayout) = some (.type "type"))
    (q_InvalidLayout : PySem.W.excIn K e_InvalidLayout [.type "ValueError", .type "Exception", .type "BaseException", .type "object"] "ValueError.__new__" = true)
    (a_InvalidNumber : PySem.W.nsIn K mainGlobals "InvalidNumber" = some (some (.ref e_InvalidNumber)))
    (kC_InvalidNumber : PySem.W.keepIn K (.ref e_InvalidNumber) = true)
    (exC_InvalidNumber : PySem.W.subIn K (.ref e_InvalidNumber) (.type "BaseException") = some true)
    (tyC_InvalidNumber : PySem.W.typeIn K (.ref e_InvalidNumber) = some (.type "type"))
    (q_InvalidNumber : PySem.W.excIn K e_InvalidNumber [.type "ValueError", .type "Exception", .type "BaseException", .type "object"] "ValueError.__new__" = true)
    (a_UnknownCrate : PySem.W.nsIn K mainGlobals "UnknownCrate" = some (some (.ref e_UnknownCrate)))
    (kC_UnknownCrate : PySem.W.keepIn K (.ref e_UnknownCrate) = true)
    (exC_UnknownCrate : PySem.W.subIn K (.ref e_UnknownCrate) (.type "BaseException") = some true)
    (tyC_UnknownCrate : PySem.W.typeIn K (.ref e_UnknownCrate) = some (.type "type"))
    (q_UnknownCrate : PySem.W.excIn K e_UnknownCrate [.type "ValueError", .type "Exception", .type "BaseException", .type "object"] "ValueError.__new__" = true)
    (a_UnknownDoor : PySem.W.nsIn K mainGlobals "UnknownDoor" = some (some (.ref e_UnknownDoor)))
    (kC_UnknownDoor : PySem.W.keepIn K (.ref e_UnknownDoor) = true)
    (exC_UnknownDoor : PySem.W.subIn K (.ref e_UnknownDoor) (.type "BaseException") = some true)
    (tyC_UnknownDoor : PySem.W.typeIn K (.ref e_UnknownDoor) = some (.type "type"))
    (q_UnknownDoor : PySem.W.excIn K e_UnknownDoor [.type "ValueError", .type "Exception", .type "BaseException", .type "object"] "ValueError.__new__" = true)
    (z_all : PySem.W.nsIn K mainGlobals "all" = some none)
    (z_bool : PySem.W.nsIn K mainGlobals "bool" = some none)
    (z_enumerate : PySem.W.nsIn K mainGlobals "enumerate" = some none)
    (z_int : PySem.W.nsIn K mainGlobals "int" = some none)
    (z_isinstance : PySem.W.nsIn K mainGlobals "isinstance" = some none)
    (z_len : PySem.W.nsIn K mainGlobals "len" = some none)
    (z_list : PySem.W.nsIn K mainGlobals "list" = some none)
    (z_min : PySem.W.nsIn K mainGlobals "min" = some none)
    (z_range : PySem.W.nsIn K mainGlobals "range" = some none)
    (z_sorted : PySem.W.nsIn K mainGlobals "sorted" = some none)
    (z_str : PySem.W.nsIn K mainGlobals "str" = some none)
    (z_sum : PySem.W.nsIn K mainGlobals "sum" = some none)
    (z_super : PySem.W.nsIn K mainGlobals "super" = some none)
    (z_tuple : PySem.W.nsIn K mainGlobals "tuple" = some none)
    (z_zip : PySem.W.nsIn K mainGlobals "zip" = some none)
    (v_LETTERS : PySem.W.nsIn K mainGlobals "LETTERS" = some (some (.str "abcdefghijklmnopqrstuvwxyz" t_LETTERS)))
    (v_LONGEST_WORD : PySem.W.nsIn K mainGlobals "LONGEST_WORD" = some (some (.int 8 t_LONGEST_WORD)))
    (v_MOST_BEHIND : PySem.W.nsIn K mainGlobals "MOST_BEHIND" = some (some (.int 4 t_MOST_BEHIND)))
    (v_MOST_CRATES : PySem.W.nsIn K mainGlobals "MOST_CRATES" = some (some (.int 5 t_MOST_CRATES)))
    (v_MOST_DOORS : PySem.W.nsIn K mainGlobals "MOST_DOORS" = some (some (.int 4 t_MOST_DOORS)))
    (v_MOST_PEOPLE : PySem.W.nsIn K mainGlobals "MOST_PEOPLE" = some (some (.int 3 t_MOST_PEOPLE)))
    (v_MOST_PLACES : PySem.W.nsIn K mainGlobals "MOST_PLACES" = some (some (.int 6 t_MOST_PLACES)))
    (v_MOST_WARMTH : PySem.W.nsIn K mainGlobals "MOST_WARMTH" = some (some (.int 99 t_MOST_WARMTH)))
    (y_cd : K.lookup c0 = some ⟨ecd, dcd, .fields vcd, slcd⟩)
    (y_11 : vcd[11]? = some (.ref P0))
    (y_no : K.lookup P0 = none)
    (y_hd : PySem.W.codeHdIn K c0 P0 = true)
    (s_cl : PySem.W.findIn K (.ref C) "__class__" = some (some (.builtin "object.__class__")))
    (g_cl : PySem.W.specialIn K (.builtin "object.__class__") "__get__" = some (some (.builtin "getset_descriptor.__get__")))
    (g_tk : PySem.W.takesIn K (.builtin "object.__class__") = some true)
    (s_mo : PySem.W.mroIn K C (.type "object") = some true)
    (xm_InvalidLayout_InvalidLayout : PySem.W.exmOne K (.ref e_InvalidLayout) (.ref e_InvalidLayout) = some true)
    (xm_InvalidLayout_InvalidNumber : PySem.W.exmOne K (.ref e_InvalidNumber) (.ref e_InvalidLayout) = some false)
    (xm_InvalidLayout_InvalidRows : PySem.W.exmOne K (.ref e_InvalidRows) (.ref e_InvalidLayout) = some false)
    (xm_InvalidLayout_InvalidStore : PySem.W.exmOne K (.ref e_InvalidStore) (.ref e_InvalidLayout) = some false)
    (xm_InvalidLayout_UnknownCrate : PySem.W.exmOne K (.ref e_UnknownCrate) (.ref e_InvalidLayout) = some false)
    (xm_InvalidLayout_UnknownDoor : PySem.W.exmOne K (.ref e_UnknownDoor) (.ref e_InvalidLayout) = some false)
    (xm_InvalidNumber_InvalidLayout : PySem.W.exmOne K (.ref e_InvalidLayout) (.ref e_InvalidNumber) = some false)
    (xm_InvalidNumber_InvalidNumber : PySem.W.exmOne K (.ref e_InvalidNumber) (.ref e_InvalidNumber) = some true)
    (xm_InvalidNumber_InvalidRows : PySem.W.exmOne K (.ref e_InvalidRows) (.ref e_InvalidNumber) = some false)
    (xm_InvalidNumber_InvalidStore : PySem.W.exmOne K (.ref e_InvalidStore) (.ref e_InvalidNumber) = some false)
    (xm_InvalidNumber_UnknownCrate : PySem.W.exmOne K (.ref e_UnknownCrate) (.ref e_InvalidNumber) = some false)
    (xm_InvalidNumber_UnknownDoor : PySem.W.exmOne K (.ref e_UnknownDoor) (.ref e_InvalidNumber) = some false)
    (xm_InvalidRows_InvalidLayout : PySem.W.exmOne K (.ref e_InvalidLayout) (.ref e_InvalidRows) = some false)
    (xm_InvalidRows_InvalidNumber : PySem.W.exmOne K (.ref e_InvalidNumber) (.ref e_InvalidRows) = some false)
    (xm_InvalidRows_InvalidRows : PySem.W.exmOne K (.ref e_InvalidRows) (.ref e_InvalidRows) = some true)
    (xm_InvalidRows_InvalidStore : PySem.W.exmOne K (.ref e_InvalidStore) (.ref e_InvalidRows) = some false)
    (xm_InvalidRows_UnknownCrate : PySem.W.exmOne K (.ref e_UnknownCrate) (.ref e_InvalidRows) = some false)
    (xm_InvalidRows_UnknownDoor : PySem.W.exmOne K (.ref e_UnknownDoor) (.ref e_InvalidRows) = some false)
    (xg_InvalidRows : PySem.W.findIn K (.ref e_InvalidRows) "__getattribute__" = some (some (.builtin "BaseException.__getattribute__")))
    (xa_InvalidRows : PySem.W.findIn K (.ref e_InvalidRows) "__getattr__" = some none)
    (xh_InvalidRows : PySem.W.hasDictIn K e_InvalidRows = true)
    (xm_UnknownCrate_InvalidLayout : PySem.W.exmOne K (.ref e_InvalidLayout) (.ref e_UnknownCrate) = some false)
    (xm_UnknownCrate_InvalidNumber : PySem.W.exmOne K (.ref e_InvalidNumber) (.ref e_UnknownCrate) = some false)
    (xm_UnknownCrate_InvalidRows : PySem.W.exmOne K (.ref e_InvalidRows) (.ref e_UnknownCrate) = some false)
    (xm_UnknownCrate_InvalidStore : PySem.W.exmOne K (.ref e_InvalidStore) (.ref e_UnknownCrate) = some false)
    (xm_UnknownCrate_UnknownCrate : PySem.W.exmOne K (.ref e_UnknownCrate) (.ref e_UnknownCrate) = some true)
    (xm_UnknownCrate_UnknownDoor : PySem.W.exmOne K (.ref e_UnknownDoor) (.ref e_UnknownCrate) = some false) :
    LamX.LawAtS PySem.Challenge.rw_coldcrates_k35_speaking_rejected w K CX0 20 63 "_law_script" mg fa h := by
  have e := hfa.symm.trans (PySem.W.mg_of X G a_law)
  cases e
  have SC_InvalidRows : CcX.SupC pwK K e_InvalidRows fI_InvalidRows "InvalidRows.__init__" "index" (defBody s_InvalidRows___init__) (defArgs s_InvalidRows___init__) (defScope s_InvalidRows___init__) := { cls := ⟨_, _, _, _, _, _, _, _, _, _, _, _, _, _, _, ob_InvalidRows, rfl⟩, sa := sa_InvalidRows, noN := no_InvalidRows, iC := iC_InvalidRows, tC := tC_InvalidRows, kC := kC_InvalidRows, exC := exC_InvalidRows, veC := ve_InvalidRows, slfC := slf_InvalidRows, tyC := tyC_InvalidRows, opq := op_InvalidRows, alg := al_InvalidRows, top := by decide +kernel, fn := ⟨_, _, _, _, _, _, _, _, _, _, _, _, _, _, _, _, _, _, li_InvalidRows, ci_InvalidRows, cd_InvalidRows, v2_InvalidRows, fi_InvalidRows, cc_InvalidRows⟩ }
  have SI_InvalidRows : CcX.SupI pwK w K mg e_InvalidRows fI_InvalidRows "index" := CcX.sup_of (ar := "index") SC_InvalidRows (by first | exact .inl rfl | exact .inr (.inl rfl) | exact .inr (.inr (.inl rfl)) | exact .inr (.inr (.inr (.inl rfl))) | exact .inr (.inr (.inr (.inr rfl)))) (fun e he => by
    simp only [List.mem_cons, List.not_mem_nil, or_false] at he
    first
      | (rcases he with rfl | rfl | rfl <;> first | exact .inr ⟨_, _, rfl⟩ | exact .inl ⟨_, _, _, rfl, by decide +kernel⟩)
      | (rcases he with rfl | rfl <;> first | exact .inr ⟨_, _, rfl⟩ | exact .inl ⟨_, _, _, rfl, by decide +kernel⟩)
      | (subst he; first | exact .inr ⟨_, _, rfl⟩ | exact .inl ⟨_, _, _, rfl, by decide +kernel⟩)) (by decide) (by decide +kernel) (PySem.W.mg_none_of X G z_super)
  have SC_InvalidStore : CcX.SupC pwK K e_InvalidStore fI_InvalidStore "InvalidStore.__init__" "part" (defBody s_InvalidStore___init__) (defArgs s_InvalidStore___init__) (defScope s_InvalidStore___init__) := { cls := ⟨_, _, _, _, _, _, _, _, _, _, _, _, _, _, _, ob_InvalidStore, rfl⟩, sa := sa_InvalidStore, noN := no_InvalidStore, iC := iC_InvalidStore, tC := tC_InvalidStore, kC := kC_InvalidStore, exC := exC_InvalidStore, veC := ve_InvalidStore, slfC := slf_InvalidStore, tyC := tyC_InvalidStore, opq := op_InvalidStore, alg := al_InvalidStore, top := by decide +kernel, fn := ⟨_, _, _, _, _, _, _, _, _, _, _, _, _, _, _, _, _, _, li_InvalidStore, ci_InvalidStore, cd_InvalidStore, v2_InvalidStore, fi_InvalidStore, cc_InvalidStore⟩ }
  have SI_InvalidStore : CcX.SupI pwK w K mg e_InvalidStore fI_InvalidStore "part" := CcX.sup_of (ar := "part") SC_InvalidStore (by first | exact .inl rfl | exact .inr (.inl rfl) | exact .inr (.inr (.inl rfl)) | exact .inr (.inr (.inr (.inl rfl))) | exact .inr (.inr (.inr (.inr rfl)))) (fun e he => by
    simp only [List.mem_cons, List.not_mem_nil, or_false] at he
    first
      | (rcases he with rfl | rfl | rfl <;> first | exact .inr ⟨_, _, rfl⟩ | exact .inl ⟨_, _, _, rfl, by decide +kernel⟩)
      | (rcases he with rfl | rfl <;> first | exact .inr ⟨_, _, rfl⟩ | exact .inl ⟨_, _, _, rfl, by decide +kernel⟩)
      | (subst he; first | exact .inr ⟨_, _, rfl⟩ | exact .inl ⟨_, _, _, rfl, by decide +kernel⟩)) (by decide) (by decide +kernel) (PySem.W.mg_none_of X G z_super)
  have F_is_number := fun_mk (st := s_is_number) l_is_number c_is_number k_is_number
  have b_is_number := F_is_number.binds (ps := ["value", "low", "high"]) fun _ _ _ _ _ _ us hl => match us, hl with | [_, _, _], _ => rfl
  have F_check_number := fun_mk (st := s_check_number) l_check_number c_check_number k_check_number
  have b_check_number := F_check_number.binds (ps := ["value", "low", "high"]) fun _ _ _ _ _ _ us hl => match us, hl with | [_, _, _], _ => rfl
  have F_is_word := fun_mk (st := s_is_word) l_is_word c_is_word k_is_word
  have b_is_word := F_is_word.binds (ps := ["value"]) fun _ _ _ _ _ _ us hl => match us, hl with | [_], _ => rfl
  have F_subsets := fun_mk (st := s_subsets) l_subsets c_subsets k_subsets
  have b_subsets := F_subsets.binds (ps := ["parts"]) fun _ _ _ _ _ _ us hl => match us, hl with | [_], _ => rfl
  have F_length_and_items := fun_mk (st := s_length_and_items) l_length_and_items c_length_and_items k_length_and_items
  have b_length_and_items := F_length_and_items.binds (ps := ["chosen"]) fun _ _ _ _ _ _ us hl => match us, hl with | [_], _ => rfl
  have F_is_door := fun_mk (st := s_is_door) l_is_door c_is_door k_is_door
  have b_is_door := F_is_door.binds (ps := ["value"]) fun _ _ _ _ _ _ us hl => match us, hl with | [_], _ => rfl
  have F_doors_fit := fun_mk (st := s_doors_fit) l_doors_fit c_doors_fit k_doors_fit
  have b_doors_fit := F_doors_fit.binds (ps := ["doors"]) fun _ _ _ _ _ _ us hl => match us, hl with | [_], _ => rfl
  have F_crates_fit := fun_mk (st := s_crates_fit) l_crates_fit c_crates_fit k_crates_fit
  have b_crates_fit := F_crates_fit.binds (ps := ["crates", "size"]) fun _ _ _ _ _ _ us hl => match us, hl with | [_, _], _ => rfl
  have F_places_behind := fun_mk (st := s_places_behind) l_places_behind c_places_behind k_places_behind
  have b_places_behind := F_places_behind.binds (ps := ["doors"]) fun _ _ _ _ _ _ us hl => match us, hl with | [_], _ => rfl
  have F_arrangements := fun_mk (st := s_arrangements) l_arrangements c_arrangements k_arrangements
  have b_arrangements := F_arrangements.binds (ps := ["names", "free"]) fun _ _ _ _ _ _ us hl => match us, hl with | [_, _], _ => rfl
  have F_all_layouts := fun_mk (st := s_all_layouts) l_all_layouts c_all_layouts k_all_layouts
  have b_all_layouts := F_all_layouts.binds (ps := ["store"]) fun _ _ _ _ _ _ us hl => match us, hl with | [_], _ => rfl
  have F_is_layout := fun_mk (st := s_is_layout) l_is_layout c_is_layout k_is_layout
  have b_is_layout := F_is_layout.binds (ps := ["store", "value"]) fun _ _ _ _ _ _ us hl => match us, hl with | [_, _], _ => rfl
  have F_check_layout := fun_mk (st := s_check_layout) l_check_layout c_check_layout k_check_layout
  have b_check_layout := F_check_layout.binds (ps := ["store", "layout"]) fun _ _ _ _ _ _ us hl => match us, hl with | [_, _], _ => rfl
  have F_check_crate := fun_mk (st := s_check_crate) l_check_crate c_check_crate k_check_crate
  have b_check_crate := F_check_crate.binds (ps := ["store", "name"]) fun _ _ _ _ _ _ us hl => match us, hl with | [_, _], _ => rfl
  have F_has_door := fun_mk (st := s_has_door) l_has_door c_has_door k_has_door
  have b_has_door := F_has_door.binds (ps := ["store", "door"]) fun _ _ _ _ _ _ us hl => match us, hl with | [_, _], _ => rfl
  have F_check_door := fun_mk (st := s_check_door) l_check_door c_check_door k_check_door
  have b_check_door := F_check_door.binds (ps := ["store", "door"]) fun _ _ _ _ _ _ us hl => match us, hl with | [_, _], _ => rfl
  have F_contents := fun_mk (st := s_contents) l_contents c_contents k_contents
  have b_contents := F_contents.binds (ps := ["store", "layout", "door"]) fun _ _ _ _ _ _ us hl => match us, hl with | [_, _, _], _ => rfl
  have F_told_apart := fun_mk (st := s_told_apart) l_told_apart c_told_apart k_told_apart
  have b_told_apart := F_told_apart.binds (ps := ["store", "left", "doors"]) fun _ _ _ _ _ _ us hl => match us, hl with | [_, _, _], _ => rfl
  have F_check_question := fun_mk (st := s_check_question) l_check_question c_check_question k_check_question
  have b_check_question := F_check_question.binds (ps := ["store", "layout", "name", "rows"]) fun _ _ _ _ _ _ us hl => match us, hl with | [_, _, _, _], _ => rfl
  have F_who_know := fun_mk (st := s_who_know) l_who_know c_who_know k_who_know
  have b_who_know := F_who_know.binds (ps := ["store", "left", "name", "row"]) fun _ _ _ _ _ _ us hl => match us, hl with | [_, _, _, _], _ => rfl
  have F_one_round := fun_mk (st := s_one_round) l_one_round c_one_round k_one_round
  have b_one_round := F_one_round.binds (ps := ["store", "layout", "name", "rows", "left"]) fun _ _ _ _ _ _ us hl => match us, hl with | [_, _, _, _, _], _ => rfl
  have F_spoken := fun_mk (st := s_spoken) l_spoken c_spoken k_spoken
  have b_spoken := F_spoken.binds (ps := ["store", "layout", "name", "rows"]) fun _ _ _ _ _ _ us hl => match us, hl with | [_, _, _, _], _ => rfl
  have F_first_to_know := fun_mk (st := s_first_to_know) l_first_to_know c_first_to_know k_first_to_know
  have b_first_to_know := F_first_to_know.binds (ps := ["store", "layout", "name", "rows"]) fun _ _ _ _ _ _ us hl => match us, hl with | [_, _, _, _], _ => rfl
  have F_knows_first := fun_mk (st := s_knows_first) l_knows_first c_knows_first k_knows_first
  have b_knows_first := F_knows_first.binds (ps := ["store", "layout", "name", "ahead", "row"]) fun _ _ _ _ _ _ us hl => match us, hl with | [_, _, _, _, _], _ => rfl
  have F_needed_doors := fun_mk (st := s_needed_doors) l_needed_doors c_needed_doors k_needed_doors
  have b_needed_doors := F_needed_doors.binds (ps := ["store", "layout", "name", "rows", "person"]) fun _ _ _ _ _ _ us hl => match us, hl with | [_, _, _, _, _], _ => rfl
  have F__law_taken := fun_mk (st := s__law_taken) l__law_taken c__law_taken k__law_taken
  have b__law_taken := F__law_taken.binds (ps := ["_law_row", "_law_many"]) fun _ _ _ _ _ _ us hl => match us, hl with | [_, _], _ => rfl
  have F_law := fun_mk (st := s_law) l_law c_law k_law
  have F__law_told := fun_mk (st := s__law_told) l__law_told c__law_told k__law_told
  have b__law_told := F__law_told.binds (ps := ["_law_work"]) fun _ _ _ _ _ _ us hl => match us, hl with | [_], _ => rfl
  have F_m__len__ := fun_mk (st := s_Store___len__) l_m__len__ c_m__len__ k_m__len__
  have b_m__len__ := F_m__len__.binds (ps := ["self"]) fun _ _ _ _ _ _ us hl => match us, hl with | [_], _ => rfl
  have F_mplaces_of := fun_mk (st := s_Store_places_of) l_mplaces_of c_mplaces_of k_mplaces_of
  have b_mplaces_of := F_mplaces_of.binds (ps := ["self", "door"]) fun _ _ _ _ _ _ us hl => match us, hl with | [_, _], _ => rfl
  have F_m__init__ := fun_mk (st := s_Store___init__) l_m__init__ c_m__init__ k_m__init__
  have b_m__init__ := F_m__init__.binds (ps := ["self", "doors", "crates"]) fun _ _ _ _ _ _ us hl => match us, hl with | [_, _, _], _ => rfl
  have F_pcrates := fun_mk (st := s_Store_crates) l_pcrates c_pcrates k_pcrates
  have b_pcrates := F_pcrates.binds (ps := ["self"]) fun _ _ _ _ _ _ us hl => match us, hl with | [_], _ => rfl
  have F_psize := fun_mk (st := s_Store_size) l_psize c_psize k_psize
  have b_psize := F_psize.binds (ps := ["self"]) fun _ _ _ _ _ _ us hl => match us, hl with | [_], _ => rfl
  have hE_InvalidLayout : EAf e_InvalidLayout e_InvalidNumber e_InvalidRows e_InvalidStore e_UnknownCrate e_UnknownDoor "InvalidLayout" = e_InvalidLayout := by unfold EAf; rw [if_pos rfl]
  have hE_InvalidNumber : EAf e_InvalidLayout e_InvalidNumber e_InvalidRows e_InvalidStore e_UnknownCrate e_UnknownDoor "InvalidNumber" = e_InvalidNumber := by unfold EAf; rw [if_neg (by decide), if_pos rfl]
  have hE_InvalidRows : EAf e_InvalidLayout e_InvalidNumber e_InvalidRows e_InvalidStore e_UnknownCrate e_UnknownDoor "InvalidRows" = e_InvalidRows := by unfold EAf; rw [if_neg (by decide), if_neg (by decide), if_pos rfl]
  have hE_InvalidStore : EAf e_InvalidLayout e_InvalidNumber e_InvalidRows e_InvalidStore e_UnknownCrate e_UnknownDoor "InvalidStore" = e_InvalidStore := by unfold EAf; rw [if_neg (by decide), if_neg (by decide), if_neg (by decide), if_pos rfl]
  have hE_UnknownCrate : EAf e_InvalidLayout e_InvalidNumber e_InvalidRows e_InvalidStore e_UnknownCrate e_UnknownDoor "UnknownCrate" = e_UnknownCrate := by unfold EAf; rw [if_neg (by decide), if_neg (by decide), if_neg (by decide), if_neg (by decide), if_pos rfl]
  have hE_UnknownDoor : EAf e_InvalidLayout e_InvalidNumber e_InvalidRows e_InvalidStore e_UnknownCrate e_UnknownDoor "UnknownDoor" = e_UnknownDoor := by unfold EAf; rw [if_neg (by decide), if_neg (by decide), if_neg (by decide), if_neg (by decide), if_neg (by decide), if_pos rfl]
  have hF_InvalidRows : FIf fI_InvalidRows fI_InvalidStore "InvalidRows" = fI_InvalidRows := by unfold FIf; rw [if_pos rfl]
  have hG_InvalidRows : EFf "InvalidRows" = (["index"] : List Str) := by unfold EFf; rw [if_pos rfl]
  have hF_InvalidStore : FIf fI_InvalidRows fI_InvalidStore "InvalidStore" = fI_InvalidStore := by unfold FIf; rw [if_neg (by decide), if_pos rfl]
  have hG_InvalidStore : EFf "InvalidStore" = (["part"] : List Str) := by unfold EFf; rw [if_neg (by decide), if_pos rfl]
  letI iPW : PW := ⟨w⟩
  have TXX : ∀ (S : Addr × List Int) (r : Addr), Tx pwK w K mg C (lamB K (CT C) (CL C) (fun x => some (EAf e_InvalidLayout e_InvalidNumber e_InvalidRows e_InvalidStore e_UnknownCrate e_UnknownDoor x)) EFf S r P0 qLam) (EAf e_InvalidLayout e_InvalidNumber e_InvalidRows e_InvalidStore e_UnknownCrate e_UnknownDoor) (FIf fI_InvalidRows fI_InvalidStore) := fun S r => { b_all := (PySem.W.mg_none_of X G z_all), b_bool := (PySem.W.mg_none_of X G z_bool), b_enumerate := (PySem.W.mg_none_of X G z_enumerate), b_int := (PySem.W.mg_none_of X G z_int), b_isinstance := (PySem.W.mg_none_of X G z_isinstance), b_len := (PySem.W.mg_none_of X G z_len), b_list := (PySem.W.mg_none_of X G z_list), b_min := (PySem.W.mg_none_of X G z_min), b_range := (PySem.W.mg_none_of X G z_range), b_sorted := (PySem.W.mg_none_of X G z_sorted), b_str := (PySem.W.mg_none_of X G z_str), b_sum := (PySem.W.mg_none_of X G z_sum), b_tuple := (PySem.W.mg_none_of X G z_tuple), b_zip := (PySem.W.mg_none_of X G z_zip), m_LETTERS := ⟨_, (PySem.W.mg_of X G v_LETTERS), ⟨_, rfl⟩⟩, m_LONGEST_WORD := ⟨_, (PySem.W.mg_of X G v_LONGEST_WORD), ⟨_, rfl⟩⟩, m_MOST_BEHIND := ⟨_, (PySem.W.mg_of X G v_MOST_BEHIND), ⟨_, rfl⟩⟩, m_MOST_CRATES := ⟨_, (PySem.W.mg_of X G v_MOST_CRATES), ⟨_, rfl⟩⟩, m_MOST_DOORS := ⟨_, (PySem.W.mg_of X G v_MOST_DOORS), ⟨_, rfl⟩⟩, m_MOST_PEOPLE := ⟨_, (PySem.W.mg_of X G v_MOST_PEOPLE), ⟨_, rfl⟩⟩, m_MOST_PLACES := ⟨_, (PySem.W.mg_of X G v_MOST_PLACES), ⟨_, rfl⟩⟩, m_MOST_WARMTH := ⟨_, (PySem.W.mg_of X G v_MOST_WARMTH), ⟨_, rfl⟩⟩, cls := ⟨s_pg, s_hd, s_po, s_sa⟩, hp := fun ns C' h e => (Option.some.inj ((if_pos h).symm.trans (show (if stP ns = true then some C else _) = some C' from e))).symm, hcp := fun ns h => if_pos h, cls0 := rfl, n_places := s_nplaces, n_size := s_nsize, n_doors := s_ndoors, n_crates := s_ncrates, g_Store := ⟨_, (PySem.W.mg_of X G a_Store), rfl⟩, isi := ⟨s_cl, g_cl, g_tk, s_mo⟩, x_InvalidLayout := by rw [hE_InvalidLayout]; exact ⟨(PySem.W.mg_of X G a_InvalidLayout), q_InvalidLayout, kC_InvalidLayout, exC_InvalidLayout, tyC_InvalidLayout⟩, ea_InvalidLayout := rfl, x_InvalidNumber := by rw [hE_InvalidNumber]; exact ⟨(PySem.W.mg_of X G a_InvalidNumber), q_InvalidNumber, kC_InvalidNumber, exC_InvalidNumber, tyC_InvalidNumber⟩, ea_InvalidNumber := rfl, x_InvalidRows := by rw [hE_InvalidRows, hF_InvalidRows]; exact ⟨(PySem.W.mg_of X G a_InvalidRows), SI_InvalidRows⟩, ef_InvalidRows := hG_InvalidRows, ea_InvalidRows := rfl, x_InvalidStore := by rw [hE_InvalidStore, hF_InvalidStore]; exact ⟨(PySem.W.mg_of X G a_InvalidStore), SI_InvalidStore⟩, ef_InvalidStore := hG_InvalidStore, ea_InvalidStore := rfl, x_UnknownCrate := by rw [hE_UnknownCrate]; exact ⟨(PySem.W.mg_of X G a_UnknownCrate), q_UnknownCrate, kC_UnknownCrate, exC_UnknownCrate, tyC_UnknownCrate⟩, ea_UnknownCrate := rfl, x_UnknownDoor := by rw [hE_UnknownDoor]; exact ⟨(PySem.W.mg_of X G a_UnknownDoor), q_UnknownDoor, kC_UnknownDoor, exC_UnknownDoor, tyC_UnknownDoor⟩, ea_UnknownDoor := rfl, h_InvalidLayout := by rw [hE_InvalidLayout]; exact (PySem.W.mg_of X G a_InvalidLayout), xm_InvalidLayout := (fun c hc A hA => by cases hA; simp only [errNames, List.mem_cons, List.not_mem_nil, or_false] at hc; rcases hc with rfl | rfl | rfl | rfl | rfl | rfl <;> first | (rw [hE_InvalidLayout]; (try rw [hE_InvalidLayout]); exact xm_InvalidLayout_InvalidLayout) | (rw [hE_InvalidNumber]; (try rw [hE_InvalidLayout]); exact xm_InvalidLayout_InvalidNumber) | (rw [hE_InvalidRows]; (try rw [hE_InvalidLayout]); exact xm_InvalidLayout_InvalidRows) | (rw [hE_InvalidStore]; (try rw [hE_InvalidLayout]); exact xm_InvalidLayout_InvalidStore) | (rw [hE_UnknownCrate]; (try rw [hE_InvalidLayout]); exact xm_InvalidLayout_UnknownCrate) | (rw [hE_UnknownDoor]; (try rw [hE_InvalidLayout]); exact xm_InvalidLayout_UnknownDoor)), h_InvalidNumber := by rw [hE_InvalidNumber]; exact (PySem.W.mg_of X G a_InvalidNumber), xm_InvalidNumber := (fun c hc A hA => by cases hA; simp only [errNames, List.mem_cons, List.not_mem_nil, or_false] at hc; rcases hc with rfl | rfl | rfl | rfl | rfl | rfl <;> first | (rw [hE_InvalidLayout]; (try rw [hE_InvalidNumber]); exact xm_InvalidNumber_InvalidLayout) | (rw [hE_InvalidNumber]; (try rw [hE_InvalidNumber]); exact xm_InvalidNumber_InvalidNumber) | (rw [hE_InvalidRows]; (try rw [hE_InvalidNumber]); exact xm_InvalidNumber_InvalidRows) | (rw [hE_InvalidStore]; (try rw [hE_InvalidNumber]); exact xm_InvalidNumber_InvalidStore) | (rw [hE_UnknownCrate]; (try rw [hE_InvalidNumber]); exact xm_InvalidNumber_UnknownCrate) | (rw [hE_UnknownDoor]; (try rw [hE_InvalidNumber]); exact xm_InvalidNumber_UnknownDoor)), h_InvalidRows := by rw [hE_InvalidRows]; exact (PySem.W.mg_of X G a_InvalidRows), xm_InvalidRows := (fun c hc A hA => by cases hA; simp only [errNames, List.mem_cons, List.not_mem_nil, or_false] at hc; rcases hc with rfl | rfl | rfl | rfl | rfl | rfl <;> first | (rw [hE_InvalidLayout]; (try rw [hE_InvalidRows]); exact xm_InvalidRows_InvalidLayout) | (rw [hE_InvalidNumber]; (try rw [hE_InvalidRows]); exact xm_InvalidRows_InvalidNumber) | (rw [hE_InvalidRows]; (try rw [hE_InvalidRows]); exact xm_InvalidRows_InvalidRows) | (rw [hE_InvalidStore]; (try rw [hE_InvalidRows]); exact xm_InvalidRows_InvalidStore) | (rw [hE_UnknownCrate]; (try rw [hE_InvalidRows]); exact xm_InvalidRows_UnknownCrate) | (rw [hE_UnknownDoor]; (try rw [hE_InvalidRows]); exact xm_InvalidRows_UnknownDoor)), xr_InvalidRows := by rw [hE_InvalidRows]; exact ⟨xg_InvalidRows, xa_InvalidRows, exC_InvalidRows, xh_InvalidRows⟩, xn_InvalidRows_index := by rw [hE_InvalidRows]; exact no_InvalidRows, h_UnknownCrate := by rw [hE_UnknownCrate]; exact (PySem.W.mg_of X G a_UnknownCrate), xm_UnknownCrate := (fun c hc A hA => by cases hA; simp only [errNames, List.mem_cons, List.not_mem_nil, or_false] at hc; rcases hc with rfl | rfl | rfl | rfl | rfl | rfl <;> first | (rw [hE_InvalidLayout]; (try rw [hE_UnknownCrate]); exact xm_UnknownCrate_InvalidLayout) | (rw [hE_InvalidNumber]; (try rw [hE_UnknownCrate]); exact xm_UnknownCrate_InvalidNumber) | (rw [hE_InvalidRows]; (try rw [hE_UnknownCrate]); exact xm_UnknownCrate_InvalidRows) | (rw [hE_InvalidStore]; (try rw [hE_UnknownCrate]); exact xm_UnknownCrate_InvalidStore) | (rw [hE_UnknownCrate]; (try rw [hE_UnknownCrate]); exact xm_UnknownCrate_UnknownCrate) | (rw [hE_UnknownDoor]; (try rw [hE_UnknownCrate]); exact xm_UnknownCrate_UnknownDoor)), hw := rfl }
  have hP : h.get? P0 = some { cls := Value.none, data := .fields #[] } := own c0 P0 _ _ _ _ _ _ l_law rfl rfl y_cd y_11
  refine ⟨PySem.W.fnOf "law" "law" (defArgs s_law) (defBody s_law) (defScope s_law) .none kV_law dc_law pm_law an_law (.ref c0) ct_law, [(c0, P0)], Mi.spLawP K P0, fun p hp => by rw [List.mem_singleton.mp hp]; exact hP, fun p hp => by rw [List.mem_singleton.mp hp]; exact y_no, fun p hp => by rw [List.mem_singleton.mp hp]; exact PySem.W.codeHd_of_K X y_hd, fun s u => .of_eq rfl, fun H a ns hl _ hH hS => ⟨a, ns, rfl, hS, hl, hH (c0, P0) (List.mem_singleton.mpr rfl), fun _ => rfl⟩, fun base _ _ tbs => ?_⟩
  have C_is_number : ∀ (S : Addr × List Int) (r : Addr), Cal pwK w K mg base CX0 1 "is_number" ["value", "low", "high"] (spC (lamB K (CT C) (CL C) (fun x => some (EAf e_InvalidLayout e_InvalidNumber e_InvalidRows e_InvalidStore e_UnknownCrate e_UnknownDoor x)) EFf S r P0 qLam) m_is_number) := fun S r => ⟨_, _, ok_is_number F_is_number (TXX S r) , (PySem.W.mg_of X G a_is_number), k_is_number, b_is_number⟩
  have C_check_number : ∀ (S : Addr × List Int) (r : Addr), Cal pwK w K mg base (L2.CX pwK w) 2 "check_number" ["value", "low", "high"] (spM (lamB K (CT C) (CL C) (fun x => some (EAf e_InvalidLayout e_InvalidNumber e_InvalidRows e_InvalidStore e_UnknownCrate e_UnknownDoor x)) EFf S r P0 qLam) m_check_number) := fun S r => ⟨_, _, ok_check_number F_check_number (TXX S r) (C_is_number S r), (PySem.W.mg_of X G a_check_number), k_check_number, b_check_number⟩
  have L_Store : ∀ (S : Addr × List Int) (r : Addr), LenC pwK w K mg base 1 C (spC (lamB K (CT C) (CL C) (fun x => some (EAf e_InvalidLayout e_InvalidNumber e_InvalidRows e_InvalidStore e_UnknownCrate e_UnknownDoor x)) EFf S r P0 qLam) m_Store___len__) := fun S r => ⟨_, _, ok_Store___len__ F_m__len__ (TXX S r) , b_m__len__, a_m__len__, i_m__len__⟩
  have C_is_word : ∀ (S : Addr × List Int) (r : Addr), Cal pwK w K mg base CX0 1 "is_word" ["value"] (spC (lamB K (CT C) (CL C) (fun x => some (EAf e_InvalidLayout e_InvalidNumber e_InvalidRows e_InvalidStore e_UnknownCrate e_UnknownDoor x)) EFf S r P0 qLam) m_is_word) := fun S r => ⟨_, _, ok_is_word F_is_word (TXX S r) , (PySem.W.mg_of X G a_is_word), k_is_word, b_is_word⟩
  have C_subsets : ∀ (S : Addr × List Int) (r : Addr), Cal pwK w K mg base CX0 14 "subsets" ["parts"] (spC (lamB K (CT C) (CL C) (fun x => some (EAf e_InvalidLayout e_InvalidNumber e_InvalidRows e_InvalidStore e_UnknownCrate e_UnknownDoor x)) EFf S r P0 qLam) (m_subsets 13)) := fun S r => ⟨_, _, ok_subsets F_subsets (TXX S r)  (PySem.W.mg_of X G a_subsets) k_subsets b_subsets 13, (PySem.W.mg_of X G a_subsets), k_subsets, b_subsets⟩
  have C_length_and_items : ∀ (S : Addr × List Int) (r : Addr), Cal pwK w K mg base CX0 1 "length_and_items" ["chosen"] (spC (lamB K (CT C) (CL C) (fun x => some (EAf e_InvalidLayout e_InvalidNumber e_InvalidRows e_InvalidStore e_UnknownCrate e_UnknownDoor x)) EFf S r P0 qLam) m_length_and_items) := fun S r => ⟨_, _, ok_length_and_items F_length_and_items (TXX S r) , (PySem.W.mg_of X G a_length_and_items), k_length_and_items, b_length_and_items⟩
  have C_is_door : ∀ (S : Addr × List Int) (r : Addr), Cal pwK w K mg base CX0 2 "is_door" ["value"] (spC (lamB K (CT C) (CL C) (fun x => some (EAf e_InvalidLayout e_InvalidNumber e_InvalidRows e_InvalidStore e_UnknownCrate e_UnknownDoor x)) EFf S r P0 qLam) m_is_door) := fun S r => ⟨_, _, ok_is_door F_is_door (TXX S r) (C_is_number S r), (PySem.W.mg_of X G a_is_door), k_is_door, b_is_door⟩
  have C_doors_fit : ∀ (S : Addr × List Int) (r : Addr), Cal pwK w K mg base CX0 3 "doors_fit" ["doors"] (spC (lamB K (CT C) (CL C) (fun x => some (EAf e_InvalidLayout e_InvalidNumber e_InvalidRows e_InvalidStore e_UnknownCrate e_UnknownDoor x)) EFf S r P0 qLam) m_doors_fit) := fun S r => ⟨_, _, ok_doors_fit F_doors_fit (TXX S r) (C_is_door S r), (PySem.W.mg_of X G a_doors_fit), k_doors_fit, b_doors_fit⟩
  have C_crates_fit : ∀ (S : Addr × List Int) (r : Addr), Cal pwK w K mg base CX0 2 "crates_fit" ["crates", "size"] (spC (lamB K (CT C) (CL C) (fun x => some (EAf e_InvalidLayout e_InvalidNumber e_InvalidRows e_InvalidStore e_UnknownCrate e_UnknownDoor x)) EFf S r P0 qLam) m_crates_fit) := fun S r => ⟨_, _, ok_crates_fit F_crates_fit (TXX S r) (C_is_word S r), (PySem.W.mg_of X G a_crates_fit), k_crates_fit, b_crates_fit⟩
  have C_places_behind : ∀ (S : Addr × List Int) (r : Addr), Cal pwK w K mg base CX0 1 "places_behind" ["doors"] (spC (lamB K (CT C) (CL C) (fun x => some (EAf e_InvalidLayout e_InvalidNumber e_InvalidRows e_InvalidStore e_UnknownCrate e_UnknownDoor x)) EFf S r P0 qLam) m_places_behind) := fun S r => ⟨_, _, ok_places_behind F_places_behind (TXX S r) , (PySem.W.mg_of X G a_places_behind), k_places_behind, b_places_behind⟩
  have M_crates : ∀ (S : Addr × List Int) (r : Addr), CPrp pwK w K mg base CX0 1 C "crates" (spC (lamB K (CT C) (CL C) (fun x => some (EAf e_InvalidLayout e_InvalidNumber e_InvalidRows e_InvalidStore e_UnknownCrate e_UnknownDoor x)) EFf S r P0 qLam) m_Store_crates) := fun S r => ⟨_, _, _, ⟨s_pg, s_hd, s_po, s_sa⟩, ⟨a_pcrates, g_pcrates, t_pcrates, _, e_pcrates⟩, ok_Store_crates F_pcrates (TXX S r) , b_pcrates⟩
  have M_size : ∀ (S : Addr × List Int) (r : Addr), CPrp pwK w K mg base CX0 1 C "size" (spC (lamB K (CT C) (CL C) (fun x => some (EAf e_InvalidLayout e_InvalidNumber e_InvalidRows e_InvalidStore e_UnknownCrate e_UnknownDoor x)) EFf S r P0 qLam) m_Store_size) := fun S r => ⟨_, _, _, ⟨s_pg, s_hd, s_po, s_sa⟩, ⟨a_psize, g_psize, t_psize, _, e_psize⟩, ok_Store_size F_psize (TXX S r) , b_psize⟩
  have C_arrangements : ∀ (S : Addr × List Int) (r : Addr), Cal pwK w K mg base CX0 14 "arrangements" ["names", "free"] (spC (lamB K (CT C) (CL C) (fun x => some (EAf e_InvalidLayout e_InvalidNumber e_InvalidRows e_InvalidStore e_UnknownCrate e_UnknownDoor x)) EFf S r P0 qLam) (m_arrangements 13)) := fun S r => ⟨_, _, ok_arrangements F_arrangements (TXX S r)  (PySem.W.mg_of X G a_arrangements) k_arrangements b_arrangements 13, (PySem.W.mg_of X G a_arrangements), k_arrangements, b_arrangements⟩
  have C_all_layouts : ∀ (S : Addr × List Int) (r : Addr), Cal pwK w K mg base CX0 15 "all_layouts" ["store"] (spC (lamB K (CT C) (CL C) (fun x => some (EAf e_InvalidLayout e_InvalidNumber e_InvalidRows e_InvalidStore e_UnknownCrate e_UnknownDoor x)) EFf S r P0 qLam) m_all_layouts) := fun S r => ⟨_, _, ok_all_layouts F_all_layouts (TXX S r) (M_crates S r) (M_size S r) (C_arrangements S r), (PySem.W.mg_of X G a_all_layouts), k_all_layouts, b_all_layouts⟩
  have C_is_layout : ∀ (S : Addr × List Int) (r : Addr), Cal pwK w K mg base CX0 3 "is_layout" ["store", "value"] (spC (lamB K (CT C) (CL C) (fun x => some (EAf e_InvalidLayout e_InvalidNumber e_InvalidRows e_InvalidStore e_UnknownCrate e_UnknownDoor x)) EFf S r P0 qLam) m_is_layout) := fun S r => ⟨_, _, ok_is_layout F_is_layout (TXX S r) (M_crates S r) (M_size S r), (PySem.W.mg_of X G a_is_layout), k_is_layout, b_is_layout⟩
  have C_check_layout : ∀ (S : Addr × List Int) (r : Addr), Cal pwK w K mg base (L2.CX pwK w) 4 "check_layout" ["store", "layout"] (spM (lamB K (CT C) (CL C) (fun x => some (EAf e_InvalidLayout e_InvalidNumber e_InvalidRows e_InvalidStore e_UnknownCrate e_UnknownDoor x)) EFf S r P0 qLam) m_check_layout) := fun S r => ⟨_, _, ok_check_layout F_check_layout (TXX S r) (C_is_layout S r), (PySem.W.mg_of X G a_check_layout), k_check_layout, b_check_layout⟩
  have C_check_crate : ∀ (S : Addr × List Int) (r : Addr), Cal pwK w K mg base (L2.CX pwK w) 3 "check_crate" ["store", "name"] (spM (lamB K (CT C) (CL C) (fun x => some (EAf e_InvalidLayout e_InvalidNumber e_InvalidRows e_InvalidStore e_UnknownCrate e_UnknownDoor x)) EFf S r P0 qLam) m_check_crate) := fun S r => ⟨_, _, ok_check_crate F_check_crate (TXX S r) (M_crates S r), (PySem.W.mg_of X G a_check_crate), k_check_crate, b_check_crate⟩
  have C_has_door : ∀ (S : Addr × List Int) (r : Addr), Cal pwK w K mg base CX0 3 "has_door" ["store", "door"] (spC (lamB K (CT C) (CL C) (fun x => some (EAf e_InvalidLayout e_InvalidNumber e_InvalidRows e_InvalidStore e_UnknownCrate e_UnknownDoor x)) EFf S r P0 qLam) m_has_door) := fun S r => ⟨_, _, ok_has_door F_has_door (TXX S r) (L_Store S r) (C_is_number S r), (PySem.W.mg_of X G a_has_door), k_has_door, b_has_door⟩
  have C_check_door : ∀ (S : Addr × List Int) (r : Addr), Cal pwK w K mg base (L2.CX pwK w) 4 "check_door" ["store", "door"] (spM (lamB K (CT C) (CL C) (fun x => some (EAf e_InvalidLayout e_InvalidNumber e_InvalidRows e_InvalidStore e_UnknownCrate e_UnknownDoor x)) EFf S r P0 qLam) m_check_door) := fun S r => ⟨_, _, ok_check_door F_check_door (TXX S r) (C_has_door S r), (PySem.W.mg_of X G a_check_door), k_check_door, b_check_door⟩
  have M_places_of : ∀ (S : Addr × List Int) (r : Addr), CMet pwK w K mg base (L2.CX pwK w) 5 C "places_of" ["self", "door"] (spM (lamB K (CT C) (CL C) (fun x => some (EAf e_InvalidLayout e_InvalidNumber e_InvalidRows e_InvalidStore e_UnknownCrate e_UnknownDoor x)) EFf S r P0 qLam) m_Store_places_of) := fun S r => ⟨_, _, ⟨s_pg, s_hd, s_po, s_sa⟩, ⟨a_mplaces_of, i_mplaces_of, k_mplaces_of⟩, ok_Store_places_of F_mplaces_of (TXX S r) (C_check_door S r), b_mplaces_of⟩
  have C_contents : ∀ (S : Addr × List Int) (r : Addr), Cal pwK w K mg base (L2.CX pwK w) 6 "contents" ["store", "layout", "door"] (spM (lamB K (CT C) (CL C) (fun x => some (EAf e_InvalidLayout e_InvalidNumber e_InvalidRows e_InvalidStore e_UnknownCrate e_UnknownDoor x)) EFf S r P0 qLam) m_contents) := fun S r => ⟨_, _, ok_contents F_contents (TXX S r) (M_places_of S r), (PySem.W.mg_of X G a_contents), k_contents, b_contents⟩
  have D_contents : ∀ (S : Addr × List Int) (r : Addr), Cal pwK w K mg base CX0 6 "contents" ["store", "layout", "door"] (spC (lamB K (CT C) (CL C) (fun x => some (EAf e_InvalidLayout e_InvalidNumber e_InvalidRows e_InvalidStore e_UnknownCrate e_UnknownDoor x)) EFf S r P0 qLam) m_contents) := fun S r => cal_calm (C_contents S r)
  have C_told_apart : ∀ (S : Addr × List Int) (r : Addr), Cal pwK w K mg base (L2.CX pwK w) 7 "told_apart" ["store", "left", "doors"] (spM (lamB K (CT C) (CL C) (fun x => some (EAf e_InvalidLayout e_InvalidNumber e_InvalidRows e_InvalidStore e_UnknownCrate e_UnknownDoor x)) EFf S r P0 qLam) m_told_apart) := fun S r => ⟨_, _, ok_told_apart F_told_apart (TXX S r) (D_contents S r), (PySem.W.mg_of X G a_told_apart), k_told_apart, b_told_apart⟩
  have C_check_question : ∀ (S : Addr × List Int) (r : Addr), Cal pwK w K mg base (L2.CX pwK w) 5 "check_question" ["store", "layout", "name", "rows"] (spM (lamB K (CT C) (CL C) (fun x => some (EAf e_InvalidLayout e_InvalidNumber e_InvalidRows e_InvalidStore e_UnknownCrate e_UnknownDoor x)) EFf S r P0 qLam) m_check_question) := fun S r => ⟨_, _, ok_check_question F_check_question (TXX S r) (C_check_crate S r) (C_check_layout S r) (C_has_door S r), (PySem.W.mg_of X G a_check_question), k_check_question, b_check_question⟩
  have C_who_know : ∀ (S : Addr × List Int) (r : Addr), Cal pwK w K mg base (L2.CX pwK w) 8 "who_know" ["store", "left", "name", "row"] (spM (lamB K (CT C) (CL C) (fun x => some (EAf e_InvalidLayout e_InvalidNumber e_InvalidRows e_InvalidStore e_UnknownCrate e_UnknownDoor x)) EFf S r P0 qLam) m_who_know) := fun S r => ⟨_, _, ok_who_know F_who_know (TXX S r) (C_told_apart S r), (PySem.W.mg_of X G a_who_know), k_who_know, b_who_know⟩
  have C_one_round : ∀ (S : Addr × List Int) (r : Addr), Cal pwK w K mg base (L2.CX pwK w) 9 "one_round" ["store", "layout", "name", "rows", "left"] (spM (lamB K (CT C) (CL C) (fun x => some (EAf e_InvalidLayout e_InvalidNumber e_InvalidRows e_InvalidStore e_UnknownCrate e_UnknownDoor x)) EFf S r P0 qLam) m_one_round) := fun S r => ⟨_, _, ok_one_round F_one_round (TXX S r) (C_who_know S r), (PySem.W.mg_of X G a_one_round), k_one_round, b_one_round⟩
  have C_spoken : ∀ (S : Addr × List Int) (r : Addr), Cal pwK w K mg base (L2.CX pwK w) 16 "spoken" ["store", "layout", "name", "rows"] (spM (lamB K (CT C) (CL C) (fun x => some (EAf e_InvalidLayout e_InvalidNumber e_InvalidRows e_InvalidStore e_UnknownCrate e_UnknownDoor x)) EFf S r P0 qLam) m_spoken) := fun S r => ⟨_, _, ok_spoken F_spoken (TXX S r) (C_all_layouts S r) (C_check_question S r) (C_one_round S r), (PySem.W.mg_of X G a_spoken), k_spoken, b_spoken⟩
  have C_first_to_know : ∀ (S : Addr × List Int) (r : Addr), Cal pwK w K mg base (L2.CX pwK w) 17 "first_to_know" ["store", "layout", "name", "rows"] (spM (lamB K (CT C) (CL C) (fun x => some (EAf e_InvalidLayout e_InvalidNumber e_InvalidRows e_InvalidStore e_UnknownCrate e_UnknownDoor x)) EFf S r P0 qLam) m_first_to_know) := fun S r => ⟨_, _, ok_first_to_know F_first_to_know (TXX S r) (C_spoken S r), (PySem.W.mg_of X G a_first_to_know), k_first_to_know, b_first_to_know⟩
  have C_knows_first : ∀ (S : Addr × List Int) (r : Addr), Cal pwK w K mg base (L2.CX pwK w) 16 "knows_first" ["store", "layout", "name", "ahead", "row"] (spM (lamB K (CT C) (CL C) (fun x => some (EAf e_InvalidLayout e_InvalidNumber e_InvalidRows e_InvalidStore e_UnknownCrate e_UnknownDoor x)) EFf S r P0 qLam) m_knows_first) := fun S r => ⟨_, _, ok_knows_first F_knows_first (TXX S r) (C_all_layouts S r) (C_one_round S r), (PySem.W.mg_of X G a_knows_first), k_knows_first, b_knows_first⟩
  have D_knows_first : ∀ (S : Addr × List Int) (r : Addr), Cal pwK w K mg base CX0 16 "knows_first" ["store", "layout", "name", "ahead", "row"] (spC (lamB K (CT C) (CL C) (fun x => some (EAf e_InvalidLayout e_InvalidNumber e_InvalidRows e_InvalidStore e_UnknownCrate e_UnknownDoor x)) EFf S r P0 qLam) m_knows_first) := fun S r => cal_calm (C_knows_first S r)
  have C_needed_doors : ∀ (S : Addr × List Int) (r : Addr), Cal pwK w K mg base (L2.CX pwK w) 17 "needed_doors" ["store", "layout", "name", "rows", "person"] (spM (lamB K (CT C) (CL C) (fun x => some (EAf e_InvalidLayout e_InvalidNumber e_InvalidRows e_InvalidStore e_UnknownCrate e_UnknownDoor x)) EFf S r P0 qLam) m_needed_doors) := fun S r => ⟨_, _, ok_needed_doors F_needed_doors (TXX S r) (L_Store S r) (D_knows_first S r) (C_check_number S r) (C_check_question S r) (C_length_and_items S r) (C_subsets S r), (PySem.W.mg_of X G a_needed_doors), k_needed_doors, b_needed_doors⟩
  have C__law_taken : ∀ (S : Addr × List Int) (r : Addr), Cal pwK w K mg base CX0 1 "_law_taken" ["_law_row", "_law_many"] (spTaken K) := fun S r => ⟨_, _, ok_taken F__law_taken ⟨(PySem.W.mg_none_of X G z_int), (PySem.W.mg_none_of X G z_len)⟩, (PySem.W.mg_of X G a__law_taken), k__law_taken, b__law_taken⟩
  have C_Store : ∀ (S : Addr × List Int) (r : Addr), CMk pwK w K mg base (L2.CX pwK w) 4 "Store" C ["self", "doors", "crates"] (spI (lamB K (CT C) (CL C) (fun x => some (EAf e_InvalidLayout e_InvalidNumber e_InvalidRows e_InvalidStore e_UnknownCrate e_UnknownDoor x)) EFf S r P0 qLam) C (m_Store___init__ C)) := fun S r => ⟨_, _, ⟨s_mk, a_m__init__, i_m__init__, s_kc⟩, ok_Store___init__ F_m__init__ (TXX S r) (C_crates_fit S r) (C_doors_fit S r) (C_places_behind S r), (PySem.W.mg_of X G a_Store), b_m__init__⟩
  have G__law_told : ∀ X2 : Cx, X2.K = K → X2.mg = mg → Taker X2 "_law_told" "_law_work" ["_law_work", "e"] f__law_told (defBody s__law_told) (defScope s__law_told) cd__law_told := fun X2 hK hm => ⟨by rw [hm]; exact (PySem.W.mg_of X G a__law_told), by rw [hK]; exact k__law_told, by rw [hK]; exact ⟨_, _, _, _, _, _, _, _, _, _, l__law_told, b__law_told⟩, by rw [hK]; exact c__law_told⟩
  exact ok_law (ct := CT C) (cls := CL C) (ea' := fun x => some (EAf e_InvalidLayout e_InvalidNumber e_InvalidRows e_InvalidStore e_UnknownCrate e_UnknownDoor x)) (ef := EFf) l_law c_law (tbs (c0, P0) (List.mem_singleton.mpr rfl)) G__law_told TXX C_Store C__law_taken C_first_to_know C_needed_doors C_spoken (law_pure C)
end My

open PySem PySem.W PyProof.Rows
set_option maxRecDepth 100000 in
set_option maxHeartbeats 0 in
theorem PySem.Challenge.cw_coldcrates_k35_speaking_rejected_holds : PySem.Challenge.rw_coldcrates_k35_speaking_rejected.Holds := by
  w_on; o_law; k_head; (case hw => w_witness2)
  k_fill
  refine LamX.walk_ofOwn (l := PySem.Challenge.rw_coldcrates_k35_speaking_rejected) (n := 63) (k := 20) (x := "_law_script") (CX := fun _ => L2.CX0) rfl (by decide) rfl ⟨rfl, by decide, by decide⟩ (by decide +kernel) (fun w h Y => PySem.W.km_in_of Y) ?F (fun _ _ _ _ _ z => z)
  case F =>
    intro w mg fa h Y KX G hmg own
    refine' My.all_mk KX G hmg own ?a_is_number ?l_is_number ?c_is_number ?k_is_number ?a_check_number ?l_check_number ?c_check_number ?k_check_number ?a_is_word ?l_is_word ?c_is_word ?k_is_word ?a_subsets ?l_subsets ?c_subsets ?k_subsets ?a_length_and_items ?l_length_and_items ?c_length_and_items ?k_length_and_items ?a_is_door ?l_is_door ?c_is_door ?k_is_door ?a_doors_fit ?l_doors_fit ?c_doors_fit ?k_doors_fit ?a_crates_fit ?l_crates_fit ?c_crates_fit ?k_crates_fit ?a_places_behind ?l_places_behind ?c_places_behind ?k_places_behind ?a_arrangements ?l_arrangements ?c_arrangements ?k_arrangements ?a_all_layouts ?l_all_layouts ?c_all_layouts ?k_all_layouts ?a_is_layout ?l_is_layout ?c_is_layout ?k_is_layout ?a_check_layout ?l_check_layout ?c_check_layout ?k_check_layout ?a_check_crate ?l_check_crate ?c_check_crate ?k_check_crate ?a_has_door ?l_has_door ?c_has_door ?k_has_door ?a_check_door ?l_check_door ?c_check_door ?k_check_door ?a_contents ?l_contents ?c_contents ?k_contents ?a_told_apart ?l_told_apart ?c_told_apart ?k_told_apart ?a_check_question ?l_check_question ?c_check_question ?k_check_question ?a_who_know ?l_who_know ?c_who_know ?k_who_know ?a_one_round ?l_one_round ?c_one_round ?k_one_round ?a_spoken ?l_spoken ?c_spoken ?k_spoken ?a_first_to_know ?l_first_to_know ?c_first_to_know ?k_first_to_know ?a_knows_first ?l_knows_first ?c_knows_first ?k_knows_first ?a_needed_doors ?l_needed_doors ?c_needed_doors ?k_needed_doors ?a__law_taken ?l__law_taken ?c__law_taken ?k__law_taken ?a_law ?l_law ?c_law ?k_law ?a__law_told ?l__law_told ?c__law_told ?k__law_told ?a_Store ?a_m__len__ ?i_m__len__ ?l_m__len__ ?c_m__len__ ?k_m__len__ ?a_mplaces_of ?i_mplaces_of ?l_mplaces_of ?c_mplaces_of ?k_mplaces_of ?a_m__init__ ?i_m__init__ ?l_m__init__ ?c_m__init__ ?k_m__init__ ?a_pcrates ?g_pcrates ?t_pcrates ?e_pcrates ?l_pcrates ?c_pcrates ?k_pcrates ?a_psize ?g_psize ?t_psize ?e_psize ?l_psize ?c_psize ?k_psize ?s_pg ?s_hd ?s_po ?s_sa ?s_mk ?s_kc ?s_nplaces ?s_nsize ?s_ndoors ?s_ncrates ?a_InvalidRows ?ob_InvalidRows ?sa_InvalidRows ?iC_InvalidRows ?tC_InvalidRows ?ve_InvalidRows ?slf_InvalidRows ?op_InvalidRows ?al_InvalidRows ?li_InvalidRows ?ci_InvalidRows ?cd_InvalidRows ?v2_InvalidRows ?fi_InvalidRows ?cc_InvalidRows ?no_InvalidRows ?kC_InvalidRows ?exC_InvalidRows ?tyC_InvalidRows ?a_InvalidStore ?ob_InvalidStore ?sa_InvalidStore ?iC_InvalidStore ?tC_InvalidStore ?ve_InvalidStore ?slf_InvalidStore ?op_InvalidStore ?al_InvalidStore ?li_InvalidStore ?ci_InvalidStore ?cd_InvalidStore ?v2_InvalidStore ?fi_InvalidStore ?cc_InvalidStore ?no_InvalidStore ?kC_InvalidStore ?exC_InvalidStore ?tyC_InvalidStore ?a_InvalidLayout ?kC_InvalidLayout ?exC_InvalidLayout ?tyC_InvalidLayout ?q_InvalidLayout ?a_InvalidNumber ?kC_InvalidNumber ?exC_InvalidNumber ?tyC_InvalidNumber ?q_InvalidNumber ?a_UnknownCrate ?kC_UnknownCrate ?exC_UnknownCrate ?tyC_UnknownCrate ?q_UnknownCrate ?a_UnknownDoor ?kC_UnknownDoor ?exC_UnknownDoor ?tyC_UnknownDoor ?q_UnknownDoor ?z_all ?z_bool ?z_enumerate ?z_int ?z_isinstance ?z_len ?z_list ?z_min ?z_range ?z_sorted ?z_str ?z_sum ?z_super ?z_tuple ?z_zip ?v_LETTERS ?v_LONGEST_WORD ?v_MOST_BEHIND ?v_MOST_CRATES ?v_MOST_DOORS ?v_MOST_PEOPLE ?v_MOST_PLACES ?v_MOST_WARMTH ?y_cd ?y_11 ?y_no ?y_hd ?s_cl ?g_cl ?g_tk ?s_mo ?xm_InvalidLayout_InvalidLayout ?xm_InvalidLayout_InvalidNumber ?xm_InvalidLayout_InvalidRows ?xm_InvalidLayout_InvalidStore ?xm_InvalidLayout_UnknownCrate ?xm_InvalidLayout_UnknownDoor ?xm_InvalidNumber_InvalidLayout ?xm_InvalidNumber_InvalidNumber ?xm_InvalidNumber_InvalidRows ?xm_InvalidNumber_InvalidStore ?xm_InvalidNumber_UnknownCrate ?xm_InvalidNumber_UnknownDoor ?xm_InvalidRows_InvalidLayout ?xm_InvalidRows_InvalidNumber ?xm_InvalidRows_InvalidRows ?xm_InvalidRows_InvalidStore ?xm_InvalidRows_UnknownCrate ?xm_InvalidRows_UnknownDoor ?xg_InvalidRows ?xa_InvalidRows ?xh_InvalidRows ?xm_UnknownCrate_InvalidLayout ?xm_UnknownCrate_InvalidNumber ?xm_UnknownCrate_InvalidRows ?xm_UnknownCrate_InvalidStore ?xm_UnknownCrate_UnknownCrate ?xm_UnknownCrate_UnknownDoor
    (case a_is_number => first | k_is | k_exc | rfl | kernel_rfl)
    (case l_is_number => first | k_is | k_exc | rfl | kernel_rfl)
    (case c_is_number => first | k_is | k_exc | rfl | kernel_rfl)
    (case k_is_number => first | k_is | k_exc | rfl | kernel_rfl)
    (case a_check_number => first | k_is | k_exc | rfl | kernel_rfl)
    (case l_check_number => first | k_is | k_exc | rfl | kernel_rfl)
    (case c_check_number => first | k_is | k_exc | rfl | kernel_rfl)
    (case k_check_number => first | k_is | k_exc | rfl | kernel_rfl)
    (case a_is_word => first | k_is | k_exc | rfl | kernel_rfl)
    (case l_is_word => first | k_is | k_exc | rfl | kernel_rfl)
    (case c_is_word => first | k_is | k_exc | rfl | kernel_rfl)
    (case k_is_word => first | k_is | k_exc | rfl | kernel_rfl)
    (case a_subsets => first | k_is | k_exc | rfl | kernel_rfl)
    (case l_subsets => first | k_is | k_exc | rfl | kernel_rfl)
    (case c_subsets => first | k_is | k_exc | rfl | kernel_rfl)
    (case k_subsets => first | k_is | k_exc | rfl | kernel_rfl)
    (case a_length_and_items => first | k_is | k_exc | rfl | kernel_rfl)
    (case l_length_and_items => first | k_is | k_exc | rfl | kernel_rfl)
    (case c_length_and_items => first | k_is | k_exc | rfl | kernel_rfl)
    (case k_length_and_items => first | k_is | k_exc | rfl | kernel_rfl)
    (case a_is_door => first | k_is | k_exc | rfl | kernel_rfl)
    (case l_is_door => first | k_is | k_exc | rfl | kernel_rfl)
    (case c_is_door => first | k_is | k_exc | rfl | kernel_rfl)
    (case k_is_door => first | k_is | k_exc | rfl | kernel_rfl)
    (case a_doors_fit => first | k_is | k_exc | rfl | kernel_rfl)
    (case l_doors_fit => first | k_is | k_exc | rfl | kernel_rfl)
    (case c_doors_fit => first | k_is | k_exc | rfl | kernel_rfl)
    (case k_doors_fit => first | k_is | k_exc | rfl | kernel_rfl)
    (case a_crates_fit => first | k_is | k_exc | rfl | kernel_rfl)
    (case l_crates_fit => first | k_is | k_exc | rfl | kernel_rfl)
    (case c_crates_fit => first | k_is | k_exc | rfl | kernel_rfl)
    (case k_crates_fit => first | k_is | k_exc | rfl | kernel_rfl)
    (case a_places_behind => first | k_is | k_exc | rfl | kernel_rfl)
    (case l_places_behind => first | k_is | k_exc | rfl | kernel_rfl)
    (case c_places_behind => first | k_is | k_exc | rfl | kernel_rfl)
    (case k_places_behind => first | k_is | k_exc | rfl | kernel_rfl)
    (case a_arrangements => first | k_is | k_exc | rfl | kernel_rfl)
    (case l_arrangements => first | k_is | k_exc | rfl | kernel_rfl)
    (case c_arrangements => first | k_is | k_exc | rfl | kernel_rfl)
    (case k_arrangements => first | k_is | k_exc | rfl | kernel_rfl)
    (case a_all_layouts => first | k_is | k_exc | rfl | kernel_rfl)
    (case l_all_layouts => first | k_is | k_exc | rfl | kernel_rfl)
    (case c_all_layouts => first | k_is | k_exc | rfl | kernel_rfl)
    (case k_all_layouts => first | k_is | k_exc | rfl | kernel_rfl)
    (case a_is_layout => first | k_is | k_exc | rfl | kernel_rfl)
    (case l_is_layout => first | k_is | k_exc | rfl | kernel_rfl)
    (case c_is_layout => first | k_is | k_exc | rfl | kernel_rfl)
    (case k_is_layout => first | k_is | k_exc | rfl | kernel_rfl)
    (case a_check_layout => first | k_is | k_exc | rfl | kernel_rfl)
    (case l_check_layout => first | k_is | k_exc | rfl | kernel_rfl)
    (case c_check_layout => first | k_is | k_exc | rfl | kernel_rfl)
    (case k_check_layout => first | k_is | k_exc | rfl | kernel_rfl)
    (case a_check_crate => first | k_is | k_exc | rfl | kernel_rfl)
    (case l_check_crate => first | k_is | k_exc | rfl | kernel_rfl)
    (case c_check_crate => first | k_is | k_exc | rfl | kernel_rfl)
    (case k_check_crate => first | k_is | k_exc | rfl | kernel_rfl)
    (case a_has_door => first | k_is | k_exc | rfl | kernel_rfl)
    (case l_has_door => first | k_is | k_exc | rfl | kernel_rfl)
    (case c_has_door => first | k_is | k_exc | rfl | kernel_rfl)
    (case k_has_door => first | k_is | k_exc | rfl | kernel_rfl)
    (case a_check_door => first | k_is | k_exc | rfl | kernel_rfl)
    (case l_check_door => first | k_is | k_exc | rfl | kernel_rfl)
    (case c_check_door => first | k_is | k_exc | rfl | kernel_rfl)
    (case k_check_door => first | k_is | k_exc | rfl | kernel_rfl)
    (case a_contents => first | k_is | k_exc | rfl | kernel_rfl)
    (case l_contents => first | k_is | k_exc | rfl | kernel_rfl)
    (case c_contents => first | k_is | k_exc | rfl | kernel_rfl)
    (case k_contents => first | k_is | k_exc | rfl | kernel_rfl)
    (case a_told_apart => first | k_is | k_exc | rfl | kernel_rfl)
    (case l_told_apart => first | k_is | k_exc | rfl | kernel_rfl)
    (case c_told_apart => first | k_is | k_exc | rfl | kernel_rfl)
    (case k_told_apart => first | k_is | k_exc | rfl | kernel_rfl)
    (case a_check_question => first | k_is | k_exc | rfl | kernel_rfl)
    (case l_check_question => first | k_is | k_exc | rfl | kernel_rfl)
    (case c_check_question => first | k_is | k_exc | rfl | kernel_rfl)
    (case k_check_question => first | k_is | k_exc | rfl | kernel_rfl)
    (case a_who_know => first | k_is | k_exc | rfl | kernel_rfl)
    (case l_who_know => first | k_is | k_exc | rfl | kernel_rfl)
    (case c_who_know => first | k_is | k_exc | rfl | kernel_rfl)
    (case k_who_know => first | k_is | k_exc | rfl | kernel_rfl)
    (case a_one_round => first | k_is | k_exc | rfl | kernel_rfl)
    (case l_one_round => first | k_is | k_exc | rfl | kernel_rfl)
    (case c_one_round => first | k_is | k_exc | rfl | kernel_rfl)
    (case k_one_round => first | k_is | k_exc | rfl | kernel_rfl)
    (case a_spoken => first | k_is | k_exc | rfl | kernel_rfl)
    (case l_spoken => first | k_is | k_exc | rfl | kernel_rfl)
    (case c_spoken => first | k_is | k_exc | rfl | kernel_rfl)
    (case k_spoken => first | k_is | k_exc | rfl | kernel_rfl)
    (case a_first_to_know => first | k_is | k_exc | rfl | kernel_rfl)
    (case l_first_to_know => first | k_is | k_exc | rfl | kernel_rfl)
    (case c_first_to_know => first | k_is | k_exc | rfl | kernel_rfl)
    (case k_first_to_know => first | k_is | k_exc | rfl | kernel_rfl)
    (case a_knows_first => first | k_is | k_exc | rfl | kernel_rfl)
    (case l_knows_first => first | k_is | k_exc | rfl | kernel_rfl)
    (case c_knows_first => first | k_is | k_exc | rfl | kernel_rfl)
    (case k_knows_first => first | k_is | k_exc | rfl | kernel_rfl)
    (case a_needed_doors => first | k_is | k_exc | rfl | kernel_rfl)
    (case l_needed_doors => first | k_is | k_exc | rfl | kernel_rfl)
    (case c_needed_doors => first | k_is | k_exc | rfl | kernel_rfl)
    (case k_needed_doors => first | k_is | k_exc | rfl | kernel_rfl)
    (case a__law_taken => first | k_is | k_exc | rfl | kernel_rfl)
    (case l__law_taken => first | k_is | k_exc | rfl | kernel_rfl)
    (case c__law_taken => first | k_is | k_exc | rfl | kernel_rfl)
    (case k__law_taken => first | k_is | k_exc | rfl | kernel_rfl)
    (case a_law => first | k_is | k_exc | rfl | kernel_rfl)
    (case l_law => first | k_is | k_exc | rfl | kernel_rfl)
    (case c_law => first | k_is | k_exc | rfl | kernel_rfl)
    (case k_law => first | k_is | k_exc | rfl | kernel_rfl)
    (case a__law_told => first | k_is | k_exc | rfl | kernel_rfl)
    (case l__law_told => first | k_is | k_exc | rfl | kernel_rfl)
    (case c__law_told => first | k_is | k_exc | rfl | kernel_rfl)
    (case k__law_told => first | k_is | k_exc | rfl | kernel_rfl)
    (case a_Store => first | k_is | k_exc | rfl | kernel_rfl)
    (case a_m__len__ => first | k_is | k_exc | rfl | kernel_rfl)
    (case i_m__len__ => first | k_is | k_exc | rfl | kernel_rfl)
    (case l_m__len__ => first | k_is | k_exc | rfl | kernel_rfl)
    (case c_m__len__ => first | k_is | k_exc | rfl | kernel_rfl)
    (case k_m__len__ => first | k_is | k_exc | rfl | kernel_rfl)
    (case a_mplaces_of => first | k_is | k_exc | rfl | kernel_rfl)
    (case i_mplaces_of => first | k_is | k_exc | rfl | kernel_rfl)
    (case l_mplaces_of => first | k_is | k_exc | rfl | kernel_rfl)
    (case c_mplaces_of => first | k_is | k_exc | rfl | kernel_rfl)
    (case k_mplaces_of => first | k_is | k_exc | rfl | kernel_rfl)
    (case a_m__init__ => first | k_is | k_exc | rfl | kernel_rfl)
    (case i_m__init__ => first | k_is | k_exc | rfl | kernel_rfl)
    (case l_m__init__ => first | k_is | k_exc | rfl | kernel_rfl)
    (case c_m__init__ => first | k_is | k_exc | rfl | kernel_rfl)
    (case k_m__init__ => first | k_is | k_exc | rfl | kernel_rfl)
    (case a_pcrates => first | k_is | k_exc | rfl | kernel_rfl)
    (case g_pcrates => first | k_is | k_exc | rfl | kernel_rfl)
    (case t_pcrates => first | k_is | k_exc | rfl | kernel_rfl)
    (case e_pcrates => first | k_is | k_exc | rfl | kernel_rfl)
    (case l_pcrates => first | k_is | k_exc | rfl | kernel_rfl)
    (case c_pcrates => first | k_is | k_exc | rfl | kernel_rfl)
    (case k_pcrates => first | k_is | k_exc | rfl | kernel_rfl)
    (case a_psize => first | k_is | k_exc | rfl | kernel_rfl)
    (case g_psize => first | k_is | k_exc | rfl | kernel_rfl)
    (case t_psize => first | k_is | k_exc | rfl | kernel_rfl)
    (case e_psize => first | k_is | k_exc | rfl | kernel_rfl)
    (case l_psize => first | k_is | k_exc | rfl | kernel_rfl)
    (case c_psize => first | k_is | k_exc | rfl | kernel_rfl)
    (case k_psize => first | k_is | k_exc | rfl | kernel_rfl)
    (case s_pg => first | k_is | k_exc | rfl | kernel_rfl)
    (case s_hd => first | k_is | k_exc | rfl | kernel_rfl)
    (case s_po => first | k_is | k_exc | rfl | kernel_rfl)
    (case s_sa => first | k_is | k_exc | rfl | kernel_rfl)
    (case s_mk => first | k_is | k_exc | rfl | kernel_rfl)
    (case s_kc => first | k_is | k_exc | rfl | kernel_rfl)
    (case s_nplaces => first | k_is | k_exc | rfl | kernel_rfl)
    (case s_nsize => first | k_is | k_exc | rfl | kernel_rfl)
    (case s_ndoors => first | k_is | k_exc | rfl | kernel_rfl)
    (case s_ncrates => first | k_is | k_exc | rfl | kernel_rfl)
    (case a_InvalidRows => first | k_is | k_exc | rfl | kernel_rfl)
    (case ob_InvalidRows => first | k_is | k_exc | rfl | kernel_rfl)
    (case sa_InvalidRows => first | k_is | k_exc | rfl | kernel_rfl)
    (case iC_InvalidRows => first | k_is | k_exc | rfl | kernel_rfl)
    (case tC_InvalidRows => first | k_is | k_exc | rfl | kernel_rfl)
    (case ve_InvalidRows => first | k_is | k_exc | rfl | kernel_rfl)
    (case slf_InvalidRows => first | k_is | k_exc | rfl | kernel_rfl)
    (case op_InvalidRows => first | k_is | k_exc | rfl | kernel_rfl)
    (case al_InvalidRows => first | k_is | k_exc | rfl | kernel_rfl)
    (case li_InvalidRows => first | k_is | k_exc | rfl | kernel_rfl)
    (case ci_InvalidRows => first | k_is | k_exc | rfl | kernel_rfl)
    (case cd_InvalidRows => first | k_is | k_exc | rfl | kernel_rfl)
    (case v2_InvalidRows => first | k_is | k_exc | rfl | kernel_rfl)
    (case fi_InvalidRows => first | k_is | k_exc | rfl | kernel_rfl)
    (case cc_InvalidRows => first | k_is | k_exc | rfl | kernel_rfl)
    (case no_InvalidRows => first | k_is | k_exc | rfl | kernel_rfl)
    (case kC_InvalidRows => first | k_is | k_exc | rfl | kernel_rfl)
    (case exC_InvalidRows => first | k_is | k_exc | rfl | kernel_rfl)
    (case tyC_InvalidRows => first | k_is | k_exc | rfl | kernel_rfl)
    (case a_InvalidStore => first | k_is | k_exc | rfl | kernel_rfl)
    (case ob_InvalidStore => first | k_is | k_exc | rfl | kernel_rfl)
    (case sa_InvalidStore => first | k_is | k_exc | rfl | kernel_rfl)
    (case iC_InvalidStore => first | k_is | k_exc | rfl | kernel_rfl)
    (case tC_InvalidStore => first | k_is | k_exc | rfl | kernel_rfl)
    (case ve_InvalidStore => first | k_is | k_exc | rfl | kernel_rfl)
    (case slf_InvalidStore => first | k_is | k_exc | rfl | kernel_rfl)
    (case op_InvalidStore => first | k_is | k_exc | rfl | kernel_rfl)
    (case al_InvalidStore => first | k_is | k_exc | rfl | kernel_rfl)
    (case li_InvalidStore => first | k_is | k_exc | rfl | kernel_rfl)
    (case ci_InvalidStore => first | k_is | k_exc | rfl | kernel_rfl)
    (case cd_InvalidStore => first | k_is | k_exc | rfl | kernel_rfl)
    (case v2_InvalidStore => first | k_is | k_exc | rfl | kernel_rfl)
    (case fi_InvalidStore => first | k_is | k_exc | rfl | kernel_rfl)
    (case cc_InvalidStore => first | k_is | k_exc | rfl | kernel_rfl)
    (case no_InvalidStore => first | k_is | k_exc | rfl | kernel_rfl)
    (case kC_InvalidStore => first | k_is | k_exc | rfl | kernel_rfl)
    (case exC_InvalidStore => first | k_is | k_exc | rfl | kernel_rfl)
    (case tyC_InvalidStore => first | k_is | k_exc | rfl | kernel_rfl)
    (case a_InvalidLayout => first | k_is | k_exc | rfl | kernel_rfl)
    (case kC_InvalidLayout => first | k_is | k_exc | rfl | kernel_rfl)
    (case exC_InvalidLayout => first | k_is | k_exc | rfl | kernel_rfl)
    (case tyC_InvalidLayout => first | k_is | k_exc | rfl | kernel_rfl)
    (case q_InvalidLayout => first | k_is | k_exc | rfl | kernel_rfl)
    (case a_InvalidNumber => first | k_is | k_exc | rfl | kernel_rfl)
    (case kC_InvalidNumber => first | k_is | k_exc | rfl | kernel_rfl)
    (case exC_InvalidNumber => first | k_is | k_exc | rfl | kernel_rfl)
    (case tyC_InvalidNumber => first | k_is | k_exc | rfl | kernel_rfl)
    (case q_InvalidNumber => first | k_is | k_exc | rfl | kernel_rfl)
    (case a_UnknownCrate => first | k_is | k_exc | rfl | kernel_rfl)
    (case kC_UnknownCrate => first | k_is | k_exc | rfl | kernel_rfl)
    (case exC_UnknownCrate => first | k_is | k_exc | rfl | kernel_rfl)
    (case tyC_UnknownCrate => first | k_is | k_exc | rfl | kernel_rfl)
    (case q_UnknownCrate => first | k_is | k_exc | rfl | kernel_rfl)
    (case a_UnknownDoor => first | k_is | k_exc | rfl | kernel_rfl)
    (case kC_UnknownDoor => first | k_is | k_exc | rfl | kernel_rfl)
    (case exC_UnknownDoor => first | k_is | k_exc | rfl | kernel_rfl)
    (case tyC_UnknownDoor => first | k_is | k_exc | rfl | kernel_rfl)
    (case q_UnknownDoor => first | k_is | k_exc | rfl | kernel_rfl)
    (case z_all => first | k_is | k_exc | rfl | kernel_rfl)
    (case z_bool => first | k_is | k_exc | rfl | kernel_rfl)
    (case z_enumerate => first | k_is | k_exc | rfl | kernel_rfl)
    (case z_int => first | k_is | k_exc | rfl | kernel_rfl)
    (case z_isinstance => first | k_is | k_exc | rfl | kernel_rfl)
    (case z_len => first | k_is | k_exc | rfl | kernel_rfl)
    (case z_list => first | k_is | k_exc | rfl | kernel_rfl)
    (case z_min => first | k_is | k_exc | rfl | kernel_rfl)
    (case z_range => first | k_is | k_exc | rfl | kernel_rfl)
    (case z_sorted => first | k_is | k_exc | rfl | kernel_rfl)
    (case z_str => first | k_is | k_exc | rfl | kernel_rfl)
    (case z_sum => first | k_is | k_exc | rfl | kernel_rfl)
    (case z_super => first | k_is | k_exc | rfl | kernel_rfl)
    (case z_tuple => first | k_is | k_exc | rfl | kernel_rfl)
    (case z_zip => first | k_is | k_exc | rfl | kernel_rfl)
    (case v_LETTERS => first | k_is | k_exc | rfl | kernel_rfl)
    (case v_LONGEST_WORD => first | k_is | k_exc | rfl | kernel_rfl)
    (case v_MOST_BEHIND => first | k_is | k_exc | rfl | kernel_rfl)
    (case v_MOST_CRATES => first | k_is | k_exc | rfl | kernel_rfl)
    (case v_MOST_DOORS => first | k_is | k_exc | rfl | kernel_rfl)
    (case v_MOST_PEOPLE => first | k_is | k_exc | rfl | kernel_rfl)
    (case v_MOST_PLACES => first | k_is | k_exc | rfl | kernel_rfl)
    (case v_MOST_WARMTH => first | k_is | k_exc | rfl | kernel_rfl)
    (case y_cd => first | k_is | k_exc | rfl | kernel_rfl)
    (case y_11 => first | k_is | k_exc | rfl | kernel_rfl)
    (case y_no => first | k_is | k_exc | rfl | kernel_rfl)
    (case y_hd => first | k_is | k_exc | rfl | kernel_rfl)
    (case s_cl => first | k_is | k_exc | rfl | kernel_rfl)
    (case g_cl => first | k_is | k_exc | rfl | kernel_rfl)
    (case g_tk => first | k_is | k_exc | rfl | kernel_rfl)
    (case s_mo => first | k_is | k_exc | rfl | kernel_rfl)
    (case xm_InvalidLayout_InvalidLayout => first | k_is | k_exc | rfl | kernel_rfl)
    (case xm_InvalidLayout_InvalidNumber => first | k_is | k_exc | rfl | kernel_rfl)
    (case xm_InvalidLayout_InvalidRows => first | k_is | k_exc | rfl | kernel_rfl)
    (case xm_InvalidLayout_InvalidStore => first | k_is | k_exc | rfl | kernel_rfl)
    (case xm_InvalidLayout_UnknownCrate => first | k_is | k_exc | rfl | kernel_rfl)
    (case xm_InvalidLayout_UnknownDoor => first | k_is | k_exc | rfl | kernel_rfl)
    (case xm_InvalidNumber_InvalidLayout => first | k_is | k_exc | rfl | kernel_rfl)
    (case xm_InvalidNumber_InvalidNumber => first | k_is | k_exc | rfl | kernel_rfl)
    (case xm_InvalidNumber_InvalidRows => first | k_is | k_exc | rfl | kernel_rfl)
    (case xm_InvalidNumber_InvalidStore => first | k_is | k_exc | rfl | kernel_rfl)
    (case xm_InvalidNumber_UnknownCrate => first | k_is | k_exc | rfl | kernel_rfl)
    (case xm_InvalidNumber_UnknownDoor => first | k_is | k_exc | rfl | kernel_rfl)
    (case xm_InvalidRows_InvalidLayout => first | k_is | k_exc | rfl | kernel_rfl)
    (case xm_InvalidRows_InvalidNumber => first | k_is | k_exc | rfl | kernel_rfl)
    (case xm_InvalidRows_InvalidRows => first | k_is | k_exc | rfl | kernel_rfl)
    (case xm_InvalidRows_InvalidStore => first | k_is | k_exc | rfl | kernel_rfl)
    (case xm_InvalidRows_UnknownCrate => first | k_is | k_exc | rfl | kernel_rfl)
    (case xm_InvalidRows_UnknownDoor => first | k_is | k_exc | rfl | kernel_rfl)
    (case xg_InvalidRows => first | k_is | k_exc | rfl | kernel_rfl)
    (case xa_InvalidRows => first | k_is | k_exc | rfl | kernel_rfl)
    (case xh_InvalidRows => first | k_is | k_exc | rfl | kernel_rfl)
    (case xm_UnknownCrate_InvalidLayout => first | k_is | k_exc | rfl | kernel_rfl)
    (case xm_UnknownCrate_InvalidNumber => first | k_is | k_exc | rfl | kernel_rfl)
    (case xm_UnknownCrate_InvalidRows => first | k_is | k_exc | rfl | kernel_rfl)
    (case xm_UnknownCrate_InvalidStore => first | k_is | k_exc | rfl | kernel_rfl)
    (case xm_UnknownCrate_UnknownCrate => first | k_is | k_exc | rfl | kernel_rfl)
    (case xm_UnknownCrate_UnknownDoor => first | k_is | k_exc | rfl | kernel_rfl)
