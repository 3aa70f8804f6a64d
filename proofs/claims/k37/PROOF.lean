import PyProof.Rows.All
import Wide.All
import OpenK.AllK
import Wide.FinOn
import HandS.ForMost
import HandS.ForExc
import HandS.IsInst
import HandS.Property
import HandS.OwnEq
import HandS.Wide
import HandS.TupAny
import HandS.Deep
import HandS.Zip
import HandS.Walk
import KE.KeyNested
import KE.KDictKeyed
import HandS.Conv
import KE.KExcSuper
import HandS.ExcInit
import HandS.ExcField
import HandS.ExcIs
import HandS.Lambda
import HandS.FStr
import HandS.ExcOwn
import PyProof.InstNe
import KE.KExcIs
import HandS.TupMul
import HandS.EndTab
import PyProof.StrBlock2
import HandS.NoneIn
import HandS.SortKw
import HandS.WideBits
import HandS.Style
import KE.DataMinMax
import HandS.Strs
import PyProof.EnumMake
import PyProof.Draws
import HandS.Set
import HandS.RaiseMore
import KE.SortData
import HandS.Text
import HandS.Replace
import HandS.DictComp
import HandS.Dict
import KE.GoesRaise
import KE.SortKeyHeap
import HandS.Flow
import HandS.Rev
import HandS.SetFor
import KE.DataFind
import KE.KDictWalk
import KE.KDictCopyH
import KE.KDictList
import KE.KDictSum
import KE.KDictPairs
import PyProof.P3In
import KE.DataMinKey
import HandS.SetBool
import HandS.CallLocal
import PySem.Challenge.RW_coldcrates_k37_plans_rejected
import HandS.EndOwn
import KE.KNestM
set_option Elab.async false
set_option linter.all false
set_option maxRecDepth 100000
set_option maxHeartbeats 8000000
namespace Cc
open PySem L2

inductive D where
  | non
  | bl (b : Bool)
  | int (i : Int)
  | str (x : Str)
  | lst (ds : List D)
  | tup (ds : List D)
  /-- a tuple that is known to have no dict of its own -/
  | ptup (ds : List D)
  | ob (C : Addr) (ns : List Str) (ds : List D)
  /-- a reference, nothing is said of what stands there -/
  | adr (a : Addr)
  /-- a dict whose keys are tuples -/
  | dct (w : World) (ks : List NestedKey) (ds : List D)
  /-- a dict whose keys are ints and texts -/
  | dks (ks : List Key) (ds : List D)
abbrev Fg := PySem.W.Frag
def PlO (o : Obj) : Prop := o.cls = .type "tuple" ∧ o.dict = none
def PlT (H : Hp) (p : Addr) (xs : List V) : Prop := ∃ o, PlO o ∧ H p = some (.frz o (.tup xs))
theorem PlT.sq {K : Fg} {H : Hp} {p : Addr} {xs : List V} (h : PlT H p xs) : SqT K H p xs := by
  obtain ⟨o, _, e⟩ := h
  exact .inl (.inr ⟨o, e⟩)
mutual
/-- the value is the key -/
inductive NkV (H : Hp) : NestedKey → V → Prop
  | none : NkV H .none .non
  | int (i : Int) : NkV H (.num i) (.int i)
  | text (x : Str) : NkV H (.text x) (.str x)
  | tup {b : Addr} {ks : List NestedKey} {vs : List V} : PlT H b vs → NkVs H ks vs → NkV H (.tup ks) (.ref b)
inductive NkVs (H : Hp) : List NestedKey → List V → Prop
  | nil : NkVs H [] []
  | cons {k : NestedKey} {v : V} {ks : List NestedKey} {vs : List V} : NkV H k v → NkVs H ks vs → NkVs H (k :: ks) (v :: vs)
end
mutual
theorem NkV.ext {H H' : Hp} (e : ∀ b ys, PlT H b ys → PlT H' b ys) : ∀ (k : NestedKey) (v : V), NkV H k v → NkV H' k v
  | .none, _, h => by cases h; exact .none
  | .num i, _, h => by cases h; exact .int i
  | .text x, _, h => by cases h; exact .text x
  | .tup ks, _, h => by
    cases h with
    | tup hb hk => exact .tup (e _ _ hb) (NkVs.ext e ks _ hk)
theorem NkVs.ext {H H' : Hp} (e : ∀ b ys, PlT H b ys → PlT H' b ys) : ∀ (ks : List NestedKey) (vs : List V), NkVs H ks vs → NkVs H' ks vs
  | [], _, h => by cases h; exact .nil
  | k :: ks, _, h => by
    cases h with
    | cons h1 h2 => exact .cons (NkV.ext e k _ h1) (NkVs.ext e ks _ h2)
end
abbrev Ent := NestedKey × Addr × Value
def ent (w : World) (x : Ent) : DictEntry := ⟨x.1.hash w, .ref x.2.1, x.2.2⟩
def DnO (a : Addr) (es : Array DictEntry) (ep : Nat) : HO := .ext fun h => (∃ o, h.get? a = some o ∧ o.ExactDict ∧ o.data = .dict es ep) ∧ es.size ≤ sizeLine ∧ (a == sysModules) = false
structure DnE (H : Hp) (w : World) (es : Array DictEntry) (xs : List Ent) (vs : List V) : Prop where
  es : es.toList = xs.map (ent w)
  nd : (xs.map (·.1)).Nodup
  key : ∀ x ∈ xs, NkV H x.1 (.ref x.2.1) ∧ x.1.depth ≤ 8
  val : Vals vs (xs.map (·.2.2))
theorem DnE.ext {H H' : Hp} {w : World} {es : Array DictEntry} {xs : List Ent} {vs : List V} (h : DnE H w es xs vs) (e : ∀ b ys, PlT H b ys → PlT H' b ys) : DnE H' w es xs vs := ⟨h.es, h.nd, fun x hx => ⟨NkV.ext e _ _ (h.key x hx).1, (h.key x hx).2⟩, h.val⟩
mutual
/-- the value v denotes the data d at the heap H -/
inductive Dn (K : Fg) (H : Hp) : V → D → Prop
  | non : Dn K H .non .non
  | bl (b : Bool) : Dn K H (.bl b) (.bl b)
  | int (i : Int) : Dn K H (.int i) (.int i)
  | str (x : Str) : Dn K H (.str x) (.str x)
  | lst {a : Addr} {xs : List V} {ds : List D} : H a = some (.lst xs) → Dns K H xs ds → Dn K H (.ref a) (.lst ds)
  | tup {a : Addr} {xs : List V} {ds : List D} : SqT K H a xs → Dns K H xs ds → Dn K H (.ref a) (.tup ds)
  | ptup {a : Addr} {xs : List V} {ds : List D} : PlT H a xs → Dns K H xs ds → Dn K H (.ref a) (.ptup ds)
  | ob {a C dx : Addr} {fs : List (Str × V)} {ns : List Str} {ds : List D} : H a = some (.ins C dx fs) → fs.map (·.1) = ns → Dns K H (fs.map (·.2)) ds → Dn K H (.ref a) (.ob C ns ds)
  | adr (a : Addr) : Dn K H (.ref a) (.adr a)
  | dct {a : Addr} {es : Array DictEntry} {ep : Nat} {w : World} {xs : List Ent} {ks : List NestedKey} {vs : List V} {ds : List D} : H a = some (DnO a es ep) → DnE H w es xs vs → ks = xs.map (·.1) → Dns K H vs ds → Dn K H (.ref a) (.dct w ks ds)
  | dks {a : Addr} {ks : List Key} {vs : List V} {ds : List D} : H a = some (.dK (ks.zip vs)) → ks.length = vs.length → Dns K H vs ds → Dn K H (.ref a) (.dks ks ds)
inductive Dns (K : Fg) (H : Hp) : List V → List D → Prop
  | nil : Dns K H [] []
  | cons {v : V} {vs : List V} {d : D} {ds : List D} : Dn K H v d → Dns K H vs ds → Dns K H (v :: vs) (d :: ds)
end
def immO : HO → Bool
  | .tup _ => true
  | .frz _ _ => true
  | .ins _ _ _ => true
  | _ => false
def Kp (H H' : Hp) : Prop := ∀ b o, H b = some o → immO o = true → H' b = some o
theorem Kp.refl (H : Hp) : Kp H H := fun _ _ h _ => h
theorem Kp.trans {H H1 H2 : Hp} (a : Kp H H1) (b : Kp H1 H2) : Kp H H2 := fun c o h i => b c o (a c o h i) i
theorem Kp.of {H H' : Hp} (e : Same H H') : Kp H H' := fun b o h _ => e b o h
theorem Kp.upd {H : Hp} {l : Addr} {u o : HO} (h : H l = some u) (hi : immO u = false) : Kp H (upd H l o) := fun b q e i => by
  rw [upd_ne]
  · exact e
  · rintro rfl
    rw [h] at e
    cases e
    rw [hi] at i
    cases i
def But (M : List Addr) (H H' : Hp) : Prop := ∀ b o, H b = some o → b ∉ M → H' b = some o
theorem But.refl (M : List Addr) (H : Hp) : But M H H := fun _ _ h _ => h
theorem But.trans {M : List Addr} {H H1 H2 : Hp} (a : But M H H1) (b : But M H1 H2) : But M H H2 := fun c o h i => b c o (a c o h i) i
theorem But.of {M : List Addr} {H H' : Hp} (e : Same H H') : But M H H' := fun b o h _ => e b o h
theorem But.same {H H' : Hp} (e : But [] H H') : Same H H' := fun b o h => e b o h (by simp)
theorem But.upd {M : List Addr} {H : Hp} {l : Addr} {o : HO} (h : l ∈ M) : But M H (upd H l o) := fun b u e n => by
  have hb : b ≠ l := by
    rintro rfl
    exact n h
  rw [upd_ne hb]
  exact e
theorem But.mono {M M' : List Addr} {H H' : Hp} (e : But M H H') (h : ∀ m ∈ M, m ∈ M') : But M' H H' := fun b o q n => e b o q fun z => n (h b z)
theorem But.kp {M : List Addr} {H H' : Hp} (e : But M H H') (hm : ∀ m ∈ M, ∀ o, H m = some o → immO o = false) : Kp H H' := fun b o h i => e b o h fun z => by
  rw [hm b z o h] at i
  cases i
theorem But.fresh {M : List Addr} {H H1 H2 : Hp} (e : Same H H1) (b : But M H1 H2) (hm : ∀ m ∈ M, H m = none) : Same H H2 := fun c o h => b c o (e c o h) fun z => by
  rw [hm c z] at h
  cases h
theorem Same.new {H : Hp} {p : Addr} {o : HO} (h : H p = none) : Same H (upd H p o) := fun a u e => by
  rw [upd_ne (ne_of_none e h)]
  exact e
theorem Same.mut {H H' : Hp} {p : Addr} {o : HO} (e : Same H H') (h : H p = none) : Same H (upd H' p o) := fun a u ha => by
  rw [upd_ne (ne_of_none ha h)]
  exact e a u ha
mutual
/-- no lists in it -/
def D.fix : D → Bool
  | .lst _ => false
  | .tup ds => D.fixs ds
  | .ptup ds => D.fixs ds
  | .ob _ _ ds => D.fixs ds
  | .dct _ _ _ => false
  | .dks _ _ => false
  | _ => true
def D.fixs : List D → Bool
  | [] => true
  | d :: ds => d.fix && D.fixs ds
end
theorem D.fixs_iff {ds : List D} : D.fixs ds = true ↔ ∀ d ∈ ds, d.fix = true := by
  induction ds with
  | nil => simp [D.fixs]
  | cons d ds ih => simp [D.fixs, ih]
section
variable {K : Fg} {H H' : Hp}
theorem kp_t (e : Kp H H') {a : Addr} {xs : List V} (h : SqT K H a xs) : SqT K H' a xs := by
  rcases h with (h | ⟨o, h⟩) | h
  · exact .inl (.inl (e _ _ h rfl))
  · exact .inl (.inr ⟨o, e _ _ h rfl⟩)
  · exact .inr h
theorem same_t (e : Same H H') {a : Addr} {xs : List V} (h : SqT K H a xs) : SqT K H' a xs := kp_t (.of e) h
theorem same_l (e : Same H H') {a : Addr} {xs : List V} (h : SqL K H a xs) : SqL K H' a xs := e.seq h
mutual
theorem Dn.kp (e : Kp H H') : ∀ (d : D) (v : V), d.fix = true → Dn K H v d → Dn K H' v d
  | .non, _, _, h => by cases h; exact .non
  | .bl b, _, _, h => by cases h; exact .bl b
  | .int i, _, _, h => by cases h; exact .int i
  | .str x, _, _, h => by cases h; exact .str x
  | .lst _, _, f, _ => by cases f
  | .tup ds, _, f, h => by
    cases h with
    | tup hs ha => exact .tup (kp_t e hs) (Dns.kp e ds _ f ha)
  | .ptup ds, _, f, h => by
    cases h with
    | ptup hs ha =>
      obtain ⟨o, po, h⟩ := hs
      exact .ptup ⟨o, po, e _ _ h rfl⟩ (Dns.kp e ds _ f ha)
  | .ob C ns ds, _, f, h => by
    cases h with
    | ob ho hn ha => exact .ob (e _ _ ho rfl) hn (Dns.kp e ds _ f ha)
  | .adr a, _, _, h => by cases h; exact .adr a
  | .dct _ _ _, _, f, _ => by cases f
  | .dks _ _, _, f, _ => by cases f
theorem Dns.kp (e : Kp H H') : ∀ (ds : List D) (vs : List V), D.fixs ds = true → Dns K H vs ds → Dns K H' vs ds
  | [], _, _, h => by cases h; exact .nil
  | d :: ds, _, f, h => by
    cases h with
    | cons h1 h2 =>
      have f' : d.fix = true ∧ D.fixs ds = true := by simpa [D.fixs] using f
      exact .cons (Dn.kp e d _ f'.1 h1) (Dns.kp e ds _ f'.2 h2)
end
mutual
theorem Dn.same (e : Same H H') : ∀ (d : D) (v : V), Dn K H v d → Dn K H' v d
  | .non, _, h => by cases h; exact .non
  | .bl b, _, h => by cases h; exact .bl b
  | .int i, _, h => by cases h; exact .int i
  | .str x, _, h => by cases h; exact .str x
  | .lst ds, _, h => by
    cases h with
    | lst hs ha => exact .lst (e _ _ hs) (Dns.same e ds _ ha)
  | .tup ds, _, h => by
    cases h with
    | tup hs ha => exact .tup (same_t e hs) (Dns.same e ds _ ha)
  | .ptup ds, _, h => by
    cases h with
    | ptup hs ha =>
      obtain ⟨o, po, h⟩ := hs
      exact .ptup ⟨o, po, e _ _ h⟩ (Dns.same e ds _ ha)
  | .ob C ns ds, _, h => by
    cases h with
    | ob ho hn ha => exact .ob (e _ _ ho) hn (Dns.same e ds _ ha)
  | .adr a, _, h => by cases h; exact .adr a
  | .dct w ks ds, _, h => by
    cases h with
    | dct h1 h2 h3 h4 => exact .dct (e _ _ h1) (h2.ext fun b ys ⟨o, po, q⟩ => ⟨o, po, e _ _ q⟩) h3 (Dns.same e ds _ h4)
  | .dks ks ds, _, h => by
    cases h with
    | dks h1 h2 h4 => exact .dks (e _ _ h1) h2 (Dns.same e ds _ h4)
theorem Dns.same (e : Same H H') : ∀ (ds : List D) (vs : List V), Dns K H vs ds → Dns K H' vs ds
  | [], _, h => by cases h; exact .nil
  | d :: ds, _, h => by
    cases h with
    | cons h1 h2 => exact .cons (Dn.same e d _ h1) (Dns.same e ds _ h2)
end
theorem Dn.up {v : V} {d : D} (h : Dn K H v d) (e : Same H H') : Dn K H' v d := Dn.same e d v h
theorem Dns.up {vs : List V} {ds : List D} (h : Dns K H vs ds) (e : Same H H') : Dns K H' vs ds := Dns.same e ds vs h
theorem Dn.keep {v : V} {d : D} (h : Dn K H v d) (e : Kp H H') (f : d.fix = true) : Dn K H' v d := Dn.kp e d v f h
theorem Dns.keep {vs : List V} {ds : List D} (h : Dns K H vs ds) (e : Kp H H') (f : D.fixs ds = true) : Dns K H' vs ds := Dns.kp e ds vs f h
theorem Dns.length : ∀ {vs : List V} {ds : List D}, Dns K H vs ds → vs.length = ds.length
  | _, _, .nil => rfl
  | _, _, .cons _ t => by simp [Dns.length t]
theorem Dns.app : ∀ {vs ws : List V} {ds es : List D}, Dns K H vs ds → Dns K H ws es → Dns K H (vs ++ ws) (ds ++ es)
  | _, _, _, _, .nil, h => h
  | _, _, _, _, .cons a t, h => .cons a (Dns.app t h)
theorem Dns.get : ∀ {vs : List V} {ds : List D} {i : Nat} {v : V}, Dns K H vs ds → vs[i]? = some v → ∃ d, ds[i]? = some d ∧ Dn K H v d
  | _, _, _, _, .nil, e => by simp at e
  | _, _, 0, _, .cons r _, e => by simp at e; subst e; exact ⟨_, rfl, r⟩
  | _, _, i + 1, x, .cons _ t, e => by
    obtain ⟨u, h1, h2⟩ := Dns.get (i := i) (v := x) t (by simpa using e)
    exact ⟨u, by simpa using h1, h2⟩
theorem Dns.getD : ∀ {vs : List V} {ds : List D} {i : Nat} {d : D}, Dns K H vs ds → ds[i]? = some d → ∃ v, vs[i]? = some v ∧ Dn K H v d
  | _, _, _, _, .nil, e => by simp at e
  | _, _, 0, _, .cons r _, e => by simp at e; subst e; exact ⟨_, rfl, r⟩
  | _, _, i + 1, x, .cons _ t, e => by
    obtain ⟨u, h1, h2⟩ := Dns.getD (i := i) (d := x) t (by simpa using e)
    exact ⟨u, by simpa using h1, h2⟩
theorem Dns.take : ∀ {vs : List V} {ds : List D} (n : Nat), Dns K H vs ds → Dns K H (vs.take n) (ds.take n)
  | _, _, 0, _ => .nil
  | _, _, _ + 1, .nil => .nil
  | _, _, n + 1, .cons r t => .cons r (Dns.take n t)
theorem Dns.drop : ∀ {vs : List V} {ds : List D} (n : Nat), Dns K H vs ds → Dns K H (vs.drop n) (ds.drop n)
  | _, _, 0, r => r
  | _, _, _ + 1, .nil => .nil
  | _, _, n + 1, .cons _ t => Dns.drop n t
theorem Dns.set {v : V} {d : D} (r : Dn K H v d) : ∀ {vs : List V} {ds : List D} (i : Nat), Dns K H vs ds → Dns K H (vs.set i v) (ds.set i d)
  | _, _, _, .nil => .nil
  | _, _, 0, .cons _ t => .cons r t
  | _, _, i + 1, .cons q t => .cons q (Dns.set r i t)
theorem Dns.of {α : Type} {f : α → V} {g : α → D} (h : ∀ a, Dn K H (f a) (g a)) : ∀ l : List α, Dns K H (l.map f) (l.map g)
  | [] => .nil
  | a :: l => .cons (h a) (Dns.of h l)
theorem Dns.one {v : V} {d : D} (h : Dn K H v d) : Dns K H [v] [d] := .cons h .nil

mutual
def D.py : D → PyData
  | .non => .none
  | .bl b => .bool b
  | .int i => .int i
  | .str x => .str x
  | .lst ds => .list (D.pys ds)
  | .tup ds => .tuple (D.pys ds)
  | .ptup ds => .tuple (D.pys ds)
  | .ob _ _ _ => .none
  | .adr _ => .none
  | .dct _ _ _ => .none
  | .dks _ _ => .none
def D.pys : List D → List PyData
  | [] => []
  | d :: ds => d.py :: D.pys ds
end
mutual
/-- no instances in it -/
def D.pl : D → Bool
  | .lst ds => D.pls ds
  | .tup ds => D.pls ds
  | .ptup ds => D.pls ds
  | .ob _ _ _ => false
  | .adr _ => false
  | .dct _ _ _ => false
  | .dks _ _ => false
  | _ => true
def D.pls : List D → Bool
  | [] => true
  | d :: ds => d.pl && D.pls ds
end
theorem D.pys_map : ∀ ds : List D, D.pys ds = ds.map D.py
  | [] => rfl
  | d :: ds => by rw [D.pys, D.pys_map ds]; rfl
mutual
theorem Dn.dp : ∀ (d : D) (v : V), d.pl = true → Dn K H v d → Dp K H v d.py
  | .non, _, _, h => by cases h; exact .non
  | .bl b, _, _, h => by cases h; exact .bl b
  | .int i, _, _, h => by cases h; exact .int i
  | .str x, _, _, h => by cases h; exact .str x
  | .lst ds, _, f, h => by
    cases h with
    | lst hs ha => exact .lst (SqL.of hs) (Dns.dps ds _ f ha)
  | .tup ds, _, f, h => by
    cases h with
    | tup hs ha => exact .tup hs (Dns.dps ds _ f ha)
  | .ptup ds, _, f, h => by
    cases h with
    | ptup hs ha => exact .tup hs.sq (Dns.dps ds _ f ha)
  | .ob C ns ds, _, f, h => by cases f
  | .adr _, _, f, _ => by cases f
  | .dct _ _ _, _, f, _ => by cases f
  | .dks _ _, _, f, _ => by cases f
theorem Dns.dps : ∀ (ds : List D) (vs : List V), D.pls ds = true → Dns K H vs ds → DpAll K H vs (D.pys ds)
  | [], _, _, h => by cases h; exact .nil
  | d :: ds, _, f, h => by
    cases h with
    | cons h1 h2 =>
      have f' : d.pl = true ∧ D.pls ds = true := by simpa [D.pls] using f
      exact .cons (Dn.dp d _ f'.1 h1) (Dns.dps ds _ f'.2 h2)
end
end
end Cc

namespace Cc
open PySem L2
def GD (K : Fg) (te : TE) (σ : L2.St) (H : Hp) (d : D) : Prop := ∀ H1, Same H H1 → ∀ Q : VK, (∀ v H2, Same H1 H2 → Dn K H2 v d → Q v H2) → te σ H1 Q
def GT (tt : TT) (σ : L2.St) (H : Hp) (b : Bool) : Prop := ∀ H1, Same H H1 → ∀ Q : Bool → Hp → Prop, (∀ H2, Same H1 H2 → Q b H2) → tt σ H1 Q
def GA (K : Fg) (ta : TA) (σ : L2.St) (H : Hp) (ds : List D) : Prop := ∀ H1, Same H H1 → ∀ Q : List V → Hp → Prop, (∀ vs H2, Same H1 H2 → Dns K H2 vs ds → Q vs H2) → ta σ H1 Q
def GN (K : Fg) (te : TE) (σ : L2.St) (H : Hp) (ds : List D) : Prop := ∀ H1, Same H H1 → ∀ Q : VK, (∀ p xs H2, H1 p = none → Same H1 H2 → H2 p = some (.lst xs) → Dns K H2 xs ds → Q (.ref p) H2) → te σ H1 Q
def GO (to : TO) (σ : L2.St) (H : Hp) (o : Option Int) : Prop := ∀ H1, Same H H1 → ∀ Q : Option Int → Hp → Prop, (∀ H2, Same H1 H2 → Q o H2) → to σ H1 Q
def R2D (K : Fg) (r : R2) (d e z : D) : Prop := ∀ x y H (Q : VK), Dn K H x d → Dn K H y e → (∀ v H2, Same H H2 → Dn K H2 v z → Q v H2) → r x y H Q
def R1D (K : Fg) (r : V → Hp → VK → Prop) (d z : D) : Prop := ∀ x H (Q : VK), Dn K H x d → (∀ v H2, Same H H2 → Dn K H2 v z → Q v H2) → r x H Q
def RCD (K : Fg) (r : List V → Hp → VK → Prop) (ds : List D) (z : D) : Prop := ∀ vs H (Q : VK), Dns K H vs ds → (∀ v H2, Same H H2 → Dn K H2 v z → Q v H2) → r vs H Q
section
variable {K : Fg} {σ : L2.St} {H H' : Hp} {ta tb te : TE} {t u : TT} {d e z : D} {r : R2}
theorem GD.mono (a : Same H H') (h : GD K te σ H d) : GD K te σ H' d := fun H1 b Q q => h H1 (a.trans b) Q q
theorem GT.mono {b : Bool} (a : Same H H') (h : GT t σ H b) : GT t σ H' b := fun H1 c Q q => h H1 (a.trans c) Q q
theorem GA.mono {ta : TA} {ds : List D} (a : Same H H') (h : GA K ta σ H ds) : GA K ta σ H' ds := fun H1 c Q q => h H1 (a.trans c) Q q
theorem GN.mono {ds : List D} (a : Same H H') (h : GN K te σ H ds) : GN K te σ H' ds := fun H1 c Q q => h H1 (a.trans c) Q q
theorem GD.is (h : GD K te σ H d) (q : d = e) : GD K te σ H e := q ▸ h
theorem GT.is {b c : Bool} (h : GT t σ H b) (q : b = c) : GT t σ H c := q ▸ h
theorem GN.is {ds es : List D} (h : GN K te σ H ds) (q : ds = es) : GN K te σ H es := q ▸ h
theorem gd_var {i : Nat} {v : V} (h : σ[i]? = some (some v)) (hd : Dn K H v d) : GD K (tVar i) σ H d := fun H1 a Q q => ⟨v, h, q v H1 (Same.refl _) (hd.up a)⟩
theorem gd_c {v : V} (h : Dn K H v d) : GD K (tC v) σ H d := fun H1 a Q q => q v H1 (Same.refl _) (h.up a)
theorem gd_i {i : Int} : GD K (tC (.int i)) σ H (.int i) := gd_c (.int i)
theorem gd_op (ha : GD K ta σ H d) (hb : GD K tb σ H e) (hr : R2D K r d e z) : GD K (tOp r ta tb) σ H z := fun H1 a Q q =>
  ha H1 a _ fun x H2 a2 hx => hb H2 (a.trans a2) _ fun y H3 a3 hy => hr x y H3 Q (hx.up a3) hy fun v H4 a4 hv => q v H4 ((a2.trans a3).trans a4) hv
theorem ga_nil : GA K tNil σ H [] := fun H1 _ Q q => q [] H1 (Same.refl _) .nil
theorem ga_cons {tr : TA} {ds : List D} (ha : GD K ta σ H d) (hr : GA K tr σ H ds) : GA K (tCons ta tr) σ H (d :: ds) := fun H1 a Q q =>
  ha H1 a _ fun x H2 a2 hx => hr H2 (a.trans a2) _ fun xs H3 a3 hxs => q _ H3 (a2.trans a3) (.cons (hx.up a3) hxs)
theorem ga1 (ha : GD K ta σ H d) : GA K (tCons ta tNil) σ H [d] := ga_cons ha ga_nil
theorem gd_cb {r : List V → Hp → VK → Prop} {ta : TA} {ds : List D} (ha : GA K ta σ H ds) (hr : RCD K r ds z) : GD K (tCB r ta) σ H z := fun H1 a Q q =>
  ha H1 a _ fun x H2 a2 hx => hr x H2 Q hx fun v H4 a4 hv => q v H4 (a2.trans a4) hv
theorem gn_lst {ta : TA} {ds : List D} (ha : GA K ta σ H ds) (hl : ds.length ≤ 100000) : GN K (tLst ta) σ H ds := fun H1 a Q q =>
  ha H1 a _ fun x H2 a2 hx => ⟨by rw [hx.length, sizeLine_eq]; omega, fun p hp => q p x _ (a2.free hp) (a2.trans (Same.new hp)) upd_same (hx.up (Same.new hp))⟩
theorem gt_test {b : Bool} (h : GD K te σ H (.bl b)) : GT (tTest te) σ H b := fun H1 a Q q => h H1 a _ fun v H2 a2 hv => by
  cases hv
  exact ⟨b, rfl, q H2 a2⟩
theorem gt_and {a b : Bool} (h1 : GT t σ H a) (h2 : a = true → GT u σ H b) : GT (tAnd t u) σ H (a && b) := fun H1 c Q q => h1 H1 c _ fun H2 c2 => by
  cases a with
  | true => exact (if_pos rfl).mpr (h2 rfl H2 (c.trans c2) Q fun H3 c3 => q H3 (c2.trans c3))
  | false => exact (if_neg Bool.false_ne_true).mpr (q H2 c2)
theorem gt_or {a b : Bool} (h1 : GT t σ H a) (h2 : a = false → GT u σ H b) : GT (tOr t u) σ H (a || b) := fun H1 c Q q => h1 H1 c _ fun H2 c2 => by
  cases a with
  | true => exact (if_pos rfl).mpr (q H2 c2)
  | false => exact (if_neg Bool.false_ne_true).mpr (h2 rfl H2 (c.trans c2) Q fun H3 c3 => q H3 (c2.trans c3))
theorem gt_not {a : Bool} (h1 : GT t σ H a) : GT (tNot t) σ H (!a) := fun H1 c Q q => h1 H1 c _ fun H2 c2 => q H2 c2
theorem r_int {g : Int → Int → Int} {i j : Int} : R2D K (rI0 fun i j => .int (g i j)) (.int i) (.int j) (.int (g i j)) := fun x y H Q hx hy q => by
  cases hx; cases hy
  exact ⟨i, j, rfl, rfl, q _ H (Same.refl _) (.int _)⟩
theorem r_intB {g : Int → Int → Bool} {i j : Int} : R2D K (rI0 fun i j => .bl (g i j)) (.int i) (.int j) (.bl (g i j)) := fun x y H Q hx hy q => by
  cases hx; cases hy
  exact ⟨i, j, rfl, rfl, q _ H (Same.refl _) (.bl _)⟩
theorem r_intC {C : Int → Int → Prop} {g : Int → Int → Int} {i j : Int} (hc : C i j) : R2D K (rI C fun i j => .int (g i j)) (.int i) (.int j) (.int (g i j)) := fun x y H Q hx hy q => by
  cases hx; cases hy
  exact ⟨i, j, rfl, rfl, hc, q _ H (Same.refl _) (.int _)⟩
def D.eqv (d e : D) : Bool := PyData.eqv d.py e.py
def D.shp (d : D) : Bool := SeqAt.shaped d.py
theorem r_eq (p1 : d.pl = true) (p2 : e.pl = true) (s1 : d.shp = true) (s2 : e.shp = true) : R2D K (rEqD K) d e (.bl (d.eqv e)) := fun x y H Q hx hy q =>
  ⟨d.py, e.py, hx.dp d x p1, hy.dp e y p2, s1, s2, q _ H (Same.refl _) (.bl _)⟩
theorem r_ne (p1 : d.pl = true) (p2 : e.pl = true) (s1 : d.shp = true) (s2 : e.shp = true) : R2D K (rNeD K) d e (.bl (!d.eqv e)) := fun x y H Q hx hy q =>
  ⟨d.py, e.py, hx.dp d x p1, hy.dp e y p2, s1, s2, q _ H (Same.refl _) (.bl _)⟩
theorem r_isN : R2D K (fun x y H Q => y = .non ∧ Q (.bl (decide (x = .non))) H) d .non (.bl (match d with | .non => true | _ => false)) := fun x y H Q hx hy q => by
  cases hy
  refine ⟨rfl, q _ H (Same.refl _) ?_⟩
  cases hx <;> first | exact .bl _ | (simp; exact .bl _)
theorem Dns.rep {H : Hp} {vs : List V} {ds : List D} (h : Dns K H vs ds) : ∀ k : Nat, Dns K H (List.replicate k vs).flatten (List.replicate k ds).flatten
  | 0 => .nil
  | k + 1 => by
    rw [List.replicate_succ, List.replicate_succ, List.flatten_cons, List.flatten_cons]
    exact h.app (Dns.rep h k)
end
end Cc

namespace Cc
open PySem L2
section
variable {K : Fg} {σ : L2.St} {H H' : Hp} {ta tb te : TE} {t u : TT} {d e z : D} {r : R2} {E : Ends} {tu tw tz : TS}
theorem s_asg {i : Nat} (h : GD K te σ H d) (k : ∀ v H1, Same H H1 → Dn K H1 v d → E.nx (σ.set i (some v)) H1) : tAsg te (gName i) E σ H := h H (Same.refl _) _ fun v H1 e hv => k v H1 e hv
theorem s_ret (h : GD K te σ H d) (k : ∀ v H1, Same H H1 → Dn K H1 v d → E.rt v H1) : tRet te E σ H := h H (Same.refl _) _ fun v H1 e hv => k v H1 e hv
theorem s_if {b : Bool} (h : GT t σ H b) (h1 : b = true → ∀ H1, Same H H1 → tu E σ H1) (h2 : b = false → ∀ H1, Same H H1 → tw E σ H1) : tIfS t tu tw E σ H := h H (Same.refl _) _ fun H1 e => by
  cases b with
  | true => exact (if_pos rfl).mpr (h1 rfl H1 e)
  | false => exact (if_neg Bool.false_ne_true).mpr (h2 rfl H1 e)
theorem s_when {b : Bool} (h : GT t σ H b) (h1 : b = true → ∀ H1, Same H H1 → tu E σ H1) (h2 : b = false → ∀ H1, Same H H1 → E.nx σ H1) : tIfS t tu tNext E σ H := s_if h h1 h2
theorem at_var {i : Nat} {v : V} (h : σ[i]? = some (some v)) : ∀ H1, Same H H1 → ∀ Q : VK, Q v H1 → tVar i σ H1 Q := fun H1 _ Q q => ⟨v, h, q⟩
def Ret (K : Fg) (d : D) (H : Hp) (Q : VK) : Prop := ∀ v H', Same H H' → Dn K H' v d → Q v H'
theorem Ret.up {Q : VK} (h : Ret K d H Q) (e : Same H H') : Ret K d H' Q := fun v H2 e2 hv => h v H2 (e.trans e2) hv
def GI (K : Fg) (M : List Addr) (wi : TI) (σ : L2.St) (H : Hp) (ds : List D) : Prop := ∀ R : It → Hp → Prop,
  (∀ (J : It) (G : Hp → Prop) (Y : Nat → Hp → V → Hp → Prop) (H2 : Hp), Same H H2 → Walk J ds.length G Y → (∀ H', But M H2 H' → G H') →
    (∀ i Ha x Hb, i < ds.length → But M H2 Ha → Y i Ha x Hb → Same Ha Hb ∧ ∃ d, ds[i]? = some d ∧ Dn K Hb x d) → R J H2) → wi σ H R
def Ls (M : List Addr) (H : Hp) : Prop := ∀ m ∈ M, ∃ xs, H m = some (.lst xs)
theorem Ls.kp {M : List Addr} {H1 : Hp} (h : Ls M H) (e : Same H H1) (b : But M H1 H') : Kp H1 H' := b.kp fun m hm o q => by
  obtain ⟨xs, hx⟩ := h m hm
  rw [e _ _ hx] at q
  cases q
  rfl
theorem gi_range1 {M : List Addr} {ta : TA} {n : Int} (h : GA K ta σ H [.int n]) (h0 : -(2 ^ 62) ≤ n) (hn : n < 2 ^ 62) : GI K M (iRng1 ta) σ H ((List.range n.toNat).map fun i => D.int (i : Nat)) := fun R q =>
  h H (Same.refl _) _ fun vs H2 e2 hv => by
    cases hv with
    | cons h1 h2 =>
      cases h2
      cases h1
      refine ⟨n, rfl, h0, hn, q _ (fun _ => True) (YFn fun i => .int (0 + i)) H2 e2 (by simpa using walk_range (lo := 0) (n := n.toNat)) (fun _ _ => True.intro) fun i Ha x Hb hi _ y => ?_⟩
      obtain ⟨e, y⟩ := y
      subst e y
      refine ⟨Same.refl _, .int (i : Nat), ?_, ?_⟩
      · have hi' : i < n.toNat := by simpa using hi
        simp [hi']
      · have e0 : (0 : Int) + (i : Nat) = (i : Nat) := Int.zero_add _
        show Dn K Hb (V.int (0 + (i : Nat))) _
        rw [e0]
        exact .int _
theorem gi_tup {M : List Addr} {tl : TE} {ds : List D} (h : GD K tl σ H (.tup ds)) (hM : Ls M H) (hf : D.fixs ds = true) : GI K M (iTup K tl) σ H ds := fun R q =>
  h H (Same.refl _) _ fun v H2 e2 hv => by
    cases hv with
    | @tup a xs ds hs ha =>
      refine ⟨a, rfl, ⟨xs, hs⟩, q _ _ _ H2 e2 (by rw [← ha.length]; exact walk_tup) (fun H' b => kp_t (hM.kp e2 b) hs) fun i Ha x Hb hi b y => ?_⟩
      obtain ⟨e, y⟩ := y
      subst e
      obtain ⟨d, h1, h2⟩ := ha.get y
      exact ⟨Same.refl _, d, h1, h2.keep (hM.kp e2 b) (D.fixs_iff.mp hf d (List.mem_of_getElem? h1))⟩
theorem gi_list {M : List Addr} {tl : TE} {ds : List D} {a : Addr} (h : ∀ Q : VK, Q (.ref a) H → tl σ H Q) (hd : Dn K H (.ref a) (.lst ds)) (ha : a ∉ M) (hM : Ls M H) (hf : D.fixs ds = true) : GI K M (iList K tl) σ H ds := fun R q =>
  h _ (by
    cases hd with
    | @lst a xs ds hs hx =>
      refine ⟨a, rfl, ⟨xs, SqL.of hs⟩, q _ _ _ H (Same.refl _) (by rw [← hx.length]; exact walk_list) (fun H' b => SqL.of (b _ _ hs ha)) fun i Ha x Hb hi b y => ?_⟩
      obtain ⟨e, y⟩ := y
      subst e
      obtain ⟨d, h1, h2⟩ := hx.get y
      exact ⟨Same.refl _, d, h1, h2.keep (hM.kp (Same.refl _) b) (D.fixs_iff.mp hf d (List.mem_of_getElem? h1))⟩)
def signs (x : Str) : List D := x.cps.toList.map fun c => D.str ⟨#[c]⟩
theorem gi_str {M : List Addr} {tl : TE} {x : Str} (h : GD K tl σ H (.str x)) : GI K M (iStr tl) σ H (signs x) := fun R q =>
  h H (Same.refl _) _ fun v H2 e2 hv => by
    cases hv
    refine ⟨x, rfl, q _ _ _ H2 e2 (by simpa [signs] using walk_str (z := x)) (fun _ _ => True.intro) fun i Ha w Hb hi b y => ?_⟩
    obtain ⟨e, c, hc, hw⟩ := y
    subst e hw
    refine ⟨Same.refl _, .str ⟨#[c]⟩, ?_, .str _⟩
    unfold signs
    rw [List.getElem?_map, Array.getElem?_toList, hc]
    rfl
theorem gn_lc {wi : TI} {j : Nat} {vs : List Nat} {ds : List D} (f : D → Bool) (g : D → D) (h : ∀ H1, Same H H1 → GI K [] wi σ H1 ds) (hz : ds.length ≤ 50000)
    (hw : ∀ x, wipe ((wipe σ vs).set j (some x)) vs = wipe σ vs) (hf : ∀ d ∈ ds, f d = true → (g d).fix = true)
    (ht : ∀ d x H1, d ∈ ds → Same H H1 → Dn K H1 x d → GT t ((wipe σ vs).set j (some x)) H1 (f d))
    (he : ∀ d x H1, d ∈ ds → Same H H1 → Dn K H1 x d → f d = true → GD K te ((wipe σ vs).set j (some x)) H1 (g d)) : GN K (tLc wi (gName j) t te vs) σ H ((ds.filter f).map g) := fun H1 e1 Q q => by
  refine h H1 e1 _ fun J G Y H2 e2 w hG hY => ?_
  intro Dl hD
  have fx : ∀ l : List D, (∀ d ∈ l, d ∈ ds) → D.fixs ((l.filter f).map g) = true := fun l hl => D.fixs_iff.mpr fun d hd => by
    obtain ⟨c, hc, rfl⟩ := List.mem_map.mp hd
    have hc' := List.mem_filter.mp hc
    exact hf c (hl c hc'.1) hc'.2
  refine lc_it w (fun i H' => Same H2 H' ∧ ∃ acc, H' Dl = some (.lst acc) ∧ Dns K H' acc (((ds.take i).filter f).map g)) ⟨Same.new hD, [], upd_same, by simpa using Dns.nil⟩ (fun i H' _ p => hG H' (.of p.1)) (fun i x Ha Hb hi p y => ?_) (fun H' p => ?_)
  · obtain ⟨p1, acc, p2, p3⟩ := p
    obtain ⟨eb, d, hd, hx⟩ := hY i Ha x Hb hi (.of p1) y
    have hm : d ∈ ds := List.mem_of_getElem? hd
    have e2b : Same H2 Hb := p1.trans eb
    have eHb : Same H Hb := (e1.trans e2).trans e2b
    have htk : ds.take (i + 1) = ds.take i ++ [d] := by
      rw [List.take_add_one, hd]
      rfl
    refine ⟨hw x, ht d x Hb hm eHb hx Hb (Same.refl _) _ fun H3 e3 => ?_⟩
    cases hfd : f d with
    | false =>
      refine (if_neg Bool.false_ne_true).mpr ⟨e2b.trans e3, acc, e3 _ _ (eb _ _ p2), ?_⟩
      rw [htk, List.filter_append, List.filter_cons, if_neg (by rw [hfd]; simp), List.filter_nil, List.append_nil]
      exact p3.up (eb.trans e3)
    | true =>
      refine (if_pos rfl).mpr (he d x Hb hm eHb hx hfd H3 e3 _ fun y H4 e4 hy => ⟨acc, e4 _ _ (e3 _ _ (eb _ _ p2)), ?_, ?_⟩)
      · have := p3.length
        have h2 : ((List.filter f (ds.take i)).map g).length ≤ ds.length := by
          rw [List.length_map]
          exact Nat.le_trans (List.length_filter_le _ _) (by rw [List.length_take]; omega)
        rw [sizeLine_eq]
        omega
      · have hDl : H4 Dl = some (.lst acc) := e4 _ _ (e3 _ _ (eb _ _ p2))
        refine ⟨Same.mut ((e2b.trans e3).trans e4) hD, acc ++ [y], upd_same, ?_⟩
        rw [htk, List.filter_append, List.map_append, List.filter_cons, if_pos hfd, List.filter_nil]
        refine Dns.app ((p3.up ((eb.trans e3).trans e4)).keep (Kp.upd hDl rfl) (fx _ fun d hd => List.mem_of_mem_take hd)) (.cons (hy.keep (Kp.upd hDl rfl) (hf d hm hfd)) .nil)
  · obtain ⟨p1, acc, p2, p3⟩ := p
    rw [List.take_length] at p3
    exact q Dl acc H' (e2.free hD) (e2.trans p1) p2 p3
end
end Cc

namespace Cc
open PySem L2
def D.len : D → Option Nat
  | .lst ds => some ds.length
  | .tup ds => some ds.length
  | .str x => some x.length
  | _ => none
def D.ty : D → String
  | .non => "NoneType"
  | .bl _ => "bool"
  | .int _ => "int"
  | .str _ => "str"
  | .lst _ => "list"
  | .tup _ => "tuple"
  | .ptup _ => "tuple"
  | .ob _ _ _ => "object"
  | .adr _ => "object"
  | .dct _ _ _ => "dict"
  | .dks _ _ => "dict"
def D.noob : D → Bool
  | .ob _ _ _ => false
  | .adr _ => false
  | .dct _ _ _ => false
  | .dks _ _ => false
  | _ => true
abbrev rLen (K : Fg) : List V → Hp → VK → Prop := fun xs H Q => ∃ x n, xs = [x] ∧ LenV K x H n ∧ Q (.int (n : Nat)) H
section
variable {X : Cx} (K : Fg)
theorem lenK (h : X.K = K := by rfl) : CallR X (.builtin "len") (Cc.rLen K) := h ▸ call_len
theorem isiK (h : X.K = K := by rfl) : CallR X (.builtin "isinstance") (rIsi K) := h ▸ call_isi
theorem sumK (hc : X.calm = true := by rfl) (h : X.K = K := by rfl) : CallR X (.builtin "sum") (rSum K) := h ▸ cr_sum hc
theorem allK (hc : X.calm = true := by rfl) (h : X.K = K := by rfl) : CallR X (.builtin "all") (rAll K) := h ▸ cr_all hc
theorem ixL (h : X.K = K := by rfl) : IxR X (rIxL K) := h ▸ ix_list
theorem ixA (h : X.K = K := by rfl) : IxR X (rIx K) := h ▸ ix_seq
theorem eqK (hu : X.A.units + 64 < cLine) (h : X.K = K := by rfl) : OpR X (compareOp .Eq) (rEqD K) := h ▸ op_eqD hu
theorem neK (hu : X.A.units + 64 < cLine) (h : X.K = K := by rfl) : OpR X (compareOp .NotEq) (rNeD K) := h ▸ op_neD hu
theorem inK (h : X.K = K := by rfl) : OpR X (compareOp .In) (rIn K false) := h ▸ op_in_seq
theorem niK (h : X.K = K := by rfl) : OpR X (compareOp .NotIn) (rIn K true) := h ▸ op_notIn_seq
theorem pe_fK {e : Expr} {f : Str} {pos : Pos} {ta : TE} (he : PE X e ta) (hb : attributeBase e f X.env (eval e X.env) = eval e X.env := by rfl) (h : X.K = K := by rfl) : PE X (.Attribute e f pos) (tFld K ta f) := h ▸ pe_fld he hb
theorem pi_lK {tg l : Expr} {tl : TE} (hl : PE X l tl) (h : X.K = K := by rfl) : PI X tg l (iList K tl) := h ▸ pi_list hl
theorem pi_tK {tg l : Expr} {tl : TE} (hl : PE X l tl) (h : X.K = K := by rfl) : PI X tg l (iTup K tl) := h ▸ pi_tup hl
end
section
variable {K : Fg} {σ : L2.St} {H H' : Hp} {ta tb te : TE} {t u : TT} {d e z : D} {r : R2}
theorem rc_len {n : Nat} (h : d.len = some n) (hz : n ≤ 100000) : RCD K (Cc.rLen K) [d] (.int (n : Nat)) := fun vs H Q hv q => by
  cases hv with
  | cons h1 h2 =>
    cases h2
    refine ⟨_, n, rfl, ?_, q _ H (Same.refl _) (.int _)⟩
    cases h1 with
    | str x =>
      cases h
      exact ⟨by rw [sizeLine_eq]; omega, rfl⟩
    | lst hs ha =>
      cases h
      exact .inl ⟨_, SqL.of hs, ha.length.symm⟩
    | tup hs ha =>
      cases h
      exact .inr ⟨_, hs, ha.length.symm⟩
    | _ => cases h
theorem tyx_of (hb : d.noob = true) {v : V} (h : Dn K H v d) : TyX K H v (.type d.ty) := by
  cases h with
  | non => exact .base .non
  | bl b => exact .base (.bl b)
  | int i => exact .base (.int i)
  | str x => exact .base (.str x)
  | lst hs _ => exact .base (.lst hs)
  | ptup hs _ =>
    obtain ⟨o, _, hs⟩ := hs
    exact .fTuple hs
  | tup hs _ =>
    rcases hs with (hs | ⟨o, hs⟩) | ⟨o, its, n, hk, hc, _⟩
    · exact .base (.tup hs)
    · exact .fTuple hs
    · exact .kTuple hk hc
  | ob _ _ _ => cases hb
  | adr _ => cases hb
  | dct _ _ _ _ => cases hb
  | dks _ _ _ => cases hb
def D.isT (n : String) : D → Bool
  | .non => false
  | .bl _ => n == "int" || n == "bool"
  | .int _ => n == "int"
  | .str _ => n == "str"
  | .lst _ => n == "list"
  | .tup _ => n == "tuple"
  | .ptup _ => n == "tuple"
  | .ob _ _ _ => false
  | .adr _ => false
  | .dct _ _ _ => false
  | .dks _ _ => false
theorem kit_isT (hb : d.noob = true) (n : String) (hn : n = "int" ∨ n = "bool" ∨ n = "str" ∨ n = "list" ∨ n = "tuple") : kitB d.ty n = some (d.isT n) := by
  rcases hn with rfl | rfl | rfl | rfl | rfl
  all_goals
    cases d
    case non => exact (show kitB "NoneType" _ = some false by decide +kernel)
    case bl b => first | exact (show kitB "bool" _ = some true by decide +kernel) | exact (show kitB "bool" _ = some false by decide +kernel)
    case int b => first | exact (show kitB "int" _ = some true by decide +kernel) | exact (show kitB "int" _ = some false by decide +kernel)
    case str b => first | exact (show kitB "str" _ = some true by decide +kernel) | exact (show kitB "str" _ = some false by decide +kernel)
    case lst b => first | exact (show kitB "list" _ = some true by decide +kernel) | exact (show kitB "list" _ = some false by decide +kernel)
    case tup b => first | exact (show kitB "tuple" _ = some true by decide +kernel) | exact (show kitB "tuple" _ = some false by decide +kernel)
    case ptup b => first | exact (show kitB "tuple" _ = some true by decide +kernel) | exact (show kitB "tuple" _ = some false by decide +kernel)
    case ob => cases hb
    case adr => cases hb
    case dct => cases hb
    case dks => cases hb
theorem rc_min2 {i j : Int} : RCD K (fun xs H Q => ∃ i j, xs = [.int i, .int j] ∧ Q (.int (if j < i then j else i)) H) [.int i, .int j] (.int (min i j)) := fun vs H Q hv q => by
  cases hv with
  | cons h1 h2 =>
    cases h2 with
    | cons h2 h3 =>
      cases h3
      cases h1; cases h2
      have e : (if j < i then j else i) = min i j := by
        by_cases c : j < i
        · rw [if_pos c]; omega
        · rw [if_neg c]; omega
      exact ⟨i, j, rfl, by rw [e]; exact q _ H (Same.refl _) (.int _)⟩
theorem rc_int {i : Int} : RCD K (fun xs H Q => (∃ i, xs = [.int i] ∧ Q (.int i) H) ∨ ∃ k, xs = [.bl k] ∧ Q (.int (if k then 1 else 0)) H) [.int i] (.int i) := fun vs H Q hv q => by
  cases hv with
  | cons h1 h2 =>
    cases h2
    cases h1
    exact .inl ⟨i, rfl, q _ H (Same.refl _) (.int _)⟩
theorem rc_intB {b : Bool} : RCD K (fun xs H Q => (∃ i, xs = [.int i] ∧ Q (.int i) H) ∨ ∃ k, xs = [.bl k] ∧ Q (.int (if k then 1 else 0)) H) [.bl b] (.int (if b then 1 else 0)) := fun vs H Q hv q => by
  cases hv with
  | cons h1 h2 =>
    cases h2
    cases h1
    exact .inr ⟨b, rfl, q _ H (Same.refl _) (.int _)⟩
theorem dns_ints : ∀ {vs : List V} {ns : List Int}, Dns K H vs (ns.map D.int) → vs = ns.map V.int
  | _, [], h => by cases h; rfl
  | _, n :: ns, h => by
    cases h with
    | cons h1 h2 =>
      cases h1
      rw [dns_ints h2]
      rfl
theorem dns_bls : ∀ {vs : List V} {ns : List Bool}, Dns K H vs (ns.map D.bl) → vs = ns.map V.bl
  | _, [], h => by cases h; rfl
  | _, n :: ns, h => by
    cases h with
    | cons h1 h2 =>
      cases h1
      rw [dns_bls h2]
      rfl
theorem rc_sum {ns : List Int} : RCD K (rSum K) [.lst (ns.map D.int)] (.int ns.sum) := fun vs H Q hv q => by
  cases hv with
  | cons h1 h2 =>
    cases h2
    cases h1 with
    | lst hs ha => exact ⟨_, ns, rfl, by rw [dns_ints ha] at hs; exact SqL.of hs, q _ H (Same.refl _) (.int _)⟩
theorem rc_all {bs : List Bool} : RCD K (rAll K) [.lst (bs.map D.bl)] (.bl (bs.all id)) := fun vs H Q hv q => by
  cases hv with
  | cons h1 h2 =>
    cases h2
    cases h1 with
    | lst hs ha => exact ⟨_, bs, rfl, by rw [dns_bls ha] at hs; exact SqL.of hs, q _ H (Same.refl _) (.bl _)⟩
theorem go_none : GO tNoPart σ H none := fun H1 _ Q q => q H1 (Same.refl _)
theorem go_some {i : Int} (h : GD K te σ H (.int i)) : GO (tPart te) σ H (some i) := fun H1 e Q q => h H1 e _ fun v H2 e2 hv => by
  cases hv
  exact ⟨i, rfl, q H2 e2⟩
def cutD (ds : List D) (lo hi : Option Int) : List D := (ds.drop (HT.sIx ds.length 0 lo)).take (HT.sIx ds.length ds.length hi - HT.sIx ds.length 0 lo)
theorem cut_dns {vs : List V} {ds : List D} (h : Dns K H vs ds) (lo hi : Option Int) : Dns K H (cutV vs lo hi) (cutD ds lo hi) := by
  unfold cutV cutD
  rw [h.length]
  exact (h.drop _).take _
end
end Cc

namespace Cc
open PySem L2
def Cal (P : Program) (w : World) (K : Fg) (mg : Str → Option Value) (base : Heap) (CX : CXT) (n : Nat) (x : Str) (ps : List Str) (sp : Sp) : Prop :=
  ∃ (f : Addr) (fd : FuncData), FnOk P w K mg base CX n f fd ps sp ∧ mg x = some (.ref f) ∧ PySem.W.keepIn K (.ref f) = true ∧ L2.Binds K fd ps []
def Cst (mg : Str → Option Value) (x : Str) (v : V) : Prop := ∃ u, mg x = some u ∧ RelV v u
section
variable {X : Cx} {n m : Nat} {x : Str} {ps : List Str} {sp : Sp} {e : Expr} {es : List Expr} {t : TA} {p pos : Pos}
theorem pe_gc {v : V} (h : Cst X.mg x v) (hg : Gl X x := by rfl) (hd : (x == ("__debug__" : Str)) = false := by decide) : PE X (.Name x pos) (tC v) := by
  obtain ⟨u, h1, h2⟩ := h
  exact pe_glob hg h1 h2 hd
theorem pe_ty {T : String} (hm : X.mg x = none) (hg : Gl X x := by rfl) (hv : bootBuiltins x = some (.type T) := by decide +kernel) (hn : x ≠ "__name__" := by decide) (hd : (x == ("__debug__" : Str)) = false := by decide) : PE X (.Name x pos) (tC (.ty T)) :=
  pe_bltn hg hm hv rfl hn hd
theorem pe_cal {CX : CXT} {E : XK} (C : Cal X.prog X.w X.K X.mg X.base CX n x ps sp) (hr : Room m X.A) (hx : Passes CX X E) (ha : PA X (e :: es) t) (hg : Gl X x := by rfl) (hn : n ≤ m := by decide)
    (hdb : (x == ("__debug__" : Str)) = false := by decide) (he : starEach (e :: es) X.env = (false, eval e X.env) :: starEach es X.env := by rfl) (hpl : (backTo pos (starEach es X.env)).any (·.1) = false := by rfl) : PE X (.Call (.Name x p) (e :: es) [] pos) (tCall sp [] E t) := by
  obtain ⟨f, fd, F, hm, hk, hb⟩ := C
  exact pe_call F (hr.mono hn) hg hm hk hb .nil hx ha hdb he hpl
end
section
variable {K : Fg} {H : Hp}
theorem Dns.un1 {vs : List V} {a : D} (h : Dns K H vs [a]) : ∃ v, vs = [v] ∧ Dn K H v a := by
  cases h with
  | cons h0 h => cases h; exact ⟨_, rfl, h0⟩
end
section
variable {K : Fg} {σ : L2.St} {H H' : Hp} {ta tb te : TE} {t u : TT} {d e z : D} {r : R2}
theorem r_sign {c : Nat} {z : Str} : R2D K (fun x y H Q => ∃ (c : Nat) (z : Str), x = .str ⟨#[c]⟩ ∧ y = .str z ∧ Q (.bl (decide (c ∈ z.cps.toList))) H) (.str ⟨#[c]⟩) (.str z) (.bl (decide (c ∈ z.cps.toList))) := fun x y H Q hx hy q => by
  cases hx; cases hy
  exact ⟨c, z, rfl, rfl, q _ H (Same.refl _) (.bl _)⟩
theorem ixN_nat {n j : Nat} (hj : j < n) : ixN n (j : Int) = some j := by
  unfold ixN
  rw [if_pos (by omega), if_pos (by omega)]
  simp
theorem s_setL {E : Ends} {l : Addr} {xs : List V} {j : Nat} (hl : H l = some (.lst xs)) (ho : ∀ H1, Same H H1 → ∀ Q : VK, Q (.ref l) H1 → ta σ H1 Q) (hi : GD K tb σ H (.int (j : Nat))) (hj : j < xs.length) (h : GD K te σ H d)
    (k : ∀ v H1, Same H H1 → Dn K H1 v d → E.nx σ (upd H1 l (.lst (xs.set j v)))) : tAsg te (gSub ta tb rSetL) E σ H :=
  h H (Same.refl _) _ fun v H1 e1 hv => ho H1 e1 _ (hi H1 e1 _ fun w H2 e2 hw => by
    cases hw
    exact ⟨l, xs, (j : Nat), j, rfl, rfl, (e1.trans e2) l _ hl, ixN_nat hj, k v H2 (e1.trans e2) (hv.up e2)⟩)
theorem gd_ixV {i j : Nat} {l : Addr} {xs : List V} {v : V} (hσ : σ[i]? = some (some (.ref l))) (hl : H l = some (.lst xs)) (hv : xs[j]? = some v) (hd : Dn K H v d) : GD K (tOp (rIxL K) (tVar i) (tC (.int (j : Nat)))) σ H d := fun H1 e Q q =>
  ⟨.ref l, hσ, l, xs, (j : Nat), v, rfl, rfl, SqL.of (e _ _ hl), atI_nat hv, q v H1 (Same.refl _) (hd.up e)⟩
end
end Cc

namespace CcX
open PySem PySem.W PySem.Calls PyProof.Rows PySem.HandSPX
def Shown (v : Value) : Prop := (∃ z t, v = .str z t ∧ z.length ≤ 1000) ∨ ∃ i t, v = .int i t ∧ i.natAbs.log2 < 1920
structure SupC (prog : Program) (K : Frag) (C fI : Addr) (qual fld : Str) (body : List Stmt) (params : Arguments) (scope : Scope) : Prop where
  cls : ∃ nm q N bs bm sn sub ab col dd k0 k1 k2 k3 k5, K.lookup C = some (excClassObj nm q C N bs bm true sn sub ab col dd k0 k1 k2 k3 k5 "ValueError.__new__") ∧ refsVE bm = true
  sa : findIn K (.ref C) "__setattr__" = some (some (.builtin "object.__setattr__"))
  noN : findIn K (.ref C) fld = some none
  iC : findIn K (.ref C) "__init__" = some (some (.ref fI))
  tC : typeIn K (.ref fI) = some (.type "function")
  kC : keepIn K (.ref C) = true
  exC : subIn K (.ref C) (.type "BaseException") = some true
  veC : subIn K (.ref C) (.type "ValueError") = some true
  slfC : mroIn K C (.ref C) = some true
  tyC : typeIn K (.ref C) = some (.type "type")
  opq : nsIn K cStatics "thirdparty.any" = some none
  alg : ks_superIn K C C "__init__" = some (some (.builtin "ValueError.__init__"))
  top : (prog.main.scope.names.lookup ("super" : Str)).isSome = false
  fn : ∃ (oc : Value) (od : Option Addr) (doc pm : Value) (an : Option Addr) (cda cc : Addr) (ct : Value) (osl : Array (Option Value)) (ccl cl : Value) (cdd cld : Option Addr) (ccs csl : Array (Option Value)) (vs : Array Value) (file : Str) (tf : Tok),
    K.lookup fI = some ⟨oc, od, .func (ksFn "__init__" qual params body scope .none .none doc pm an (.ref cda) ct cc), osl⟩ ∧ codeIn K (.ref cda) qual = true ∧
    K.lookup cda = some ⟨ccl, cdd, .fields vs, ccs⟩ ∧ vs[2]? = some (.str file tf) ∧ ((prog.main.file : Str) == file) = true ∧
    K.lookup cc = some ⟨cl, cld, .cell (some (.ref C)), csl⟩
section
variable {prog : Program} {w : World} {A : Around} {E : Value → Shared → Prop} {R : Result → Shared → Prop} {s : Shared} {K : Frag} {mg mb : Str → Option Value} {C fI : Addr}
theorem mw_call {nm q : Str} {N : Addr} {bs bm : List Value} {sn : List Str} {sub : List Value} {ab : Bool} {col : Option Bool} {dd : Option Addr} {k0 k1 k2 k3 k5 : Option Value} {u x t0 : Addr} {rest : List Value} {Q : Value → Shared → Prop}
    (hC : s.heap.get? C = some (excClassObj nm q C N bs bm true sn sub ab col dd k0 k1 k2 k3 k5 "ValueError.__new__")) (hx : s.heap.get? x = some (excO C t0)) (hu : s.heap.get? u = some (kxs_mw "ValueError.__init__" x)) (hz : rest.length ≤ sizeLine)
    (h : ∀ h' t1, (∀ b o, b ≠ x → s.heap.get? b = some o → h'.get? b = some o) → h'.get? x = some (excO C t1) → Q .none { s with heap := h' }) : wpAny (model prog w) A (call (.ref u) rest) Q E s := by
  have FB := F.excBase_ValueError
  obtain ⟨hh, g, d, tk, os⟩ := s
  refine wpAny_call (codeAny_of_tree ?_)
  show wpAny _ A.in1 (callAny (.ref u) ⟨rest, []⟩) _ _ _
  simp only [callAny]
  refine wpAny_bind (wpAny_load hu ?_)
  have a1 : (Value.type "method-wrapper" == Value.type "method" || Value.type "method-wrapper" == Value.type "builtin_function_or_method" || Value.type "method-wrapper" == Value.type "method-wrapper") = true := by decide
  simp only [kxs_mw, a1, if_true]
  refine KFB.if_so (by decide) ?_
  refine wpAny_bind (check_bound_init (FB.toExcCallFacts) hC hx rfl ?_)
  refine wpAny_bind (wpAny_pure (wpAny_pure ?_))
  refine ⟨plainId_quiet FB.init.plain _, codeAny_builtin FB.initEntry ?_⟩
  exact exc_init_tree (cls := Value.ref C) (t0 := t0) (dv := Option.none) (c2 := Value.none) (c3 := Value.none) (b4 := Value.bool false) hx hz fun h' k' e' _ => h h' _ k' e'
def PartOk (ar : Str) (e : Expr) : Prop := (∃ z j p, e = .Constant (.str z) j p ∧ z.length ≤ 100) ∨ ∃ p p2, e = .FormattedValue (.Name ar p) (-1) none p2
theorem parts_join {env : Env} {m : Str → Option Value} {hp : Heap} {ar : Str} {v : Value} (hn : hp.Ns env.locals m) (hk : env.scope.kind = .function) (hl : env.kindOf ar = some .local) (hd : (ar == ("__debug__" : Str)) = false) (hv : m ar = some v) (hs : Shown v) {R : Str → Shared → Prop} : ∀ (es : List Expr) (acc : Str) (s : Shared), s.heap = hp → (∀ e ∈ es, PartOk ar e) →
    acc.length + 4000 * es.length ≤ 100000 → (∀ out tk, out.length ≤ 100000 → R out { s with toks := tk }) → Joins (model prog w) A E (evalEach es env) acc R s
  | [], acc, s, e, _, hz, k => by
    rw [show evalEach [] env = [] from by first | rfl | simp [evalEach]]
    exact k acc s.toks (by simpa using hz)
  | p :: es, acc, s, e, hp', hz, k => by
    rw [show evalEach (p :: es) env = eval p env :: evalEach es env from by first | rfl | simp [evalEach]]
    have line : sizeLine = 16777216 := sizeLine_eq
    have hz' : acc.length + 4000 * (es.length + 1) ≤ 100000 := by simpa using hz
    have go : ∀ (y : Str) (t : Tok) (tk : Nat), y.length ≤ 4000 → ∃ z t', (Value.str y t) = .str z t' ∧ (acc ++ z).length ≤ sizeLine ∧ Joins (model prog w) A E (evalEach es env) (acc ++ z) R { s with toks := tk } := fun y t tk hy => by
      have hl2 : (acc ++ y).length = acc.length + y.length := PySem.Str.length_append ..
      exact ⟨y, t, rfl, by omega, parts_join hn hk hl hd hv hs es (acc ++ y) { s with toks := tk } e (fun q hq => hp' q (List.mem_cons_of_mem _ hq)) (by omega) fun out tk' hz => k out tk' hz⟩
    rcases hp' p List.mem_cons_self with ⟨z, j, q, rfl, hz1⟩ | ⟨q, q2, rfl⟩
    · exact Calls.Constant_str (go z _ _ (by omega))
    · refine wpAny_FormattedValue_plain (wpAny_Name (wpAny_loadName_local hk hl (by rw [e]; exact hn) hv ?_) hd)
      rcases hs with ⟨z, t, rfl, hz1⟩ | ⟨i, t, rfl, hi⟩
      · exact wpAny_formatField_str (go z _ s.toks (by omega)) (go z _ _ (by omega)) (by omega)
      · exact wpAny_formatField_int hi (go _ _ _ (by have := int_text_length_le (k := 1920) (by decide) hi; rw [PySem.ofString_length]; omega))

abbrev supA (ar : Str) (p1 p2 : Pos) : Arguments := { posonlyargs := [], args := [{ arg := "self", annotation := none, pos := p1 }, { arg := ar, annotation := none, pos := p2 }], vararg := none, kwonlyargs := [], kw_defaults := [], kwarg := none, defaults := [] }
abbrev supS (ar : Str) : Scope := { kind := .function, names := [(PySem.Str.ofString "self", .local), (ar, .local), (PySem.Str.ofString "__class__", .free), (PySem.Str.ofString "super", .globalImplicit)], isGenerator := false, isCoroutine := false, more := [] }
abbrev supB (ar fld : Str) (v1 v2 : Expr) (rest : List Expr) (q0 q1 q2 q3 q4 q5 q6 q7 q8 q9 : Pos) : List Stmt :=
  [.Expr (.Call (.Attribute (.Call (.Name "super" q0) [] [] q1) "__init__" q2) [.JoinedStr (v1 :: v2 :: rest) q3] [] q4) q5, .Assign [.Attribute (.Name "self" q6) fld q7] (.Name ar q8) q9]
structure InitEnd (h h' : Heap) (x C dx t1 : Addr) (fld : Str) (v : Value) : Prop where
  keep : ∀ b o, b ≠ x → h.get? b = some o → h'.get? b = some o
  obj : h'.get? x = some { cls := .ref C, dict := some dx, data := .fields #[.ref t1, .none, .none, .none, .bool false, .none] }
  dbig : h.objs.size ≤ dx
  dne : dx ≠ x
  ns : h'.Ns1 dx (fun y => if y = fld then some v else none)
theorem me_call {env : Env} {c : Code} {o : Expr} {name : Str} {apos pos : Pos} {args : List Expr} {Q : Value → Shared → Prop} (hline : (apos.endLine == pos.line) = true)
    (hform : methodCallForm (args.length + ([] : List Keyword).length) (backTo pos (starEach args env)) (backToKw pos (keywordEach [] env)) = true)
    (h : PySem.wpAt (model prog w) A c (attributeBase o name env (eval o env)) (fun ov s₁ => ∀ pl, wpAny (model prog w) A (getMethod ov name pl) (fun fx s₂ => wpAny (model prog w) A (callWith pos fx.1 fx.2 (backTo pos (starEach args env)) []) Q E s₂) E s₁) E s) :
    PySem.wpAt (model prog w) A c (eval (.Call (.Attribute o name apos) args [] pos) env) Q E s := by
  rw [arm_eval_Call]
  refine PySem.wpAt_bind (PySem.wpAt_mono h (fun ov s₁ h₁ => PySem.wpAt_of_wpAny (wpAny_bind (wpAny_standAt ?_))) fun _ _ x => x)
  have hpos : methodCallPos true o env apos pos = pure pos := by unfold methodCallPos; simp [hline]
  unfold methodCall
  rw [hform]
  refine wpAny_bind (wpAny_holding (wpAny_mono (h₁ _) (fun fx s₂ h₂ => ?_) fun _ _ x => x))
  exact wpAny_bind (wpAny_of_eq hpos h₂)
theorem Heap.Ns.over {L x : Addr} {h h' : Heap} {m : Str → Option Value} (hn : h.Ns L m) (hx : L ≠ x) (k : ∀ b o, b ≠ x → h.get? b = some o → h'.get? b = some o) : h'.Ns L m := by
  obtain ⟨oL, es, ep, hL, r⟩ := hn
  exact ⟨oL, es, ep, k _ _ hx hL, r⟩
theorem kept_but {K : Frag} {h h' : Heap} {x : Addr} (X : K.In h) (hx : K.lookup x = none) (k : ∀ b o, b ≠ x → h.get? b = some o → h'.get? b = some o) : K.In h' := fun a o e =>
  k a o (fun z => by subst z; rw [show List.lookup a K = some o from e] at hx; cases hx) (X a o e)
theorem sup_init {qual ar fld : Str} {v1 v2 : Expr} {rest : List Expr} {p1 p2 q0 q1 q2 q3 q4 q5 q6 q7 q8 q9 : Pos} (T : SupC prog K C fI qual fld (supB ar fld v1 v2 rest q0 q1 q2 q3 q4 q5 q6 q7 q8 q9) (supA ar p1 p2) (supS ar))
    (ha : ar = "part" ∨ ar = "index" ∨ ar = "name" ∨ ar = "row" ∨ ar = "offset") (hparts : ∀ e ∈ v1 :: v2 :: rest, PartOk ar e) (hlen : rest.length ≤ 8) (hline : (q2.endLine == q4.line) = true) {x t0 : Addr} {v : Value} (hv : Shown v)
    (X : K.In s.heap) (hlim : s.heap.NoLimit) (hg : s.heap.Ns mainGlobals mg) (hb : s.heap.Ns builtinsNs mb) (hms : mg "super" = none) (hbs : mb "super" = some (.type "super")) (hx : s.heap.get? x = some (excO C t0)) (hnx : K.lookup x = none) (hroom : A.depth < recursionLimit)
    (hq : ∀ h' tk dx t1, InitEnd s.heap h' x C dx t1 fld v → R (.ok (.ret .none)) { s with heap := h', toks := tk }) :
    codeAny (model prog w) A (.call (.ref fI) ⟨[.ref x, v], []⟩) R s := by
  obtain ⟨oc, od, doc, pm, an, cda, cc, ct, osl, ccl, cl, cdd, cld, ccs, csl, vs, file, tf, ho, hcd, hcda, hvs, hfile, hcell⟩ := T.fn
  obtain ⟨nm, q, N, bs, bm, sn, sub, ab, col, dd, k0, k1, k2, k3, k5, hC, hbm⟩ := T.cls
  have hcl : clsIn K C = some { name := nm, bases := bs, mro := .ref C :: bm, ns := N, qualname := q, hasDict := true, slotNames := sn, subclasses := sub, abstract := ab, collection := col, hasDel := false } := by unfold clsIn; rw [hC] <;> rfl
  refine ks_codeAny_call_defAt (binds := [("self", .ref x), (ar, v)]) hroom (X _ _ ho) rfl hlim ?_ rfl (BindsTo.of_eq ?_) ?_ ?_ (fun h₁ hn k => ?_)
  · exact codeRec_of X hcd
  · rcases ha with rfl | rfl | rfl | rfl | rfl <;> first | rfl | with_unfolding_all rfl
  · intro y hy
    simp at hy
    rcases hy with rfl | rfl | rfl | rfl <;> exact fun e => by cases e
  · intro y hy
    rcases List.mem_cons.mp hy with rfl | hy
    · rfl
    · rcases List.mem_cons.mp hy with rfl | hy
      · rcases ha with rfl | rfl | rfl | rfl | rfl <;> rfl
      · cases hy
  have hxL : s.heap.objs.size ≠ x := Nat.ne_of_gt (Heap.lt_size hx)
  have X₁ : K.In h₁ := X.keeps k
  have hx₁ := k _ _ hx
  have hC₁ := X₁ _ _ hC
  have hz₁ : s.heap.objs.size < h₁.objs.size := hn.lt
  generalize eF : ksFn "__init__" qual (supA ar p1 p2) (supB ar fld v1 v2 rest q0 q1 q2 q3 q4 q5 q6 q7 q8 q9) (supS ar) Value.none Value.none doc pm an (Value.ref cda) ct cc = fd
  have eE : callEnv fd s.heap.objs.size fI = ksEnv qual (supS ar) s.heap.objs.size fI (.ref cda) cc := by rw [← eF]; rfl
  rw [eE]
  have nec : (ar == ("__class__" : Str)) = false ∧ (ar == ("super" : Str)) = false ∧ (ar == ("self" : Str)) = false ∧ (ar == ("__debug__" : Str)) = false := by rcases ha with rfl | rfl | rfl | rfl | rfl <;> decide
  have kS : (ksEnv qual (supS ar) s.heap.objs.size fI (.ref cda) cc).kindOf "super" = some .globalImplicit := by rcases ha with rfl | rfl | rfl | rfl | rfl <;> rfl
  have kC : (ksEnv qual (supS ar) s.heap.objs.size fI (.ref cda) cc).kindOf "__class__" = some .free := by rcases ha with rfl | rfl | rfl | rfl | rfl <;> rfl
  have kA : (ksEnv qual (supS ar) s.heap.objs.size fI (.ref cda) cc).kindOf ar = some .local := by rcases ha with rfl | rfl | rfl | rfl | rfl <;> rfl
  have kX : (ksEnv qual (supS ar) s.heap.objs.size fI (.ref cda) cc).kindOf "self" = some .local := rfl
  have mA : (List.reverse [(("self" : Str), Value.ref x), (ar, v)]).lookup ar = some v := by simp [List.lookup]
  have mX : (List.reverse [(("self" : Str), Value.ref x), (ar, v)]).lookup ("self" : Str) = some (.ref x) := by rcases ha with rfl | rfl | rfl | rfl | rfl <;> rfl
  refine ks_wpAt_execs_cons (ks_wpAt_Expr_any (me_call hline (by rfl) ?_) (by rfl) (by rfl))
  · refine ks_wpAt_super_base (env := ksEnv qual (supS ar) s.heap.objs.size fI (.ref cda) cc) (fd := fd) (ar := { arg := "self", annotation := none, pos := p1 }) kS kC (by decide) rfl (k _ _ (X _ _ ho)) (by rw [← eF]) (by rw [← eF]; rfl) rfl (X₁ _ _ hcda) rfl hvs hfile T.top ?_
    refine ks_loadName_global rfl kS (loadGlobal_builtin (hg.keeps k) hms (hb.keeps k) hbs ⟨rfl, ?_⟩)
    refine wpAny_loadName_free rfl kC rfl ⟨_, X₁ _ _ hcell, rfl⟩ ?_
    refine wpAny_loadName_local rfl kX hn mX ?_
    refine ks_wpAny_isType_cls hC₁ rfl ⟨rfl, ?_⟩
    refine ks_wpAny_call_super hC₁ rfl hx₁ rfl (fun c e => by cases e) (looks_mroIn X₁ T.slfC) (fun h₂ hso k₂ => ?_)
    have X₂ : K.In h₂ := X₁.keeps k₂
    have hx₂ := k₂ _ _ hx₁
    have hn₂ := hn.keeps k₂
    intro pl
    refine kxs_getMethod kxs_ValueError hso (looks_opaque X₂ T.opq) (l₀ := .ref C :: bm) (fun A Q E s' k q => wpAny_bind ((looks_clsIn X₂ hcl) A _ E s' k (wpAny_pure q))) rfl X₂ ?_ ?_ ?_ (by decide) ?_
    · have := T.alg
      unfold ks_superIn at this
      rw [hcl] at this
      exact this
    · exact InstAt.type (od := none) ⟨hx₂, rfl, rfl, trivial⟩ |>.andThen (looks_subIn X₂ T.veC)
    · intro z
      rw [z] at hnx
      have : K.lookup C = some _ := hC
      rw [this] at hnx; cases hnx
    have k₃ : ∀ b o, h₂.get? b = some o → (h₂.push (kxs_mw "ValueError.__init__" x)).get? b = some o := fun b o e => Heap.get?_push_of_some _ e
    have hn₃ := hn₂.keeps k₃
    have hu₃ : (h₂.push (kxs_mw "ValueError.__init__" x)).get? h₂.objs.size = some (kxs_mw "ValueError.__init__" x) := Heap.get?_push_at rfl rfl
    have hC₃ := k₃ _ _ (k₂ _ _ hC₁)
    have hx₃ := k₃ _ _ hx₂
    generalize eh : h₂.push (kxs_mw "ValueError.__init__" x) = h₃ at hn₃ hu₃ hC₃ hx₃ k₃ ⊢
    refine kxs_callWith (i := "ValueError.__init__") (x := x) rfl (evalArgs_plain (spliced_cons (wpAny_JoinedStr (pos := q3) ?_)))
    refine parts_join (hp := h₃) hn₃ rfl kA nec.2.2.2 mA hv (v1 :: v2 :: rest) Str.empty _ rfl hparts (by simp only [List.length_cons]; have : Str.empty.length = 0 := rfl; omega) (fun out tk hz => ?_)
    refine ⟨by rw [sizeLine_eq]; omega, spliced_nil ⟨hu₃, ?_⟩⟩
    refine mw_call hC₃ hx₃ hu₃ (by simp [sizeLine_eq]) (fun h₄ t1 k₄ hx₄ => ?_)
    have kk : ∀ b o, b ≠ x → s.heap.get? b = some o → h₄.get? b = some o := fun b o hb e => k₄ b o hb (k₃ _ _ (k₂ _ _ (k _ _ e)))
    have X₄ : K.In h₄ := kept_but X hnx kk
    refine PySem.wpAt_of_wpAny (wpAny_execs_cons (plainObj_wpAny_Assign_Attribute ?_))
    have hn₄ := Heap.Ns.over hn₃ (x := x) (h' := h₄) hxL k₄
    refine wpAny_Name (wpAny_loadName_local rfl kA hn₄ mA ?_) nec.2.2.2
    refine wpAny_Name (wpAny_loadName_local rfl kX hn₄ mX ?_) (by decide)
    refine set_plain X₄ (ox := excO C t1) (od := none) ⟨hx₄, rfl, rfl, trivial⟩ T.sa ?_
    refine exc_osa X₄ hx₄ hcl (show refsVE (.ref C :: bm) = true from hbm) rfl T.noN (fun h₅ tk₅ dx k₅ dn dne hx₅ hn₅ => ?_)
    refine wpAny_execs_nil (hq h₅ tk₅ dx t1 ⟨fun b o hb e => k₅ b o hb (kk b o hb e), hx₅, ?_, dne, hn₅⟩)
    exact Nat.le_of_lt (Nat.lt_of_lt_of_le hn₄.lt dn)
structure Made1 (h h' : Heap) (e C d : Addr) (fld : Str) (v : Value) : Prop where
  keep : ∀ b o, h.get? b = some o → h'.get? b = some o
  new : h.objs.size ≤ e
  obj : ∃ oe vs, h'.get? e = some oe ∧ oe.cls = .ref C ∧ oe.dict = some d ∧ oe.data = .fields vs ∧ vs[1]? = some .none
  dbig : h.objs.size ≤ d
  dne : d ≠ e
  ns : h'.Ns1 d (fun y => if y = fld then some v else none)
structure SupI (prog : Program) (w : World) (K : Frag) (mg : Str → Option Value) (C fI : Addr) (fld : Str) : Prop where
  cls : ∃ nm q N bs bm sn sub ab col dd k0 k1 k2 k3 k5, K.lookup C = some (excClassObj nm q C N bs bm true sn sub ab col dd k0 k1 k2 k3 k5 "ValueError.__new__") ∧ refsVE bm = true
  iC : findIn K (.ref C) "__init__" = some (some (.ref fI))
  tC : typeIn K (.ref fI) = some (.type "function")
  kC : keepIn K (.ref C) = true
  exC : subIn K (.ref C) (.type "BaseException") = some true
  tyC : typeIn K (.ref C) = some (.type "type")
  init : ∀ {A : Around} {R : Result → Shared → Prop} {s : Shared} {x t0 : Addr} {v : Value} {mb : Str → Option Value}, Shown v → K.In s.heap → s.heap.NoLimit → s.heap.Ns mainGlobals mg → s.heap.Ns builtinsNs mb → mb "super" = some (.type "super") → s.heap.get? x = some (excO C t0) → K.lookup x = none → A.depth < recursionLimit →
    (∀ h' tk dx t1, InitEnd s.heap h' x C dx t1 fld v → R (.ok (.ret .none)) { s with heap := h', toks := tk }) → codeAny (model prog w) A (.call (.ref fI) ⟨[.ref x, v], []⟩) R s
theorem sup_of {qual ar fld : Str} {v1 v2 : Expr} {rest : List Expr} {p1 p2 q0 q1 q2 q3 q4 q5 q6 q7 q8 q9 : Pos} (T : SupC prog K C fI qual fld (supB ar fld v1 v2 rest q0 q1 q2 q3 q4 q5 q6 q7 q8 q9) (supA ar p1 p2) (supS ar))
    (ha : ar = "part" ∨ ar = "index" ∨ ar = "name" ∨ ar = "row" ∨ ar = "offset") (hparts : ∀ e ∈ v1 :: v2 :: rest, PartOk ar e) (hlen : rest.length ≤ 8) (hline : (q2.endLine == q4.line) = true) (hms : mg "super" = none) : SupI prog w K mg C fI fld :=
  ⟨T.cls, T.iC, T.tC, T.kC, T.exC, T.tyC, fun hv X hlim hg hb hbs hx hnx hroom hq => sup_init T ha hparts hlen hline hv X hlim hg hb hms hbs hx hnx hroom hq⟩
theorem sup_made {fld : Str} (T : SupI prog w K mg C fI fld) {v : Value} (hv : Shown v) (X : K.In s.heap) (hlim : s.heap.NoLimit) (hg : s.heap.Ns mainGlobals mg) (hb : s.heap.Ns builtinsNs mb) (hbs : mb "super" = some (.type "super")) (hroom : A.depth + 1 < recursionLimit)
    (hq : ∀ h' tk e d, Made1 s.heap h' e C d fld v → R (.ok (.ret (.ref e))) { s with heap := h', toks := tk }) : codeAny (model prog w) A (.call (.ref C) ⟨[v], []⟩) R s := by
  obtain ⟨nm, q, N, bs, bm, sn, sub, ab, col, dd, k0, k1, k2, k3, k5, hC, hbm⟩ := T.cls
  obtain ⟨hp, g, dr, tk, os⟩ := s
  have old1 : ∀ b o, hp.get? b = some o → ((hp.push (kdv_tup [v])).push (excO C hp.objs.size)).get? b = some o := fun b o e => Heap.get?_push_of_some _ (Heap.get?_push_of_some _ e)
  have at1 : ((hp.push (kdv_tup [v])).push (excO C hp.objs.size)).get? (hp.objs.size + 1) = some (excO C hp.objs.size) := by heap_get
  have free : K.lookup (hp.objs.size + 1) = none := by
    rcases e : K.lookup (hp.objs.size + 1) with _ | o
    · rfl
    · exact absurd (Nat.lt_of_succ_lt (Heap.lt_size (X _ _ e))) (Nat.lt_irrefl _)
  refine call_own F.excBase_ValueError (fun X => refsVE_contains X bm hbm) (X _ _ hC) (looks_findIn X T.iC) (fun self => bind_fn X self T.tC) (by simp [sizeLine_eq]) ?_
  refine T.init (s := ⟨(hp.push (kdv_tup [v])).push (excO C hp.objs.size), g, dr, tk, os⟩) hv (X.keeps old1) (hlim.keeps old1) (hg.keeps old1) (hb.keeps old1) hbs at1 free hroom fun h' tk' dx t1 I => ?_
  have z : hp.objs.size + 1 + 1 ≤ dx := by
    have q := I.dbig
    first | exact q | (rw [Heap.size_push, Heap.size_push] at q; exact q) | simpa only [Heap.size_push] using q
  exact ⟨rfl, hq h' tk' (hp.objs.size + 1) dx ⟨fun b o e => I.keep b o (Nat.ne_of_lt (Nat.lt_succ_of_lt (Heap.lt_size e))) (old1 b o e), Nat.le_succ _, ⟨_, _, I.obj, rfl, rfl, rfl, rfl⟩, (by show hp.objs.size ≤ dx; omega), I.dne, I.ns⟩⟩
end
end CcX

namespace Cc
open PySem L2
structure ErrT (K : Fg) (mg : Str → Option Value) (x : Str) (C : Addr) : Prop where
  gC : mg x = some (.ref C)
  q : PySem.W.excIn K C [.type "ValueError", .type "Exception", .type "BaseException", .type "object"] "ValueError.__new__" = true
  kC : PySem.W.keepIn K (.ref C) = true
  exC : PySem.W.subIn K (.ref C) (.type "BaseException") = some true
  tyC : PySem.W.typeIn K (.ref C) = some (.type "type")
structure ErrF (P : Program) (w : World) (K : Fg) (mg : Str → Option Value) (x : Str) (C fI : Addr) (fld : Str) : Prop where
  gC : mg x = some (.ref C)
  sup : CcX.SupI P w K mg C fI fld
section
variable {X : Cx} {x : Str} {C : Addr} {p p2 pos pos2 : Pos} {m : Str} {j : Nat}
def tRaiseT (C : Addr) (W : WX) : TS := fun _ σ H => W (.ref C) none σ H
theorem ps_raiseT {W : WX} (hc : X.calm = true) (tk : Takes X W) (T : ErrT X.K X.mg x C) (hg : Gl X x := by rfl) (hdb : (x == ("__debug__" : Str)) = false := by decide) :
    PS X (.Raise (some (.Call (.Name x p) [.Constant (.str m) j p2] [] pos)) none pos2) (tRaiseT C W) :=
  ps_raise hc tk (pmk_own F.excBase_ValueError T.q T.gC T.kC (raises_own T.exC T.tyC) hg hdb)
def ShownV (v : V) : Prop := (∃ z : Str, v = .str z ∧ z.length ≤ 1000) ∨ ∃ i : Int, v = .int i ∧ i.natAbs.log2 < 1920
def tRaiseF (C : Addr) (fld : Str) (W : WX) (ta : TA) : TS := fun _ σ H => ta σ H fun vs H1 => ∃ v, vs = [v] ∧ ShownV v ∧ ∀ d, H1 d = none → W (.ref C) (some d) σ (upd H1 d (.xd [(fld, v)]))
theorem relO_one {v : V} {v' : Value} (r : RelV v v') (fld f : Str) : RelO (List.lookup f [(fld, v)]) (if f = fld then some v' else none) := by
  by_cases h : f = fld
  · subst h
    simpa [List.lookup, RelO] using r
  · have e : (f == fld) = false := by simpa using h
    simp [List.lookup, e, h, RelO]
theorem ps_raiseF {W : WX} {a : Expr} {ta : TA} {fI : Addr} {fld : Str} {k : Nat} (hc : X.calm = true) (tk : Takes X W) (T : ErrF X.prog X.w X.K X.mg x C fI fld) (hr : Room k X.A) (hk : 1 ≤ k) (ha : PA X [a] ta) (hg : Gl X x := by rfl) (hdb : (x == ("__debug__" : Str)) = false := by decide)
    (he : starEach (a :: []) X.env = (false, eval a X.env) :: starEach [] X.env := by rfl) (hpl : (backTo pos (starEach [] X.env)).any (·.1) = false := by rfl) :
    PS X (.Raise (some (.Call (.Name x p) [a] [] pos)) none pos2) (tRaiseF C fld W ta) := by
  refine ps_raise (t := fun σ H Q => ta σ H fun vs H1 => ∃ v, vs = [v] ∧ ShownV v ∧ ∀ d, H1 d = none → Q (.ref C) (some d) (upd H1 d (.xd [(fld, v)]))) hc tk ?_
  intro pins s σ H Q I h
  refine wpAny_Call_Name_kw (ld_glob I hg T.gC ?_ hdb)
  refine PySem.W.callWith_K (h₀ := X.base) I.ok.mod.kin T.sup.kC (thn (ha.run pos pins s σ H _ I h) fun us s1 hh => ?_) he hpl
  obtain ⟨vs, H1, I1, r1, v, ev, hsh, q1⟩ := hh
  subst ev
  refine ⟨I1.kIn, ?_⟩
  cases r1 with
  | @cons _ v' _ us' rv rn =>
    cases rn
    show wpAny _ _ (call (.ref C) [v']) _ _ _
    have hlim := I1.nolimit
    obtain ⟨mb, hB0, hB1⟩ := I1.mod.blt
    have hB : s1.heap.Ns builtinsNs mb := hB0.keeps I1.bk
    have hbs : mb "super" = some (.type "super") := (hB1 "super" (by decide)).trans (by decide +kernel)
    have hG : s1.heap.Ns mainGlobals X.mg := I1.mod.glob.keeps I1.bk
    have hsv : CcX.Shown v' := by
      rcases hsh with ⟨z, rfl, hz⟩ | ⟨i, rfl, hi⟩
      · obtain ⟨t, rfl⟩ := rv
        exact .inl ⟨z, t, rfl, hz⟩
      · obtain ⟨t, rfl⟩ := rv
        exact .inr ⟨i, t, rfl, hi⟩
    obtain ⟨hp, g, dr, tk', os⟩ := s1
    refine wpAny_call (CcX.sup_made T.sup hsv I1.kIn hlim hG hB hbs (by have := hr.dp; omega) fun h' tk2 e d M => ?_)
    show MkP X pins σ Q (.ref e) ⟨h', g, dr, tk2, os⟩
    obtain ⟨oe, fv, hoe, hcl, hd, hdat, h1⟩ := M.obj
    have hns := M.ns
    obtain ⟨G, g1, g2⟩ := restrict h' fun b => decide (b ≠ e)
    have gne : ∀ b, b ≠ e → G.get? b = h'.get? b := fun b hb => g1 b (decide_eq_true hb)
    have ge : G.get? e = none := g2 e (by simp)
    have old : ∀ b o, hp.get? b = some o → G.get? b = some o := fun b o q => (gne b (Nat.ne_of_lt (Nat.lt_of_lt_of_le (Heap.lt_size q) M.new))).trans (M.keep b o q)
    have ob : ObjOk X.prog X.w (upd H1 d (.xd [(fld, v)])) G d (.xd [(fld, v)]) := ⟨_, hns.at (fun o q => (gne d M.dne).trans q), fun f => relO_one rv fld f⟩
    have J : Inv X pins σ (upd H1 d (.xd [(fld, v)])) ⟨G, g, dr, tk2, os⟩ := I1.laid (t' := tk2) old M.dbig ob
    refine ⟨e, oe, fv, ⟨G, g, dr, tk2, os⟩, _, .ref C, some d, rfl, J, fun b o q => ?_, ge, hoe, ⟨hcl, hd⟩, hdat, h1, ?_, rfl, I1.bare, raises_own T.sup.exC T.sup.tyC, q1 d (I1.hok.fresh M.dbig)⟩
    · have q' : G.get? b = some o := q
      by_cases hb : b = e
      · rw [hb, ge] at q'; cases q'
      · exact (gne b hb).symm.trans q'
    · rw [upd_ne (Ne.symm M.dne)]
      exact I1.hok.fresh M.new
end
end Cc

namespace Cc
open PySem L2 PyProof.Rows
def CMk (P : Program) (w : World) (K : Fg) (mg : Str → Option Value) (base : Heap) (CX : CXT) (n : Nat) (x : Str) (C : Addr) (ps : List Str) (sp : Sp) : Prop :=
  ∃ (f : Addr) (fd : FuncData), Mk K C f ∧ FnOk P w K mg base CX n f fd ps sp ∧ mg x = some (.ref C) ∧ L2.Binds K fd ps []
def CMet (P : Program) (w : World) (K : Fg) (mg : Str → Option Value) (base : Heap) (CX : CXT) (n : Nat) (C : Addr) (m : Str) (ps : List Str) (sp : Sp) : Prop :=
  ∃ (f : Addr) (fd : FuncData), Cls K C ∧ Meth K C m f ∧ FnOk P w K mg base CX n f fd ps sp ∧ L2.Binds K fd ps []
def CPrp (P : Program) (w : World) (K : Fg) (mg : Str → Option Value) (base : Heap) (CX : CXT) (n : Nat) (C : Addr) (f : Str) (sp : Sp) : Prop :=
  ∃ (p g : Addr) (fd : FuncData), Cls K C ∧ PropOf K C f p g ∧ FnOk P w K mg base CX n g fd ["self"] sp ∧ L2.Binds K fd ["self"] []
abbrev E0 : XK := fun _ _ _ => False
theorem passN {X : Cx} : Passes (L2.CX X.prog X.w) X E0 := passes_call LamX.takes0 fun _ _ _ _ h => h
section
variable {X : Cx} {CX : CXT} {n m : Nat} {x f mt : Str} {C : Addr} {ps : List Str} {sp : Sp} {E : XK} {e o : Expr} {es : List Expr} {t : TA} {ta : TE} {p pos apos : Pos}
theorem pe_mk (M : CMk X.prog X.w X.K X.mg X.base CX n x C ps sp) (hr : Room m X.A) (hx : Passes CX X E) (ha : PA X (e :: es) t) (hg : Gl X x := by rfl) (hn : n + 1 ≤ m := by decide)
    (hdb : (x == ("__debug__" : Str)) = false := by decide) (he : starEach (e :: es) X.env = (false, eval e X.env) :: starEach es X.env := by rfl) (hpl : (backTo pos (starEach es X.env)).any (·.1) = false := by rfl) : PE X (.Call (.Name x p) (e :: es) [] pos) (tMake C sp [] E t) := by
  obtain ⟨f, fd, M, F, hm, hb⟩ := M
  exact pe_make M F (hr.mono hn) hg hm hb .nil hx ha hdb he hpl
theorem pe_met {pl : Sem Bool} (M : CMet X.prog X.w X.K X.mg X.base CX n C mt ps sp) (hr : Room m X.A) (hx : Passes CX X E) (ho : PE X o ta) (ha : PA X (e :: es) t) (hn : n ≤ m := by decide)
    (hst : starEach (e :: es) X.env = (false, eval e X.env) :: starEach es X.env := by rfl) (hpl : (backTo pos (starEach es X.env)).any (·.1) = false := by rfl)
    (ht : eval (.Call (.Attribute o mt apos) (e :: es) [] pos) X.env = (do
      let ov ← eval o X.env
      standAt apos.atName
      let (f, first) ← holding [ov] (getMethod ov mt pl)
      callWith pos f first (backTo pos (starEach (e :: es) X.env)) (backToKw pos (keywordEach [] X.env))) := by rfl) : PE X (.Call (.Attribute o mt apos) (e :: es) [] pos) (tMeth C mt sp [] E ta t) := by
  obtain ⟨f, fd, c, hm, F, hb⟩ := M
  exact pe_meth ho c hm F (hr.mono hn) hb .nil hx ha hst hpl ht
theorem pe_prp (M : CPrp X.prog X.w X.K X.mg X.base CX n C f sp) (hr : Room m X.A) (hx : Passes CX X.nox E) (he : PE X e ta) (hn : n + 1 ≤ m := by decide) (hab : attributeBase e f X.env (eval e X.env) = eval e X.env := by rfl) : PE X (.Attribute e f pos) (tProp C sp [] E ta) := by
  obtain ⟨q, g, fd, c, hp, F, hb⟩ := M
  exact pe_prop he c hp F (hr.mono hn) hb .nil hx hab
theorem pe_calS {W : WX} (K0 : Cal X.prog X.w X.K X.mg X.base (L2.CX X.prog X.w) n x ps sp) (hr : Room m X.A) (tk : Takes X W) (ha : PA X (e :: es) t) (hg : Gl X x := by rfl) (hn : n ≤ m := by decide)
    (hdb : (x == ("__debug__" : Str)) = false := by decide) (he : starEach (e :: es) X.env = (false, eval e X.env) :: starEach es X.env := by rfl) (hpl : (backTo pos (starEach es X.env)).any (·.1) = false := by rfl) : PE X (.Call (.Name x p) (e :: es) [] pos) (tCallS sp (WE W) t) := by
  obtain ⟨f, fd, F, hm, hk, hb⟩ := K0
  exact pe_callS F (hr.mono hn) hg hm hk hb (fun σ => passAt tk σ) ha hdb he hpl
end
section
variable {K : Fg} {σ : L2.St} {H H' : Hp} {ta : TE} {t : TA} {d : D} {C : Addr} {ns : List Str} {ds es : List D} {f m : Str} {sp : Sp} {E : XK}
theorem lookup_none {fs : List (Str × V)} (hn : fs.map (·.1) = ns) (h : m ∉ ns) : fs.lookup m = none := by
  subst hn
  induction fs with
  | nil => rfl
  | cons p fs ih =>
    simp only [List.map_cons, List.mem_cons, not_or] at h
    have e : (m == p.1) = false := by simpa using h.1
    simp only [List.lookup, e]
    exact ih h.2
end
end Cc

namespace Cc
open PySem L2
section
variable {K : Fg} {H H' : Hp}
theorem putF_new {f : Str} {v : V} : ∀ {fs : List (Str × V)}, f ∉ fs.map (·.1) → putF f v fs = fs ++ [(f, v)]
  | [], _ => rfl
  | (g, x) :: r, h => by
    simp only [List.map_cons, List.mem_cons, not_or] at h
    have e : ¬ g = f := fun z => h.1 z.symm
    simp only [putF, if_neg e, List.cons_append]
    rw [putF_new h.2]
variable {σ : L2.St} {to te : TE} {d : D} {ds : List D} {ns : List Str} {f : Str} {E : Ends}
end
end Cc

namespace Cc
open PySem L2 PyProof.Rows
section
variable {X : Cx} {a : Addr} {oe : Obj} {cls : Value} {d : Option Addr} {pn : List (Addr × Obj)}
def tXg (K : Fg) (a : Addr) (cls : Value) (d : Option Addr) (f : Str) (te : TE) : TE := fun σ H Q => te σ H fun x H1 => x = .ref a ∧ ∃ (C dd : Addr) (fs : List (Str × V)) (v : V), cls = .ref C ∧ XfC K C ∧ PySem.W.findIn K (.ref C) f = some none ∧ d = some dd ∧ H1 dd = some (.xd fs) ∧ fs.lookup f = some v ∧ Q v H1
theorem pe_xg {e : Expr} {te : TE} {pos : Pos} {n : Str} (hz : Zc cls d oe) (hf : ∃ vs, oe.data = .fields vs) (he : PE (X.suite a ((a, oe) :: pn)) e te) (hb : attributeBase e n X.env (eval e X.env) = eval e X.env := by rfl) {K : Fg} (hK : X.K = K := by rfl) : PE (X.suite a ((a, oe) :: pn)) (.Attribute e n pos) (tXg K a cls d n te) := by
  subst hK
  refine ⟨fun pins s σ H Q I h => attr_of hb (thn (he.run pins s σ H _ I h) fun u s1 hh => ?_)⟩
  obtain ⟨x, H1, I1, rx, rfl, C, dd, fs, v, rfl, XC, hno, rfl, ea, l, q⟩ := hh
  obtain rfl : u = Value.ref a := rx
  obtain ⟨hat, _⟩ := I1.pin (a, oe) (List.mem_append_left _ List.mem_cons_self)
  obtain ⟨vs, hdat⟩ := hf
  have hxd : ObjOk X.prog X.w H1 s1.heap dd (.xd fs) := I1.hok dd _ ea
  obtain ⟨mA, hns, hr⟩ := hxd
  obtain ⟨od, ho, hl⟩ := lookIn_ns hns
  obtain ⟨u, hu, ru⟩ := RelO.some_of (v := v) (o := mA n) (by rw [← l]; exact hr n)
  have nc : PySem.W.notCls oe = true := by unfold PySem.W.notCls; rw [hdat]
  have J : PySem.W.InstAt s1.heap a oe C (some od) := ⟨hat, hz.1, nc, by rw [hz.2]; exact ho⟩
  exact HandSPX.exc_get I1.kIn J XC.ga XC.gg XC.exC (PySem.W.findObj_own XC.hdC hno rfl (by rw [hl, hu])) (handed_of ru) ⟨v, H1, I1.tok _, ru, q⟩
end
end Cc

namespace Cc
open PySem L2 PyProof.Rows
section
variable {K : Fg} {σ : L2.St} {H H' : Hp} {ta tb te : TE} {d e z : D} {E : Ends}
theorem tabs_but {T : List (Addr × Str)} {r : Addr} {xs : List V} (h : LamX.Tabs T H) (hr : H r = some (.lst xs)) (b : But [r] H H') : LamX.Tabs T H' := fun p hp => by
  obtain ⟨ps, h1, h2, h3⟩ := h p hp
  have nr : ∀ c o, H c = some o → (∀ ys, o ≠ .lst ys) → c ∉ [r] := fun c o hc hn hm => by
    rw [List.mem_singleton.mp hm, hr] at hc
    exact hn xs (Option.some.inj hc).symm
  refine ⟨ps, b _ _ h1 (nr _ _ h1 fun ys z => by cases z), h2, fun pos cv hcv => ?_⟩
  obtain ⟨c, e1, e2⟩ := h3 pos cv hcv
  exact ⟨c, e1, b _ _ e2 (nr _ _ e2 fun ys z => by unfold LamX.CodeO at z; cases z)⟩
end
end Cc

namespace Cc
open PySem L2 PyProof.Rows
end Cc

namespace Cc
open PySem L2 PyProof.Rows
section
variable {X : Cx}
def tTupP (t : TA) : TE := fun σ H Q => t σ H fun xs H1 => xs.length ≤ sizeLine ∧ ∀ p o, H1 p = none → PlO o → Q (.ref p) (upd H1 p (.frz o (.tup xs)))
theorem pe_tupP {es : List Expr} {t : TA} {pos : Pos} {x1} (h : PA X es t) : PE X (.Tuple es x1 pos) (tTupP t) := by
  refine ⟨fun pins s σ H Q I hq => ?_⟩
  refine wpAny_Tuple_spliced (thn (h.run pos pins s σ H _ I hq) fun us s1 ⟨xs, H1, I1, r, z, q⟩ => ⟨by rw [← r.length]; exact z, ?_⟩)
  have hf : H1 s1.heap.objs.size = none := I1.hok.fresh (Nat.le_refl _)
  have hg := Heap.get?_push_size (h := s1.heap) (o := { cls := .type "tuple", data := .seq us.toArray }) rfl
  refine ⟨.ref s1.heap.objs.size, upd H1 s1.heap.objs.size (.frz _ (.tup xs)), I1.laid (t' := s1.toks) (fun b u e => Heap.get?_push_of_some _ e) (Nat.le_refl _) ⟨hg, z, us, r, ⟨_, hg, rfl, _, rfl⟩⟩, rfl, q _ _ hf ⟨rfl, rfl⟩⟩
def rCatP : R2 := fun x y H Q => ∃ a b xs ys, x = .ref a ∧ y = .ref b ∧ PlT H a xs ∧ PlT H b ys ∧ xs.length + ys.length ≤ sizeLine ∧
  (xs = [] → Q (.ref b) H) ∧ (xs ≠ [] → ys = [] → Q (.ref a) H) ∧ (xs ≠ [] → ys ≠ [] → ∀ p o, H p = none → PlO o → Q (.ref p) (upd H p (.frz o (.tup (xs ++ ys)))))
theorem op_catP : OpR X (binaryOp .Add) rCatP := by
  intro pins s σ H x y v u Q I rx ry h
  obtain ⟨a, b, xs, ys, rfl, rfl, ha, hb, hz, q0, q1, q2⟩ := h
  cases rx
  cases ry
  obtain ⟨its, r1, p1, _⟩ := I.tuple (ha.sq (K := X.K))
  obtain ⟨its2, r2, p2, _⟩ := I.tuple (hb.sq (K := X.K))
  by_cases hx : xs = []
  · subst hx
    cases r1
    exact cat_tup0 p1 p2 ⟨.ref b, H, I, rfl, q0 rfl⟩
  refine HT.cat_tup p1 p2 (fun z => hx (r1.nil_iff.mp z)) (fun z => ⟨.ref a, H, I, rfl, q1 hx (r2.nil_iff.mp z)⟩) (fun z => ?_) (by rw [← r1.length, ← r2.length]; exact hz)
  have hg := Heap.get?_push_size (h := s.heap) (o := { cls := .type "tuple", data := .seq (its ++ its2).toArray }) rfl
  refine ⟨.ref s.heap.objs.size, upd H s.heap.objs.size (.frz { cls := .type "tuple", data := .seq (its ++ its2).toArray } (.tup (xs ++ ys))), I.laid (t' := s.toks) (fun b ob q => Heap.get?_push_of_some _ q) (Nat.le_refl _) ⟨?_, by rw [List.length_append]; exact hz, its ++ its2, r1.append r2, ?_⟩, rfl, q2 hx (fun w => z (r2.nil_iff.mpr w)) _ _ (I.hok.fresh (Nat.le_refl _)) ⟨rfl, rfl⟩⟩
  · simpa using hg
  · simpa using IsTup.new _ _
def tBMP (r : V → List V → Hp → VK → Prop) (to : TE) (t : TA) : TE := fun σ H Q => to σ H fun x H1 => (∃ p xs, x = .ref p ∧ PlT H1 p xs) ∧ t σ H1 fun xs H2 => r x xs H2 Q
theorem pe_bmP {id : String} {name : Str} {o e : Expr} {es : List Expr} {to : TE} {t : TA} {apos cpos : Pos} {r : V → List V → Hp → VK → Prop} (slot : Slot "tuple" name id) (hty : typeOf (.builtin id) = pure (.type "method_descriptor")) (hm : MtR X id r) (ho : PE X o to) (ha : PA X (e :: es) t)
    (hbase : attributeBase o name X.env (eval o X.env) = eval o X.env := by rfl)
    (hfew : ((backTo cpos (starEach (e :: es) X.env)).all (fun x => !x.1) && (backToKw cpos (keywordEach [] X.env)).all (fun x => x.1.isSome) && decide ((e :: es).length + ([] : List Keyword).length + (if ([] : List Keyword).isEmpty then 0 else 1) < 30)) = true := by rfl)
    (hline : (apos.endLine == cpos.line) = true := by rfl) (hs : starEach (e :: es) X.env = (false, eval e X.env) :: starEach es X.env := by rfl) (hpl : (backTo cpos (starEach es X.env)).any (·.1) = false := by rfl) : PE X (.Call (.Attribute o name apos) (e :: es) [] cpos) (tBMP r to t) := by
  refine ⟨fun pins s σ H Q I h => ?_⟩
  refine wpAny_Call_method_late hbase hfew hline rfl (thn (ho.run pins s σ H _ I h) fun v s1 ⟨x, H1, I1, rx, ⟨p, ws, ex, po, pc, pe⟩, q1⟩ => ?_)
  subst ex
  cases rx
  obtain ⟨hg, _⟩ := (show ObjOk X.prog X.w H1 s1.heap p (.frz po (.tup ws)) from I1.hok p _ pe)
  refine ⟨"tuple", id, PySem.F.plainAttrs_tuple, slot, hty, ⟨po, hg, pc.1⟩, fun a' e' => ?_, ?_⟩
  · cases e'
    exact ⟨po, hg, pc.2⟩
  have hA := ha.run cpos pins s1 σ H1 _ I1 q1
  rw [hs] at hA ⊢
  refine Calls.callWith_builtin (by show (false || (backTo cpos (starEach es X.env)).any (·.1)) = false; rw [hpl] <;> rfl) (Calls.evalArgs_plain ?_)
  exact thn hA fun us s2 ⟨vs, H2, I2, r2, q2⟩ => hm pins s2 σ H2 (.ref p) vs (.ref p) us Q I2 rfl r2 q2
end
section
variable {K : Fg} {σ : L2.St} {H : Hp}
end
end Cc

namespace Cc
open PySem PySem.Spec L2 PyProof.Rows
theorem _root_.L2.Room.units65 {k : Nat} {A : Around} (r : Room k A) : A.units + 65 < cLine := by have := r.un; omega
theorem tuple_mul1 (l : Addr) (items : Array Value) (n : Nat) (dd : Option Addr) (sl : Array (Option Value)) (u : Tok) :
    Meets (Builtin.«tuple.__mul__» ⟨[.ref l, .int 1 u], []⟩) (fun _ R s => s.heap.get? l = some { cls := .type "tuple", dict := dd, data := .seq items n, slots := sl } ∧ R (.ok (.ret (Value.ref l))) s) :=
  .of_wp fun prog w A R s h => by
    obtain ⟨hp, g, d, tk, os⟩ := s
    obtain ⟨hl, h⟩ := h
    have f1 := AutoSeq1.idx_int
    have c0 : (decide ((1 : Int) < -(2 ^ 63)) || decide ((1 : Int) ≥ 2 ^ 63)) = false := by decide
    have c1 : (items.isEmpty || (1 : Int) == 1) = true := by simp
    wp_walk using wpAny_loadPart' hl
    repeat (first
      | (refine wpAny_ite_false (decide_eq_false (by rw [c0]; exact Bool.false_ne_true)) ?_; wp_walk using wpAny_loadPart' hl)
      | (refine wpAny_ite_true (decide_eq_true (by rw [c1])) ?_; wp_walk using wpAny_loadPart' hl))
    first
      | exact ⟨_, rfl, h⟩
      | exact h
def rRepTA (K : PySem.W.Frag) : R2 := fun x y H Q => ∃ l k xs, x = .ref l ∧ y = .int k ∧ SqT K H l xs ∧ xs ≠ [] ∧ 1 ≤ k ∧ k ≤ 1000 ∧ xs.length ≤ 1000 ∧ (k = 1 → Q (.ref l) H) ∧ (2 ≤ k → ∀ p, H p = none → Q (.ref p) (upd H p (.tup (List.replicate k.toNat xs).flatten)))
theorem op_repTA {X : Cx} : OpR X (binaryOp .Mult) (rRepTA X.K) := by
  intro pins s σ H x y v u Q I rx ry h
  obtain ⟨l, k, xs, rfl, rfl, hT, hne, h1, h2, hz, q1, q2⟩ := h
  by_cases hk : k = 1
  · subst hk
    cases rx
    obtain ⟨t, rfl⟩ := ry
    obtain ⟨its, r, ⟨⟨cls, dd, data, sl⟩, ho, hc, n, hd⟩, hs⟩ := I.tuple hT
    simp only at hc hd
    subst hc hd
    exact wpAny_binaryOp_repeat_ref (T := "tuple") (U := "int") (by decide) ⟨_, ho, rfl⟩ (fun s' => typeIs_int s' 1 t) noFill_tuple_mul F.fills_int_mul F.slot_int_rmul repeat_tuple F.slot_int_index.lookup
      (call_meets F.slot_int_rmul (typeIs_int s 1 t) F.entry_int_rmul (F.args_int_rmul_2 _ _) (int_rmul_tuple 1 t l its.toArray n dd sl)
        ⟨ho, rfl, ⟨_, ho, rfl⟩, call_meets F.slot_tuple_mul ⟨_, ho, rfl⟩ F.entry_tuple_mul (F.args_tuple_mul_2 _ _) (tuple_mul1 l its.toArray n dd sl t) ⟨ho, .ref l, H, I, rfl, q1 rfl⟩⟩)
  · exact op_repT pins s σ H (.ref l) (.int k) v u Q I rx ry ⟨l, k, xs, rfl, rfl, hT, hne, by omega, h2, hz, q2 (by omega)⟩
end Cc
namespace Cc
open PySem PySem.Spec L2 PyProof.Rows PySem.W
def rMinL (K : PySem.W.Frag) : List V → Hp → VK → Prop := fun vs H Q => ∃ (a : Addr) (xs : List V) (y : PyData) (ys : List PyData), vs = [.ref a] ∧ SqL K H a xs ∧ DpAll K H xs (y :: ys) ∧ AlikeAll (y :: ys) ∧ PyData.depthAll (y :: ys) ≤ 60 ∧
  ∀ (i : Nat) (x : V), xs[i]? = some x → (y :: ys)[i]? = some (minD y ys) → Q x H
theorem reads_all_at {h : Heap} : ∀ {vs : List Value} {ds : List PyData} {as : List Addr} {i : Nat} {v : Value}, ReadsAll h vs ds as → vs[i]? = some v → ∃ d bs, ds[i]? = some d ∧ Reads h v d bs
  | _, _, _, _, _, .nil, e => by simp at e
  | _, _, _, 0, _, .cons r _, e => by simp at e; subst e; exact ⟨_, _, rfl, r⟩
  | _, _, _, i + 1, x, .cons _ t, e => by
    obtain ⟨d, bs, h1, h2⟩ := reads_all_at (i := i) (v := x) t (by simpa using e)
    exact ⟨d, bs, by simpa using h1, h2⟩
theorem vals_back {vs : List V} {us : List Value} (r : Vals vs us) {i : Nat} {u : Value} (h : us[i]? = some u) : ∃ v, vs[i]? = some v ∧ RelV v u := by
  have hl := r.length
  have hi : i < vs.length := by
    have := (List.getElem?_eq_some_iff.mp h).1
    omega
  obtain ⟨u', e, ru⟩ := r.get (List.getElem?_eq_getElem hi)
  rw [h] at e
  cases e
  exact ⟨_, List.getElem?_eq_getElem hi, ru⟩
section
variable {X : Cx}
theorem call_minL (hc : X.calm = true) (hu : X.A.units + 65 < cLine) : CallR X (.builtin "min") (rMinL X.K) := by
  intro pins s σ H vs us Q I r h
  obtain ⟨a, xs, y, ys, rfl, hs, hd, ha, hz, q⟩ := h
  obtain rfl := Vals.ref1 r
  obtain ⟨its, rv, hl, hlen⟩ := I.list hs
  obtain ⟨as, hr⟩ := Dp.readsAll I (y :: ys) xs its hd rv
  refine min_list_data (I.ok.hd hc) hl.isList (x := y) (xs := ys) (as := as) (by simpa using hr) ha (by omega) fun i v h' tk bs hv hm hk => ?_
  have hv' : its[i]? = some v := by simpa using hv
  obtain ⟨d, bs', hdi, hrd⟩ := reads_all_at hr hv'
  have ed := (PySem.Reads.unique (reads_keeps hk hrd) _ _ hm).1
  obtain ⟨x, hx, rx⟩ := vals_back rv hv'
  exact ⟨x, H, I.kept (t' := tk) hk, rx, q i x hx (by rw [hdi, ed])⟩
theorem minL {K : Fg} (hu : X.A.units + 65 < cLine) (hc : X.calm = true := by rfl) (h : X.K = K := by rfl) : CallR X (.builtin "min") (rMinL K) := h ▸ call_minL hc hu
end
def ltP (p q : Int × Int) : Bool := decide (p.1 < q.1 ∨ (p.1 = q.1 ∧ p.2 < q.2))
def minP (p : Int × Int) (ps : List (Int × Int)) : Int × Int := ps.foldl (fun a y => if ltP y a then y else a) p
section
variable {K : Fg} {σ : L2.St} {H : Hp} {te tz : TE}
end
end Cc

namespace Cc
open PySem L2 PyProof.Rows
def rIdxT (K : Fg) : V → List V → Hp → VK → Prop := fun x xs H Q => ∃ (p : Addr) (ys : List V) (y z : V) (j : Nat), x = .ref p ∧ xs = [y] ∧ SqT K H p ys ∧ flatV y = true ∧ ys.all flatV = true ∧ ys[j]? = some z ∧ eqV z y = true ∧ (∀ m z', m < j → ys[m]? = some z' → eqV z' y = false) ∧ Q (.int (j : Nat)) H
theorem mt_idxT {X : Cx} {K : Fg} (hK : X.K = K := by rfl) : MtR X "tuple.index" (rIdxT K) := by
  subst hK
  intro pins s σ H x xs v us Q I rx rxs h
  obtain ⟨p, ys, y, z, j, rfl, rfl, hs, fy, fys, hj, hz, hno, q⟩ := h
  cases rx
  obtain ⟨uy, rfl, ry⟩ := rxs.one
  obtain ⟨its, rv, ⟨⟨cl, dd, data, sl⟩, ho, hc, n, hdt⟩, hlen⟩ := I.tuple hs
  simp only at hc hdt
  subst hc hdt
  have hl : its.toArray.size = ys.length := by rw [List.size_toArray]; exact rv.length.symm
  have hj' : j < its.toArray.size := by rw [hl]; exact (List.getElem?_eq_some_iff.mp hj).1
  have at' : ∀ (m : Nat) (hm : m < its.toArray.size), ∃ w, ys[m]? = some w ∧ eqU y its.toArray[m] = eqV w y := fun m hm => by
    have hm' : m < ys.length := by rw [← hl]; exact hm
    obtain ⟨u, hu, ru⟩ := rv.get (i := m) (x := ys[m]) (by simp [hm'])
    refine ⟨ys[m], List.getElem?_eq_getElem hm', ?_⟩
    have e := (List.getElem?_eq_some_iff.mp hu).2
    have f : flatV ys[m] = true := List.all_eq_true.mp fys _ (List.getElem_mem hm')
    have e2 : its.toArray[m] = u := by rw [← e]; simp
    rw [e2]
    exact eqU_of ru f
  refine call_meets PySem.F.slot_tuple_index ⟨_, ho, rfl⟩ PySem.F.entry_tuple_index (PySem.F.args_tuple_index_2 _ _) (TI.tuple_indexAt p its.toArray n dd sl uy (eqU y) j hj' ?_ ?_)
    ⟨ho, fun u' hu' => mem_eqAt ry fy rv fys u' (by simpa using hu'), ⟨.int (j : Nat), H, I.tok _, ⟨_, rfl⟩, q⟩⟩
  · obtain ⟨w, h1, h2⟩ := at' j hj'
    rw [hj] at h1
    cases h1
    rw [h2]; exact hz
  · intro m hm hmj
    obtain ⟨w, h1, h2⟩ := at' m hm
    rw [h2]
    exact hno m w hmj h1
end Cc

namespace Cc
open PySem PySem.Spec L2 PyProof.Rows PySem.W
def nD (j : Nat) : D := .int (j : Nat)
def rowD (p : Int × List Nat) : D := .tup [.int p.1, .tup (p.2.map nD)]
def ltT (p q : Int × List Nat) : Bool := dataLt (rowD p).py (rowD q).py
def minT (p : Int × List Nat) (ps : List (Int × List Nat)) : Int × List Nat := ps.foldl (fun a y => if ltT y a then y else a) p
theorem minD_rows : ∀ (ps : List (Int × List Nat)) (p : Int × List Nat), minD (rowD p).py (ps.map fun q => (rowD q).py) = (rowD (minT p ps)).py
  | [], _ => rfl
  | q :: ps, p => by
    have ih := minD_rows ps
    unfold minD minT at ih ⊢
    rw [List.map_cons, List.foldl_cons, List.foldl_cons, ← ih]
    congr 1
    show (if ltT q p = true then _ else _) = _
    by_cases h : ltT q p = true <;> simp [h]
theorem alike_nums : ∀ {x y : List Nat}, x.length = y.length → alikeAll (D.pys (x.map nD)) (D.pys (y.map nD)) = true
  | [], [], _ => rfl
  | a :: x, b :: y, h => by
    have ih := alike_nums (x := x) (y := y) (by simpa using h)
    simp only [List.map_cons, D.pys, alikeAll, nD, D.py, alike, Bool.true_and] at ih ⊢
    exact ih
  | [], b :: y, h => by simp at h
  | a :: x, [], h => by simp at h
theorem alike_rows {n : Nat} {ps : List (Int × List Nat)} (h : ∀ p ∈ ps, p.2.length = n) : AlikeAll (ps.map fun q => (rowD q).py) := by
  refine ⟨fun x hx y hy => ?_, fun x hx => ?_⟩
  · obtain ⟨p, hp, rfl⟩ := List.mem_map.mp hx
    obtain ⟨q, hq, rfl⟩ := List.mem_map.mp hy
    have := alike_nums (x := p.2) (y := q.2) (by rw [h p hp, h q hq])
    simp only [rowD, D.py, D.pys, alike, alikeAll, Bool.true_and, Bool.and_true]
    exact this
  · obtain ⟨p, _, rfl⟩ := List.mem_map.mp hx
    exact fun h => nomatch h
theorem depth_nums : ∀ x : List Nat, PyData.depthAll (D.pys (x.map nD)) ≤ 1
  | [] => Nat.zero_le _
  | a :: x => by
    have := depth_nums x
    simp only [List.map_cons, D.pys, PyData.depthAll, nD, D.py, PyData.depth] at this ⊢
    omega
theorem depth_rows : ∀ ps : List (Int × List Nat), PyData.depthAll (ps.map fun q => (rowD q).py) ≤ 3
  | [] => Nat.zero_le _
  | p :: ps => by
    have := depth_rows ps
    have h2 := depth_nums p.2
    simp only [List.map_cons, PyData.depthAll, rowD, D.py, D.pys, PyData.depth] at this h2 ⊢
    omega
section
variable {K : Fg} {σ : L2.St} {H : Hp} {te tz : TE}
end
end Cc

namespace Cc
open PySem L2 PyProof.Rows
end Cc

namespace Cc
open PySem L2 RZ
theorem walk_zipT {K : Fg} {a b : Addr} {xs ys : List V} {n : Nat} (hn : n = min xs.length ys.length) : Walk (ItzT K a b) n (fun H => SqT K H a xs ∧ SqT K H b ys) (YPair (fun i => xs[i]?) (fun i => ys[i]?)) := by
  subst hn
  refine ⟨fun i _ hi q => ?_, fun _ q => ⟨xs, ys, q.1, q.2, by omega⟩, fun i H v H' _ q y => ?_⟩
  · have h1 : i < xs.length := by omega
    have h2 : i < ys.length := by omega
    exact ⟨xs, ys, xs[i], ys[i], q.1, q.2, by simp [h1], by simp [h2]⟩
  · obtain ⟨T, x, z, h1, h2, h3, h4, h5⟩ := y
    exact ⟨T, x, z, h1, h2, h3, h4 xs q.1, h5 ys q.2⟩
theorem pi_zK {X : Cx} (K : Fg) {e e2 : Expr} {ta : TA} {p pos tpos : Pos} {elts : List Expr} {kk : Nat} (hm : X.mg "zip" = none) (ha : PA X [e, e2] ta) (hg : Gl X "zip" := by rfl) (h : X.K = K := by rfl)
    (he : starEach [e, e2] X.env = (false, eval e X.env) :: starEach [e2] X.env := by rfl) (hp : (backTo pos (starEach [e2] X.env)).any (·.1) = false := by rfl) : PI X (.Tuple elts kk tpos) (.Call (.Name "zip" p) [e, e2] [] pos) (iZipA K ta) := h ▸ pi_zipA hg hm ha he hp
theorem pg_tK {X : Cx} (K : Fg) {es : List Expr} {k : Nat} {t : TGs} {n : Nat} {pos : Pos} (hc : X.calm = true) (h : PGs X es t) (hk : X.K = K := by rfl)
    (hn : (assignEach es X.env).length = n := by rfl) (hst : (assignEach es X.env).findIdx? (·.1) = none := by rfl) : PG X (.Tuple es k pos) (gTup K n t) := hk ▸ pg_tup hc h hn hst
section
variable {K : Fg} {σ : L2.St} {H H' : Hp} {te : TE} {t : TT}
end
end Cc

namespace CcE
open PySem PySem.AutoSeq1
open Sem (wp)
theorem meets_newT (l : Addr) (items : Array Value) (n : Nat) (dct : Option Addr) (sl : Array (Option Value)) :
    Meets (Builtin.«enumerate.__new__» ⟨[.type "enumerate", .ref l], []⟩) (fun _ R s => s.heap.get? l = some { cls := .type "tuple", dict := dct, data := .seq items n, slots := sl } ∧
      R (.ok (.ret (.ref (s.heap.push { cls := .type "tuple_iterator", data := .fields #[.ref l, .int 0 0] }).objs.size)))
        { s with heap := (s.heap.push { cls := .type "tuple_iterator", data := .fields #[.ref l, .int 0 0] }).push { cls := .type "enumerate", data := .fields #[.none, .bool false, .ref s.heap.objs.size, rawInt 0, .none, .none] } }) :=
  .of_wp fun prog w A R s h => by
    obtain ⟨hp, g, d, tk, os⟩ := s; obtain ⟨hl, h⟩ := h
    have hsub := sub_enumerate
    have hL : Heap.IsTuple (Shared.heap ⟨hp, g, d, tk, os⟩) l items := ⟨_, hl, rfl, n, rfl⟩
    wp_walk using wpAny_loadPart' hl
    refine wpAny_stack_any fun st => wpAny_pure ?_
    split
    · rename_i c _ _ _ _ _
      cases (c == Value.type "enumerate")
      · wp_walk using wpAny_loadPart' hl, wpAny_pyIter_tuple hL
        exact ⟨_, rfl, h⟩
      · wp_walk using wpAny_loadPart' hl, wpAny_pyIter_tuple hL
        exact ⟨_, rfl, h⟩
    · wp_walk using wpAny_loadPart' hl, wpAny_pyIter_tuple hL
      exact ⟨_, rfl, h⟩
theorem drawsT {prog : Program} {w : World} {A : Around} (hh : A.handled = none) (it l : Addr) (hne : l ≠ it) (items : Array Value) :
    Draws prog w A it [it, l] items.size (fun i v => items[i]? = some v) (fun i h => h.IsTupleIter it l i ∧ h.IsTuple l items) where
  live := fun _ _ st => let ⟨o, ho, _⟩ := st.1; ⟨o, ho⟩
  frame := fun _ _ _ st hk => ⟨st.1.at fun o e => hk it (by simp) o e, st.2.at fun o e => hk l (by simp) o e⟩
  item := fun i s Q E hi st hQ => by
    refine RZ.nextOf_tuple_item st.1 st.2 (x := items[i]) (by simp [hi]) fun h' hit' hs' => ?_
    exact hQ _ h' s.toks (by simp [hi]) ⟨hit', st.2.extBut hs'.extBut hne⟩ hs'
  done := fun s Q E st hE => RZ.nextOf_tuple_end hh st.1 st.2 (by simp) hE
section
variable {prog : Program} {w : World} {A : Around} {E : Value → Shared → Prop} {s : Shared}
theorem call_enumT {l : Addr} {items : Array Value} {Q : Value → Shared → Prop} (hL : s.heap.IsTuple l items)
    (k : ∀ h', IsEnum h' (s.heap.objs.size + 1) s.heap.objs.size 0 .none → h'.IsTupleIter s.heap.objs.size l 0 → h'.objs.size = s.heap.objs.size + 2 → (∀ b o, s.heap.get? b = some o → h'.get? b = some o) → Q (.ref (s.heap.objs.size + 1)) { s with heap := h' }) :
    wpAny (model prog w) A (call (.type "enumerate") [.ref l]) Q E s := by
  obtain ⟨⟨c, dct, dt, sl⟩, hl, hc, n, hd⟩ := hL
  have hc' : c = .type "tuple" := hc
  have hd' : dt = .seq items n := hd
  subst hc' hd'
  refine callType_new F.called_enumerate (by decide) (F.typeCall_enumerate_1 _) (F.newCall_enumerate_1 _) (fun obj => F.args_object_init_2 obj _) F.entry_enumerate_new (meets_newT l items n dct sl) ⟨hl, ?_⟩
  have sz : (s.heap.push { cls := .type "tuple_iterator", data := .fields #[.ref l, .int 0 0] }).objs.size = s.heap.objs.size + 1 := Heap.size_push ..
  show _ ∧ _
  rw [sz]
  have en : IsEnum ((s.heap.push { cls := .type "tuple_iterator", data := .fields #[.ref l, .int 0 0] }).push { cls := .type "enumerate", data := .fields #[.none, .bool false, .ref s.heap.objs.size, rawInt 0, .none, .none] }) (s.heap.objs.size + 1) s.heap.objs.size 0 .none := by
    have z := Heap.get?_push_size (s.heap.push { cls := .type "tuple_iterator", data := .fields #[.ref l, .int 0 0] }) (o := { cls := .type "enumerate", data := .fields #[.none, .bool false, .ref s.heap.objs.size, rawInt 0, .none, .none] }) rfl
    rw [sz] at z; exact z
  exact ⟨⟨_, en, rfl⟩, k _ en ⟨_, Heap.get?_push_of_some _ (Heap.get?_push_size _ rfl), rfl, rfl⟩ (by rw [Heap.size_push, sz]) fun b o x => Heap.get?_push_of_some _ (Heap.get?_push_of_some _ x)⟩
theorem wpAny_pyNext_enum_endT {e it l : Addr} {i : Nat} {items : Array Value} {old : Value} {n : Int} {Q : Option Value → Shared → Prop} (hh : A.handled = none) (he : IsEnum s.heap e it n old) (hit : s.heap.IsTupleIter it l i) (hl : s.heap.IsTuple l items) (hi : items.size ≤ i)
    (k : ∀ h', Heap.ExtBut it s.heap h' → Q none { s with heap := h' }) : wpAny (model prog w) A (pyNext (.ref e)) Q E s := by
  have D : Draws prog w A.in1 it [it, l] 0 (fun _ _ => True) (fun _ h => h.IsTupleIter it l i ∧ h.IsTuple l items) :=
    { live := fun _ _ st => let ⟨o, ho, _⟩ := st.1; ⟨o, ho⟩, frame := fun _ _ _ st hk => ⟨st.1.at fun o e => hk it (by simp) o e, st.2.at fun o e => hk l (by simp) o e⟩,
      item := fun _ _ _ _ hi => absurd hi (Nat.not_lt_zero _), done := fun s Q E st hE => RZ.nextOf_tuple_end hh st.1 st.2 (Array.getElem?_eq_none_iff.mpr hi) hE }
  exact wpAny_pyNext_enum_endD D he ⟨hit, hl⟩ k
end
end CcE
namespace CcE
open PySem L2 PyProof.Rows
def Itet (K : PySem.W.Frag) (a : Addr) : It :=
  ⟨fun i H => ∃ (xs : List V) (x : V), SqT K H a xs ∧ xs[i]? = some x, fun i H v H' => ∃ T x, v = .ref T ∧ H T = none ∧ H' = upd H T (.tup [.int (i : Nat), x]) ∧ ∀ xs, SqT K H a xs → xs[i]? = some x, fun i H => ∃ xs : List V, SqT K H a xs ∧ xs.length ≤ i⟩
theorem turn_et {P : Program} {w : World} {K : PySem.W.Frag} {elts : List Expr} {kk : Nat} {tpos : Pos} (a e it : Addr) (hai : a ≠ it) (hae : a ≠ e) :
    Turn P w K (.Tuple elts kk tpos) (Itet K a) [e, it] e (fun i h => (∃ old, IsEnum h e it ((i : Nat) : Int) old) ∧ h.IsTupleIter it a i ∧ e ≠ it) where
  mem := by simp
  obj := fun i h st b hb => by
    obtain ⟨⟨old, he⟩, ⟨o, ho, hc, hd⟩, _⟩ := st
    rcases (by simpa using hb : b = e ∨ b = it) with rfl | rfl
    · exact ⟨_, he, fun v q => nomatch q⟩
    · exact ⟨o, ho, fun v q => by rw [hd] at q; cases q⟩
  keep := fun i h h' st k => let ⟨⟨old, he⟩, hi, hne⟩ := st; ⟨⟨old, k e (by simp) _ he⟩, hi.at fun o q => k it (by simp) o q, hne⟩
  item := by
    intro X hP hw hK hc i pins s σ H E I hf st hg
    subst hP hw hK
    obtain ⟨⟨old, he⟩, hit, hne⟩ := st
    obtain ⟨xs, x, hq, hx⟩ := hg
    obtain ⟨its, rv, p, hz⟩ := I.tuple hq
    obtain ⟨u, hu, ru⟩ := rv.get hx
    have hel : e < s.heap.objs.size := Heap.lt_size he
    have hil : it < s.heap.objs.size := by obtain ⟨_, q, _⟩ := hit; exact Heap.lt_size q
    have hlt : i < its.toArray.size := by
      have := (List.getElem?_eq_some_iff.mp hu).1
      simpa using this
    refine wpAny_pyNext_enum_itemD (drawsT (prog := X.prog) (w := X.w) (A := X.A.in1) (I.ok.hd hc) it a hai its.toArray) he ⟨hit, p⟩ hlt hne (by simp [hne, Ne.symm hae]) fun u' h' tk hu' ho hst' hT hsz hk => ?_
    have eu : u' = u := by
      have z : its[i]? = some u' := by simpa using hu'
      rw [hu] at z
      exact (Option.some.inj z).symm
    subst eu
    refine ⟨_, rfl, wpAny_letOwnedTupleGo_enum (s := { s with heap := h', toks := tk + 1 }) ho fun h'' he' sb => ?_⟩
    have hT2 : h''.get? s.heap.objs.size = some { cls := .type "tuple", data := .seq #[.int i tk, u'] } := (sb.2 _ (Nat.ne_of_gt hel)).trans hT
    have new : ObjOk X.prog X.w (upd H s.heap.objs.size (.tup [.int (i : Nat), x])) h'' s.heap.objs.size (.tup [.int (i : Nat), x]) :=
      ⟨by show 2 ≤ sizeLine; decide, [.int i tk, u'], .cons ⟨_, rfl⟩ (.cons ru .nil), ⟨_, hT2, rfl, _, rfl⟩⟩
    have I1 : Inv X pins σ (upd H s.heap.objs.size (.tup [.int (i : Nat), x])) { s with heap := h'', toks := tk + 1 } :=
      I.turnedNew (ch := [e, it]) (fun b ob hb q => (sb.2 b (fun z => hb (by simp [z]))).trans (hk b ob (fun z => hb (by simp [z])) (fun z => hb (by simp [z])) q)) hf (Nat.le_refl _) new
    refine ⟨.ref s.heap.objs.size, _, I1, rfl, ⟨_, x, rfl, I.hok.fresh (Nat.le_refl _), rfl, fun ys hy => ?_⟩, ⟨⟨u', ?_⟩, hst'.1.at fun o q => (sb.2 it (Ne.symm hne)).trans q, hne⟩, fun b hb => ?_⟩
    · rw [I.tuple_inj hy hq]; exact hx
    · have e1 : ((i + 1 : Nat) : Int) = (i : Int) + 1 := by omega
      rw [e1]; exact he'
    · have hb' : b < s.heap.objs.size := by
        rcases (by simpa using hb : b = e ∨ b = it) with rfl | rfl
        · exact hel
        · exact hil
      rw [upd_ne (Nat.ne_of_lt hb')]
      exact (hf b hb).1
  done := by
    intro X hP hw hK hc i pins s σ H E I hf st hg
    subst hP hw hK
    obtain ⟨⟨old, he⟩, hit, hne⟩ := st
    obtain ⟨xs, hq, hx⟩ := hg
    obtain ⟨its, rv, p, hz⟩ := I.tuple hq
    obtain ⟨f0, f1, f2, f3, f4, f5⟩ := hf it (by simp)
    have hl := rv.length
    have hend : its.toArray.size ≤ i := by rw [List.size_toArray]; omega
    obtain ⟨o, ho, hcl, hd⟩ := id hit
    refine wpAny_pyNext_enum_endT (I.ok.hd hc) he hit p hend fun h' eb => ⟨rfl, I.turned (t' := s.toks) (fun b o hb q => eb b o hb q) f0 f1 f3 f4 f5⟩
  self := fun A i s Q E st h => let ⟨⟨_, he⟩, _⟩ := st; wpAny_pyIter_enum he h
def iEnumT (K : PySem.W.Frag) (ta : TA) : TI := fun σ H R => ta σ H fun vs H1 => ∃ a xs, vs = [.ref a] ∧ SqT K H1 a xs ∧ R (Itet K a) H1
theorem pi_enumT {X : Cx} (K : PySem.W.Frag) {e : Expr} {ta : TA} {p pos tpos : Pos} {elts : List Expr} {kk : Nat} (hm : X.mg "enumerate" = none) (ha : PA X [e] ta) (hK : X.K = K := by rfl) (hg : Gl X "enumerate" := by rfl) (hs : starEach [e] X.env = [(false, eval e X.env)] := by rfl) :
    PI X (.Tuple elts kk tpos) (.Call (.Name "enumerate" p) [e] [] pos) (iEnumT K ta) := by
  subst hK
  refine ⟨fun pins s σ H R I h => ?_⟩
  refine Call_ (ld_blt I hg hm boot_enumerate (PyProof.Rows.callWith_type1 (thn (ha.run pos pins s σ H _ I h) fun us s1 ⟨vs, H1, I1, r1, q1⟩ => ?_) hs rfl))
  obtain ⟨a, xs, rfl, hq, q⟩ := q1
  cases r1 with
  | cons r rr =>
    cases rr
    cases r
    obtain ⟨its, rv, tp, hz⟩ := I1.tuple hq
    have hal : a < s1.heap.objs.size := by obtain ⟨o, ho, _⟩ := tp; exact Heap.lt_size ho
    refine call_enumT tp fun h' he hit hsz hk => wpAny_pyIter_enum he ?_
    have I2 : Inv X pins σ H1 { s1 with heap := h' } := I1.kept (t' := s1.toks) hk
    refine ⟨s1.heap.objs.size + 1, [s1.heap.objs.size + 1, s1.heap.objs.size], _, _, H1, rfl, I2, turn_et a (s1.heap.objs.size + 1) s1.heap.objs.size (Nat.ne_of_lt hal) (Nat.ne_of_lt (Nat.lt_succ_of_lt hal)), ⟨⟨.none, he⟩, hit, Nat.succ_ne_self _⟩, fun b hb => ?_, q⟩
    have hle : s1.heap.objs.size ≤ b := by
      rcases (by simpa using hb : b = s1.heap.objs.size + 1 ∨ b = s1.heap.objs.size) with rfl | rfl
      · exact Nat.le_succ _
      · exact Nat.le_refl _
    exact I1.fpOk hle (I1.hok.fresh hle)
theorem walk_et {K : PySem.W.Frag} {a : Addr} {xs : List V} : Walk (Itet K a) xs.length (fun H => SqT K H a xs) (YPair (fun i => some (.int (i : Nat))) (fun i => xs[i]?)) := by
  refine ⟨fun i _ hi q => ⟨xs, xs[i], q, by simp [hi]⟩, fun _ q => ⟨xs, q, Nat.le_refl _⟩, fun i H v H' _ q y => ?_⟩
  obtain ⟨T, x, h1, h2, h3, h4⟩ := y
  exact ⟨T, .int (i : Nat), x, h1, h2, h3, rfl, h4 xs q⟩
end CcE

namespace Mi
open PySem L2 Cc
inductive M (α : Type) where
  | ret (a : α)
  | err (c : Str) (p : List D)
  | bad
  | draw (n : Int) (k : Int → M α)
namespace M
variable {α β γ : Type}
def bind : M α → (α → M β) → M β
  | .ret a, f => f a
  | .err c p, _ => .err c p
  | .bad, _ => .bad
  | .draw n k, f => .draw n fun i => (k i).bind f
def wp : M α → (α → Prop) → (Str → List D → Prop) → Prop
  | .ret a, Q, _ => Q a
  | .err c p, _, E => E c p
  | .bad, _, _ => False
  | .draw n k, Q, E => (0 < n ∧ n < 1073741824) ∧ ∀ i, 0 ≤ i → i < n → (k i).wp Q E
def calm : M α → M α
  | .ret a => .ret a
  | .err _ _ => .bad
  | .bad => .bad
  | .draw n k => .draw n fun i => (k i).calm
@[simp] theorem bind_ret {a : α} {f : α → M β} : (M.ret a).bind f = f a := rfl
@[simp] theorem bind_err {c : Str} {p : List D} {f : α → M β} : (M.err c p).bind f = M.err c p := rfl
@[simp] theorem bind_bad {f : α → M β} : (M.bad).bind f = M.bad := rfl
@[simp] theorem bind_draw {n : Int} {k : Int → M α} {f : α → M β} : (M.draw n k).bind f = M.draw n fun i => (k i).bind f := rfl
@[simp] theorem wp_ret {a : α} {Q : α → Prop} {E} : (M.ret a).wp Q E = Q a := rfl
@[simp] theorem wp_err {c : Str} {p : List D} {Q : α → Prop} {E} : (M.err c p).wp Q E = E c p := rfl
@[simp] theorem wp_bad {Q : α → Prop} {E} : (M.bad).wp Q E = False := rfl
theorem wp_draw {n : Int} {k : Int → M α} {Q : α → Prop} {E} : (M.draw n k).wp Q E = ((0 < n ∧ n < 1073741824) ∧ ∀ i, 0 ≤ i → i < n → (k i).wp Q E) := rfl
@[simp] theorem calm_ret {a : α} : (M.ret a).calm = M.ret a := rfl
@[simp] theorem calm_bad : (M.bad : M α).calm = M.bad := rfl
@[simp] theorem calm_draw {n : Int} {k : Int → M α} : (M.draw n k).calm = M.draw n fun i => (k i).calm := rfl
theorem wp_bind {Q : β → Prop} {E} {f : α → M β} : ∀ m : M α, (m.bind f).wp Q E ↔ m.wp (fun a => (f a).wp Q E) E
  | .ret _ => Iff.rfl
  | .err _ _ => Iff.rfl
  | .bad => Iff.rfl
  | .draw n k => by
    simp only [bind_draw, wp_draw]
    exact and_congr_right fun _ => forall_congr' fun i => forall_congr' fun _ => forall_congr' fun _ => wp_bind (k i)
theorem wp_mono {Q Q' : α → Prop} {E E' : Str → List D → Prop} (hQ : ∀ a, Q a → Q' a) (hE : ∀ c p, E c p → E' c p) : ∀ m : M α, m.wp Q E → m.wp Q' E'
  | .ret a, h => hQ a h
  | .err c p, h => hE c p h
  | .bad, h => h
  | .draw n k, h => ⟨h.1, fun i h0 h1 => wp_mono hQ hE (k i) (h.2 i h0 h1)⟩
theorem wp_calm {Q : α → Prop} {E E'} : ∀ m : M α, m.calm.wp Q E → m.wp Q E'
  | .ret a, h => h
  | .err c p, h => h.elim
  | .bad, h => h
  | .draw n k, h => ⟨h.1, fun i h0 h1 => wp_calm (k i) (h.2 i h0 h1)⟩
theorem bind_assoc {f : α → M β} {g : β → M γ} : ∀ m : M α, (m.bind f).bind g = m.bind fun a => (f a).bind g
  | .ret _ => rfl
  | .err _ _ => rfl
  | .bad => rfl
  | .draw n k => by
    simp only [bind_draw]
    congr 1
    funext i
    exact bind_assoc (k i)
def ofO : Option α → M α
  | some a => .ret a
  | none => .bad
@[simp] theorem ofO_some {a : α} : ofO (some a) = M.ret a := rfl
@[simp] theorem ofO_none : ofO (none : Option α) = M.bad := rfl
theorem wp_ofO {o : Option α} {Q : α → Prop} {E} (h : (ofO o).wp Q E) : ∃ a, o = some a ∧ Q a := by
  cases o with
  | none => exact h.elim
  | some a => exact ⟨a, rfl, h⟩
end M
inductive Sl where
  | no
  | dat (d : D)
  | own (ds : List D)
  /-- a dict of its own, whose keys are ints and texts -/
  | dk (kvs : List (Key × D))
  /-- .. as it is read -/
  | dkR (kvs : List (Key × D))
  /-- a dict of its own, whose keys are tuples -/
  | dn (w : World) (ks : List NestedKey) (ds : List D)
  /-- an instance of the k-th class that is being made -/
  | slf (k : Nat) (C : Addr) (ns : List Str) (ds : List D)
  /-- the row of draws -/
  | row
noncomputable def cellO : HO → Bool
  | .ext φ => @decide ((∃ a es ep, HO.ext φ = DnO a es ep) ∨ ∃ w a S n, HO.ext φ = L2.SetO w a S n) (Classical.propDecidable _)
  | .tup _ => false
  | .frz _ _ => false
  | _ => true
abbrev Env := List Sl
structure Wd (K : Fg) where
  ct : List Str → Option Addr
  cls : Nat → Addr
  r : Addr
  ea : Str → Option Addr
  ef : Str → List Str
  X : Addr → Bool
  I : Hp → Prop
  Fr : Addr → Prop
  cell : ∀ {H : Hp} {a : Addr}, I H → X a = true → ∃ o, H a = some o ∧ cellO o = true
  up : ∀ {H H' : Hp}, I H → Same H H' → I H'
  new : ∀ {H : Hp} {a : Addr}, I H → H a = none → Fr a
  off : ∀ {H : Hp} {a : Addr} {o u : HO}, I H → Fr a → H a = some o → cellO o = true → I (upd H a u)
section
variable {K : Fg} {W : Wd K} {H H' H1 H2 : Hp} {Y Y' : Addr → Bool}
def mask (W : Wd K) (Y : Addr → Bool) (H : Hp) : Hp := fun a => if Y a = true then none else match H a with
  | some (.ins C dx fs) => if W.ct (fs.map (·.1)) = some C then some (.ins C dx fs) else none
  | o => o
theorem mask_le : Same (mask W Y H) H := fun a o h => by
  unfold mask at h
  split at h
  · cases h
  · split at h
    · rename_i e
      split at h
      · rw [← h]; exact e
      · cases h
    · exact h
theorem mask_at {a : Addr} {o : HO} (h : H a = some o) (hy : Y a = false) (ho : ∀ C dx fs, o = .ins C dx fs → W.ct (fs.map (·.1)) = some C) : mask W Y H a = some o := by
  unfold mask
  rw [if_neg (by rw [hy]; exact Bool.false_ne_true), h]
  cases o with
  | ins C dx fs => exact if_pos (ho C dx fs rfl)
  | _ => rfl
def Ext (W : Wd K) (H H' : Hp) : Prop := (∀ b o, H b = some o → W.X b = false → H' b = some o) ∧ W.I H'
def Ok (W : Wd K) (Y : Addr → Bool) (H : Hp) : Prop := W.I H ∧ (∀ a, W.X a = true → Y a = true) ∧ ∀ a, Y a = true → ∃ o, H a = some o ∧ cellO o = true
theorem Ext.refl (h : W.I H) : Ext W H H := ⟨fun _ _ e _ => e, h⟩
theorem Ext.trans (a : Ext W H H1) (b : Ext W H1 H2) : Ext W H H2 := ⟨fun c o e x => b.1 c o (a.1 c o e x) x, b.2⟩
theorem Ext.of (h : W.I H) (e : Same H H') : Ext W H H' := ⟨fun b o q _ => e b o q, W.up h e⟩
theorem Ext.free (e : Ext W H H') (hi : W.I H) {p : Addr} (h : H' p = none) : H p = none := by
  cases q : H p with
  | none => rfl
  | some o =>
    cases x : W.X p with
    | false => rw [e.1 p o q x] at h; cases h
    | true =>
      obtain ⟨u, hu, _⟩ := W.cell e.2 x
      rw [hu] at h; cases h
theorem Ok.x (h : Ok W Y H) {a : Addr} (hy : Y a = false) : W.X a = false := by
  cases x : W.X a with
  | false => rfl
  | true => rw [h.2.1 a x] at hy; cases hy
theorem Ok.ext (h : Ok W Y H) (e : Ext W H H') : Ok W Y H' := ⟨e.2, h.2.1, fun a ha => by
  obtain ⟨o, ho, i⟩ := h.2.2 a ha
  cases x : W.X a with
  | true => exact W.cell e.2 x
  | false => exact ⟨o, e.1 a o ho x, i⟩⟩
theorem Ok.fresh (h : Ok W Y H) {p : Addr} (hp : H p = none) : Y p = false := by
  cases q : Y p with
  | false => rfl
  | true =>
    obtain ⟨o, ho, _⟩ := h.2.2 p q
    rw [hp] at ho; cases ho
theorem mask_ext (h : Ok W Y H) (e : Ext W H H') : Same (mask W Y H) (mask W Y H') := fun a o q => by
  have hy : Y a = false := by
    cases z : Y a with
    | false => rfl
    | true => unfold mask at q; rw [if_pos z] at q; cases q
  have q1 := mask_le a o q
  refine mask_at (e.1 a o q1 (h.x hy)) hy fun C dx fs eo => ?_
  subst eo
  unfold mask at q
  rw [if_neg (by rw [hy]; exact Bool.false_ne_true), q1] at q
  by_cases c : W.ct (fs.map (·.1)) = some C
  · exact c
  · simp only [if_neg c] at q; cases q
theorem mask_anti (h : ∀ a, Y' a = true → Y a = true) : Same (mask W Y H) (mask W Y' H) := fun a o q => by
  have hy : Y a = false := by
    cases z : Y a with
    | false => rfl
    | true => unfold mask at q; rw [if_pos z] at q; cases q
  have hy' : Y' a = false := by
    cases z : Y' a with
    | false => rfl
    | true => rw [h a z] at hy; cases hy
  unfold mask at q ⊢
  rw [if_neg (by rw [hy]; exact Bool.false_ne_true)] at q
  rw [if_neg (by rw [hy']; exact Bool.false_ne_true)]
  exact q
theorem mask_off {a : Addr} {o : HO} (h : Y a = true) : mask W Y (upd H a o) = mask W Y H := by
  funext b
  unfold mask
  by_cases e : b = a
  · subst e
    rw [if_pos h, if_pos h]
  · rw [upd_ne e]
def also (Y : Addr → Bool) (p : Addr) : Addr → Bool := fun a => a == p || Y a
theorem mask_new {p : Addr} {o : HO} (h : Ok W Y H) (hp : H p = none) : Same (mask W Y H) (mask W (also Y p) (upd H p o)) := fun a u q => by
  have q1 := mask_le a u q
  have ha : a ≠ p := ne_of_none q1 hp
  unfold mask at q ⊢
  have e : also Y p a = Y a := by simp [also, ha]
  rw [e, upd_ne ha]
  exact q
abbrev Dm (W : Wd K) (Y : Addr → Bool) (H : Hp) : V → D → Prop := Dn K (mask W Y H)
abbrev Dms (W : Wd K) (Y : Addr → Bool) (H : Hp) : List V → List D → Prop := Dns K (mask W Y H)
mutual
theorem Dn.see (h : Ok W Y H) : ∀ (d : D) (v : V), d.fix = true → d.pl = true → Dn K H v d → Dn K (mask W Y H) v d
  | .non, _, _, _, e => by cases e; exact .non
  | .bl b, _, _, _, e => by cases e; exact .bl b
  | .int i, _, _, _, e => by cases e; exact .int i
  | .str x, _, _, _, e => by cases e; exact .str x
  | .lst _, _, f, _, _ => by cases f
  | .tup ds, _, f, p, e => by
    cases e with
    | tup hs ha =>
      refine .tup ?_ (Dns.see h ds _ f p ha)
      have at' : ∀ {a : Addr} {o : HO}, H a = some o → cellO o = false → (∀ C dx fs, o ≠ .ins C dx fs) → mask W Y H a = some o := fun {a o} e i n => mask_at e (by
        cases z : Y a with
        | false => rfl
        | true =>
          obtain ⟨u, hu, iu⟩ := h.2.2 a z
          rw [e] at hu; cases hu; rw [i] at iu; cases iu) fun C dx fs eo => (n C dx fs eo).elim
      rcases hs with (hs | ⟨o, hs⟩) | hs
      · exact .inl (.inl (at' hs rfl (fun _ _ _ z => nomatch z)))
      · exact .inl (.inr ⟨o, at' hs rfl (fun _ _ _ z => nomatch z)⟩)
      · exact .inr hs
  | .ptup ds, _, f, p, e => by
    cases e with
    | ptup hs ha =>
      obtain ⟨o, po, hs⟩ := hs
      refine .ptup ⟨o, po, mask_at hs ?_ fun _ _ _ z => nomatch z⟩ (Dns.see h ds _ f p ha)
      · rename_i a xs
        cases z : Y a with
        | false => rfl
        | true =>
          obtain ⟨u, hu, iu⟩ := h.2.2 a z
          rw [hs] at hu; cases hu; cases iu
  | .ob _ _ _, _, _, p, _ => by cases p
  | .adr _, _, _, p, _ => by cases p
  | .dct _ _ _, _, _, p, _ => by cases p
  | .dks _ _, _, _, p, _ => by cases p
theorem Dns.see (h : Ok W Y H) : ∀ (ds : List D) (vs : List V), D.fixs ds = true → D.pls ds = true → Dns K H vs ds → Dns K (mask W Y H) vs ds
  | [], _, _, _, e => by cases e; exact .nil
  | d :: ds, _, f, p, e => by
    cases e with
    | cons h1 h2 =>
      have f' : d.fix = true ∧ D.fixs ds = true := by simpa [D.fixs] using f
      have p' : d.pl = true ∧ D.pls ds = true := by simpa [D.pls] using p
      exact .cons (Dn.see h d _ f'.1 p'.1 h1) (Dns.see h ds _ f'.2 p'.2 h2)
end
theorem Dm.up {v : V} {d : D} (h : Dm W Y H v d) (o : Ok W Y H) (e : Ext W H H') : Dm W Y H' v d := Dn.same (mask_ext o e) d v h
theorem Dms.up {vs : List V} {ds : List D} (h : Dms W Y H vs ds) (o : Ok W Y H) (e : Ext W H H') : Dms W Y H' vs ds := Dns.same (mask_ext o e) ds vs h
theorem Dm.un {v : V} {d : D} (h : Dm W Y H v d) : Dn K H v d := Dn.same mask_le d v h
theorem Dms.un {vs : List V} {ds : List D} (h : Dms W Y H vs ds) : Dns K H vs ds := Dns.same mask_le ds vs h
theorem Dm.fresh {v : V} {d : D} {p : Addr} {o : HO} (h : Dm W Y H v d) (k : Ok W Y H) (hp : H p = none) : Dm W (also Y p) (upd H p o) v d := Dn.same (mask_new k hp) d v h
theorem Dms.fresh {vs : List V} {ds : List D} {p : Addr} {o : HO} (h : Dms W Y H vs ds) (k : Ok W Y H) (hp : H p = none) : Dms W (also Y p) (upd H p o) vs ds := Dns.same (mask_new k hp) ds vs h
theorem Dm.less {v : V} {d : D} (h : Dm W Y H v d) (k : ∀ a, Y' a = true → Y a = true) : Dm W Y' H v d := Dn.same (mask_anti k) d v h
theorem Dms.less {vs : List V} {ds : List D} (h : Dms W Y H vs ds) (k : ∀ a, Y' a = true → Y a = true) : Dms W Y' H vs ds := Dns.same (mask_anti k) ds vs h
theorem also_r {p : Addr} : ∀ a, Y a = true → also Y p a = true := fun a h => by simp [also, h]
def RetP (W : Wd K) (Y : Addr → Bool) (H : Hp) (Q : VK) : D → Prop := fun d => ∀ v H', Ext W H H' → Dm W Y H' v d → Q v H'
def RetPs (W : Wd K) (Y : Addr → Bool) (H : Hp) (Q : List V → Hp → Prop) : List D → Prop := fun ds => ∀ vs H', Ext W H H' → Dms W Y H' vs ds → Q vs H'
def RetPb (W : Wd K) (H : Hp) (Q : Bool → Hp → Prop) : Bool → Prop := fun b => ∀ H', Ext W H H' → Q b H'
def RetPn (W : Wd K) (Y : Addr → Bool) (H : Hp) (Q : VK) : List D → Prop := fun ds => ∀ p xs H', Ext W H H' → H p = none → H' p = some (.lst xs) → Dms W (also Y p) H' xs ds → Q (.ref p) H'
def IsE (W : Wd K) (c : Str) (p : List D) (cls : Value) (o : Option Addr) (H : Hp) : Prop := ∃ A, W.ea c = some A ∧ cls = .ref A ∧
  ((p = [] ∧ o = none) ∨ (p ≠ [] ∧ ∃ dd vs, o = some dd ∧ (W.ef c).length = vs.length ∧ H dd = some (.xd ((W.ef c).zip vs)) ∧ Dns K (fun _ => none) vs p))
def ErrP (W : Wd K) (E : XK) (H : Hp) : Str → List D → Prop := fun c p => ∀ cls o H', Ext W H H' → IsE W c p cls o H' → E cls o H'
theorem RetP.up {Q : VK} {d : D} (h : RetP W Y H Q d) (e : Ext W H H') : RetP W Y H' Q d := fun v H2 e2 hv => h v H2 (e.trans e2) hv
theorem ErrP.up {E : XK} {c : Str} {p : List D} (h : ErrP W E H c p) (e : Ext W H H') : ErrP W E H' c p := fun cls o H2 e2 hv => h cls o H2 (e.trans e2) hv
def look (ρ : Env) (i : Nat) : Option D := match ρ[i]? with
  | some (.dat d) => some d
  | _ => none
def DkR (K : Fg) (Hm : Hp) (σ : L2.St) (i : Nat) (kvs : List (Key × D)) : Prop := ∃ l vs, σ[i]? = some (some (V.ref l)) ∧ Hm l = some (.dK ((kvs.map (·.1)).zip vs)) ∧ Dns K Hm vs (kvs.map (·.2))
def EnvR {K : Fg} (W : Wd K) (Hm : Hp) (σ : L2.St) (ρ : Env) : Prop := σ.length = ρ.length ∧ (∀ i d, look ρ i = some d → ∃ v, σ[i]? = some (some v) ∧ Dn K Hm v d) ∧ (∀ i : Nat, ρ[i]? = some Sl.row → σ[i]? = some (some (V.ref W.r))) ∧ ∀ (i : Nat) kvs, ρ[i]? = some (Sl.dkR kvs) → DkR K Hm σ i kvs
theorem EnvR.same {Hm Hm' : Hp} {σ : L2.St} {ρ : Env} (h : EnvR W Hm σ ρ) (e : Same Hm Hm') : EnvR W Hm' σ ρ := ⟨h.1, fun i d l => by
  obtain ⟨v, h1, h2⟩ := h.2.1 i d l
  exact ⟨v, h1, h2.up e⟩, h.2.2.1, fun i kvs l => by
  obtain ⟨p, vs, h1, h2, h3⟩ := h.2.2.2 i kvs l
  exact ⟨p, vs, h1, e _ _ h2, Dns.same e _ _ h3⟩⟩
theorem EnvR.up {σ : L2.St} {ρ : Env} (h : EnvR W (mask W Y H) σ ρ) (o : Ok W Y H) (e : Ext W H H') : EnvR W (mask W Y H') σ ρ := h.same (mask_ext o e)
def GE (W : Wd K) (E : XK) (te : TE) (m : Env → M D) : Prop := ∀ Y σ H ρ Q, Ok W Y H → EnvR W (mask W Y H) σ ρ → (m ρ).wp (RetP W Y H Q) (ErrP W E H) → te σ H Q
def GA (W : Wd K) (E : XK) (ta : TA) (m : Env → M (List D)) : Prop := ∀ Y σ H ρ Q, Ok W Y H → EnvR W (mask W Y H) σ ρ → (m ρ).wp (RetPs W Y H Q) (ErrP W E H) → ta σ H Q
def GT (W : Wd K) (E : XK) (tt : TT) (m : Env → M Bool) : Prop := ∀ Y σ H ρ Q, Ok W Y H → EnvR W (mask W Y H) σ ρ → (m ρ).wp (RetPb W H Q) (ErrP W E H) → tt σ H Q
def GN (W : Wd K) (E : XK) (te : TE) (m : Env → M (List D)) : Prop := ∀ Y σ H ρ Q, Ok W Y H → EnvR W (mask W Y H) σ ρ → (m ρ).wp (RetPn W Y H Q) (ErrP W E H) → te σ H Q
def RetPo (W : Wd K) (H : Hp) (Q : Option Int → Hp → Prop) : Option Int → Prop := fun b => ∀ H', Ext W H H' → Q b H'
def GO (W : Wd K) (E : XK) (to : TO) (m : Env → M (Option Int)) : Prop := ∀ Y σ H ρ Q, Ok W Y H → EnvR W (mask W Y H) σ ρ → (m ρ).wp (RetPo W H Q) (ErrP W E H) → to σ H Q
def mVar (i : Nat) : Env → M D := fun ρ => M.ofO (look ρ i)
def mC (d : D) : Env → M D := fun _ => .ret d
def mOp (f : D → D → Option D) (a b : Env → M D) : Env → M D := fun ρ => (a ρ).bind fun x => (b ρ).bind fun y => M.ofO (f x y)
def mUn (f : D → Option D) (a : Env → M D) : Env → M D := fun ρ => (a ρ).bind fun x => M.ofO (f x)
def mNil : Env → M (List D) := fun _ => .ret []
def mCons (a : Env → M D) (r : Env → M (List D)) : Env → M (List D) := fun ρ => (a ρ).bind fun x => (r ρ).bind fun xs => .ret (x :: xs)
def mCB (f : List D → Option D) (a : Env → M (List D)) : Env → M D := fun ρ => (a ρ).bind fun xs => M.ofO (f xs)
def mCBn (f : List D → Option (List D)) (a : Env → M (List D)) : Env → M (List D) := fun ρ => (a ρ).bind fun xs => M.ofO (f xs)
def mCall (F : List D → M D) (a : Env → M (List D)) : Env → M D := fun ρ => (a ρ).bind F
def mTup (a : Env → M (List D)) : Env → M D := fun ρ => (a ρ).bind fun xs => if xs.length ≤ 100000 then .ret (.ptup xs) else .bad
def mLst (a : Env → M (List D)) : Env → M (List D) := fun ρ => (a ρ).bind fun xs => if xs.length ≤ 100000 then .ret xs else .bad
def mNew (a : Env → M (List D)) : Env → M D := fun ρ => (a ρ).bind fun xs => .ret (.lst xs)
def asB : D → M Bool
  | .bl b => .ret b
  | _ => .bad
def cOf (a : Env → M D) : Env → M Bool := fun ρ => (a ρ).bind asB
def cAnd (a b : Env → M Bool) : Env → M Bool := fun ρ => (a ρ).bind fun x => if x then b ρ else .ret false
def cOr (a b : Env → M Bool) : Env → M Bool := fun ρ => (a ρ).bind fun x => if x then .ret true else b ρ
def cNot (a : Env → M Bool) : Env → M Bool := fun ρ => (a ρ).bind fun x => .ret (!x)
def cYes : Env → M Bool := fun _ => .ret true
def mAnd (a b : Env → M D) : Env → M D := fun ρ => (a ρ).bind fun x => (asB x).bind fun k => if k then b ρ else .ret (.bl false)
def mOr (a b : Env → M D) : Env → M D := fun ρ => (a ρ).bind fun x => (asB x).bind fun k => if k then .ret (.bl true) else b ρ
def mNot (a : Env → M D) : Env → M D := fun ρ => (a ρ).bind fun x => (asB x).bind fun k => .ret (.bl (!k))
def mIf (c : Env → M Bool) (a b : Env → M D) : Env → M D := fun ρ => (c ρ).bind fun k => if k then a ρ else b ρ
def mChain (f g : D → D → Option D) (a b c : Env → M D) : Env → M D := fun ρ => (a ρ).bind fun x => (b ρ).bind fun y => (M.ofO (f x y)).bind fun z => (asB z).bind fun k => if k then (c ρ).bind fun w => M.ofO (g y w) else .ret (.bl false)
def oNone : Env → M (Option Int) := fun _ => .ret none
def asI : D → M Int
  | .int i => .ret i
  | _ => .bad
def oSome (a : Env → M D) : Env → M (Option Int) := fun ρ => (a ρ).bind fun x => (asI x).bind fun i => .ret (some i)
end
section
variable {K : Fg} {W : Wd K} {E : XK} {ta tb tc te : TE} {tt uu : TT} {m a b c : Env → M D} {tl : TA} {ma : Env → M (List D)} {p q : Env → M Bool}
theorem GE.seq {α : Type} {Y : Addr → Bool} {σ : L2.St} {H : Hp} {ρ : Env} {f : D → M α} {R : α → Prop} {Er : Str → List D → Prop} {Q : VK} (h : GE W E te m) (o : Ok W Y H) (e : EnvR W (mask W Y H) σ ρ) (w : ((m ρ).bind f).wp R Er) (hE : ∀ c p, Er c p → ErrP W E H c p)
    (k : ∀ d v H1, Ext W H H1 → Ok W Y H1 → EnvR W (mask W Y H1) σ ρ → Dm W Y H1 v d → (f d).wp R Er → Q v H1) : te σ H Q :=
  h Y σ H ρ Q o e (M.wp_mono (fun d hd v H1 e1 hv => k d v H1 e1 (o.ext e1) (e.up o e1) hv hd) hE _ ((M.wp_bind _).mp w))
theorem GA.seq {α : Type} {Y : Addr → Bool} {σ : L2.St} {H : Hp} {ρ : Env} {f : List D → M α} {R : α → Prop} {Er : Str → List D → Prop} {Q : List V → Hp → Prop} (h : GA W E tl ma) (o : Ok W Y H) (e : EnvR W (mask W Y H) σ ρ) (w : ((ma ρ).bind f).wp R Er) (hE : ∀ c p, Er c p → ErrP W E H c p)
    (k : ∀ ds vs H1, Ext W H H1 → Ok W Y H1 → EnvR W (mask W Y H1) σ ρ → Dms W Y H1 vs ds → (f ds).wp R Er → Q vs H1) : tl σ H Q :=
  h Y σ H ρ Q o e (M.wp_mono (fun d hd v H1 e1 hv => k d v H1 e1 (o.ext e1) (e.up o e1) hv hd) hE _ ((M.wp_bind _).mp w))
theorem GT.seq {α : Type} {Y : Addr → Bool} {σ : L2.St} {H : Hp} {ρ : Env} {f : Bool → M α} {R : α → Prop} {Er : Str → List D → Prop} {Q : Bool → Hp → Prop} (h : GT W E tt p) (o : Ok W Y H) (e : EnvR W (mask W Y H) σ ρ) (w : ((p ρ).bind f).wp R Er) (hE : ∀ c p, Er c p → ErrP W E H c p)
    (k : ∀ b H1, Ext W H H1 → Ok W Y H1 → EnvR W (mask W Y H1) σ ρ → (f b).wp R Er → Q b H1) : tt σ H Q :=
  h Y σ H ρ Q o e (M.wp_mono (fun b hd H1 e1 => k b H1 e1 (o.ext e1) (e.up o e1) hd) hE _ ((M.wp_bind _).mp w))
theorem wp_up {α : Type} {x : M α} {R R' : α → Prop} {H H1 : Hp} (w : x.wp R (ErrP W E H)) (e : Ext W H H1) (k : ∀ a, R a → R' a) : x.wp R' (ErrP W E H1) := M.wp_mono k (fun _ _ h => h.up e) _ w
theorem ge_var {i : Nat} : GE W E (tVar i) (mVar i) := fun Y σ H ρ Q o e w => by
  obtain ⟨d, hd, hq⟩ := M.wp_ofO w
  obtain ⟨v, h1, h2⟩ := e.2.1 i d hd
  exact ⟨v, h1, hq v H (.refl o.1) h2⟩
theorem ge_c {v : V} {d : D} (h : ∀ Hm : Hp, Dn K Hm v d) : GE W E (tC v) (mC d) := fun Y σ H ρ Q o e w => w v H (.refl o.1) (h _)
theorem ge_int {i : Int} : GE W E (tC (.int i)) (mC (.int i)) := ge_c fun _ => .int i
theorem ge_str {x : Str} : GE W E (tC (.str x)) (mC (.str x)) := ge_c fun _ => .str x
theorem ge_bl {x : Bool} : GE W E (tC (.bl x)) (mC (.bl x)) := ge_c fun _ => .bl x
theorem ge_non : GE W E (tC .non) (mC .non) := ge_c fun _ => .non
def R2M (W : Wd K) (r : R2) (f : D → D → Option D) : Prop := ∀ Y H x y d e z (Q : VK), Ok W Y H → Dm W Y H x d → Dm W Y H y e → f d e = some z → RetP W Y H Q z → r x y H Q
def R1M (W : Wd K) (r : V → Hp → VK → Prop) (f : D → Option D) : Prop := ∀ Y H x d z (Q : VK), Ok W Y H → Dm W Y H x d → f d = some z → RetP W Y H Q z → r x H Q
def RCM (W : Wd K) (r : List V → Hp → VK → Prop) (f : List D → Option D) : Prop := ∀ Y H vs ds z (Q : VK), Ok W Y H → Dms W Y H vs ds → f ds = some z → RetP W Y H Q z → r vs H Q
theorem R2M.of {r : R2} {f : D → D → Option D} (h : ∀ d e z, f d e = some z → R2D K r d e z ∧ z.fix = true ∧ z.pl = true) : R2M W r f := fun Y H x y d e z Q o hx hy hz q => by
  obtain ⟨h1, h2, h3⟩ := h d e z hz
  exact h1 x y H Q hx.un hy.un fun v H' e' hv => q v H' (.of o.1 e') (Dn.see (o.ext (.of o.1 e')) z v h2 h3 hv)
theorem R1M.of {r : V → Hp → VK → Prop} {f : D → Option D} (h : ∀ d z, f d = some z → R1D K r d z ∧ z.fix = true ∧ z.pl = true) : R1M W r f := fun Y H x d z Q o hx hz q => by
  obtain ⟨h1, h2, h3⟩ := h d z hz
  exact h1 x H Q hx.un fun v H' e' hv => q v H' (.of o.1 e') (Dn.see (o.ext (.of o.1 e')) z v h2 h3 hv)
theorem RCM.of {r : List V → Hp → VK → Prop} {f : List D → Option D} (h : ∀ ds z, f ds = some z → RCD K r ds z ∧ z.fix = true ∧ z.pl = true) : RCM W r f := fun Y H vs ds z Q o hx hz q => by
  obtain ⟨h1, h2, h3⟩ := h ds z hz
  exact h1 vs H Q hx.un fun v H' e' hv => q v H' (.of o.1 e') (Dn.see (o.ext (.of o.1 e')) z v h2 h3 hv)
theorem ge_op {r : R2} {f : D → D → Option D} (ha : GE W E ta a) (hb : GE W E tb b) (hr : R2M W r f) : GE W E (tOp r ta tb) (mOp f a b) := fun Y σ H ρ Q o e w =>
  ha.seq o e w (fun _ _ h => h) fun d x H1 e1 o1 r1 hx w1 => hb.seq o1 r1 w1 (fun _ _ h => h.up e1) fun d2 y H2 e2 o2 r2 hy w2 => by
    obtain ⟨z, hz, q⟩ := M.wp_ofO w2
    exact hr Y H2 x y d d2 z Q o2 (hx.up o1 e2) hy hz (q.up (e1.trans e2))
theorem ga_nil : GA W E tNil mNil := fun Y σ H ρ Q o e w => w [] H (.refl o.1) .nil
theorem ga_cons (ha : GE W E ta a) (hr : GA W E tl ma) : GA W E (tCons ta tl) (mCons a ma) := fun Y σ H ρ Q o e w =>
  ha.seq o e w (fun _ _ h => h) fun d x H1 e1 o1 r1 hx w1 => hr.seq o1 r1 w1 (fun _ _ h => h.up e1) fun ds xs H2 e2 o2 r2 hxs w2 => w2 _ H2 (e1.trans e2) (.cons (hx.up o1 e2) hxs)
theorem ge_cb {r : List V → Hp → VK → Prop} {f : List D → Option D} (ha : GA W E tl ma) (hr : RCM W r f) : GE W E (tCB r tl) (mCB f ma) := fun Y σ H ρ Q o e w =>
  ha.seq o e w (fun _ _ h => h) fun ds xs H1 e1 o1 r1 hx w1 => by
    obtain ⟨z, hz, q⟩ := M.wp_ofO w1
    exact hr Y H1 xs ds z Q o1 hx hz (q.up e1)
theorem GN.ge {mn : Env → M (List D)} (h : GN W E te mn) : GE W E te (mNew mn) := fun Y σ H ρ Q o e w =>
  h Y σ H ρ Q o e (M.wp_mono (fun ds hd p xs H' e' hp hx hds => hd (.ref p) H' e' (.lst (mask_at hx (o.fresh hp) fun _ _ _ z => nomatch z) (hds.less also_r))) (fun _ _ h => h) _ ((M.wp_bind _).mp w))
theorem ge_tup (ha : GA W E tl ma) : GE W E (tTupP tl) (mTup ma) := fun Y σ H ρ Q o e w =>
  ha.seq o e w (fun _ _ h => h) fun ds xs H1 e1 o1 r1 hx w1 => by
    split at w1
    · rename_i hl
      refine ⟨by rw [hx.length, sizeLine_eq]; omega, fun p ob hp ho => w1 _ _ (e1.trans (.of o1.1 (Same.new hp))) (.ptup ⟨ob, ho, mask_at upd_same (o1.fresh hp) fun _ _ _ z => nomatch z⟩ (hx.up o1 (.of o1.1 (Same.new hp))))⟩
    · exact w1.elim
theorem gn_lst (ha : GA W E tl ma) : GN W E (tLst tl) (mLst ma) := fun Y σ H ρ Q o e w =>
  ha.seq o e w (fun _ _ h => h) fun ds xs H1 e1 o1 r1 hx w1 => by
    split at w1
    · exact ⟨by rw [hx.length, sizeLine_eq]; omega, fun p hp => w1 p xs _ (e1.trans (.of o1.1 (Same.new hp))) (e1.free o.1 hp) upd_same (hx.fresh o1 hp)⟩
    · exact w1.elim
theorem asB_wp {d : D} {R : Bool → Prop} {Er} (h : (asB d).wp R Er) : ∃ k, d = .bl k ∧ R k := by
  cases d <;> first | exact h.elim | exact ⟨_, rfl, h⟩
theorem gt_of (ha : GE W E ta a) : GT W E (tTest ta) (cOf a) := fun Y σ H ρ Q o e w =>
  ha.seq o e w (fun _ _ h => h) fun d x H1 e1 o1 r1 hx w1 => by
    obtain ⟨k, rfl, hk⟩ := asB_wp w1
    cases hx
    exact ⟨k, rfl, hk H1 e1⟩
theorem gt_ofB (ha : GE W E ta a) : GT W E (tB ta) (cOf a) := fun Y σ H ρ Q o e w =>
  ha.seq o e w (fun _ _ h => h) fun d x H1 e1 o1 r1 hx w1 => by
    obtain ⟨k, rfl, hk⟩ := asB_wp w1
    cases hx
    exact ⟨k, rfl, hk H1 e1⟩
theorem gt_and (h1 : GT W E tt p) (h2 : GT W E uu q) : GT W E (tAnd tt uu) (cAnd p q) := fun Y σ H ρ Q o e w =>
  h1.seq o e w (fun _ _ h => h) fun k H1 e1 o1 r1 w1 => by
    cases k with
    | true => exact (if_pos rfl).mpr (h2 Y σ H1 ρ Q o1 r1 (wp_up w1 e1 fun b hb H2 e2 => hb H2 (e1.trans e2)))
    | false => exact (if_neg Bool.false_ne_true).mpr (w1 H1 e1)
theorem gt_or (h1 : GT W E tt p) (h2 : GT W E uu q) : GT W E (tOr tt uu) (cOr p q) := fun Y σ H ρ Q o e w =>
  h1.seq o e w (fun _ _ h => h) fun k H1 e1 o1 r1 w1 => by
    cases k with
    | true => exact (if_pos rfl).mpr (w1 H1 e1)
    | false => exact (if_neg Bool.false_ne_true).mpr (h2 Y σ H1 ρ Q o1 r1 (wp_up w1 e1 fun b hb H2 e2 => hb H2 (e1.trans e2)))
theorem gt_not (h1 : GT W E tt p) : GT W E (tNot tt) (cNot p) := fun Y σ H ρ Q o e w =>
  h1.seq o e w (fun _ _ h => h) fun k H1 e1 o1 r1 w1 => w1 H1 e1
theorem gt_yes : GT W E tYes cYes := fun Y σ H ρ Q o e w => w H (.refl o.1)
theorem ge_and (ha : GE W E ta a) (hb : GE W E tb b) : GE W E (tAndV ta tb) (mAnd a b) := fun Y σ H ρ Q o e w =>
  ha.seq o e w (fun _ _ h => h) fun d x H1 e1 o1 r1 hx w1 => by
    obtain ⟨k, rfl, hk⟩ := asB_wp ((M.wp_bind _).mp w1)
    cases hx
    refine ⟨k, rfl, ?_⟩
    cases k with
    | true => exact (if_pos rfl).mpr (hb Y σ H1 ρ Q o1 r1 (wp_up hk e1 fun d hd => hd.up e1))
    | false => exact (if_neg Bool.false_ne_true).mpr (hk _ H1 e1 (.bl _))
theorem ge_not (ha : GE W E ta a) : GE W E (tNotV ta) (mNot a) := fun Y σ H ρ Q o e w =>
  ha.seq o e w (fun _ _ h => h) fun d x H1 e1 o1 r1 hx w1 => by
    obtain ⟨k, rfl, hk⟩ := asB_wp ((M.wp_bind _).mp w1)
    cases hx
    exact ⟨k, rfl, hk _ H1 e1 (.bl _)⟩
theorem ge_if (hc : GT W E tt p) (ha : GE W E ta a) (hb : GE W E tb b) : GE W E (tIf tt ta tb) (mIf p a b) := fun Y σ H ρ Q o e w =>
  hc.seq o e w (fun _ _ h => h) fun k H1 e1 o1 r1 w1 => by
    cases k with
    | true => exact (if_pos rfl).mpr (ha Y σ H1 ρ Q o1 r1 (wp_up w1 e1 fun d hd => hd.up e1))
    | false => exact (if_neg Bool.false_ne_true).mpr (hb Y σ H1 ρ Q o1 r1 (wp_up w1 e1 fun d hd => hd.up e1))
theorem ge_chain {r r' : R2} {f g : D → D → Option D} (ha : GE W E ta a) (hb : GE W E tb b) (hr : R2M W r f) (hc : GE W E tc c) (hr' : R2M W r' g) : GE W E (tChain r r' ta tb tc) (mChain f g a b c) := fun Y σ H ρ Q o e w =>
  ha.seq o e w (fun _ _ h => h) fun d x H1 e1 o1 r1 hx w1 => hb.seq o1 r1 w1 (fun _ _ h => h.up e1) fun d2 y H2 e2 o2 r2 hy w2 => by
    obtain ⟨z, hz, w2'⟩ := M.wp_ofO ((M.wp_bind _).mp w2)
    refine hr Y H2 x y d d2 z _ o2 (hx.up o1 e2) hy hz fun v H3 e3 hv => ?_
    obtain ⟨k, rfl, hk⟩ := asB_wp ((M.wp_bind _).mp w2')
    cases hv
    refine ⟨k, rfl, ?_⟩
    have e13 := (e1.trans e2).trans e3
    cases k with
    | true =>
      exact (if_pos rfl).mpr (hc.seq (o2.ext e3) (r2.up o2 e3) hk (fun _ _ h => h.up e13) fun d3 u H4 e4 o4 r4 hu w4 => by
        obtain ⟨z', hz', q⟩ := M.wp_ofO w4
        exact hr' Y H4 y u d2 d3 z' Q o4 ((hy.up o2 e3).up (o2.ext e3) e4) hu hz' (q.up (e13.trans e4)))
    | false => exact (if_neg Bool.false_ne_true).mpr (hk _ H3 e13 (.bl _))
theorem go_none : GO W E tNoPart oNone := fun Y σ H ρ Q o e w => w H (.refl o.1)
theorem go_some (ha : GE W E ta a) : GO W E (tPart ta) (oSome a) := fun Y σ H ρ Q o e w =>
  ha.seq o e w (fun _ _ h => h) fun d x H1 e1 o1 r1 hx w1 => by
    cases d with
    | int i =>
      cases hx
      exact ⟨i, rfl, w1 H1 e1⟩
    | _ => exact w1.elim
def spM (W : Wd K) (F : List D → M D) : Sp := fun vs H Q E => ∃ Y ds, Ok W Y H ∧ Dms W Y H vs ds ∧ (F ds).wp (RetP W Y H Q) (ErrP W E H)
def spC (W : Wd K) (F : List D → M D) : Sp := fun vs H Q _ => ∃ Y ds, Ok W Y H ∧ Dms W Y H vs ds ∧ (F ds).wp (RetP W Y H Q) (fun _ _ => False)
theorem ge_call {F : List D → M D} {E' : XK} (ha : GA W E tl ma) : GE W E (tCall (spC W F) [] E' tl) (mCall (fun ds => (F ds).calm) ma) := fun Y σ H ρ Q o e w =>
  ha.seq o e w (fun _ _ h => h) fun ds xs H1 e1 o1 r1 hx w1 => ⟨Y, ds, o1, by rw [List.append_nil]; exact hx, M.wp_mono (fun d hd => hd.up e1) (fun _ _ h => h) _ (M.wp_calm (E' := fun _ _ => False) _ w1)⟩
theorem ge_calS {F : List D → M D} {X : WX} (hX : ∀ σ, WE X σ = E) (ha : GA W E tl ma) : GE W E (tCallS (spM W F) (WE X) tl) (mCall F ma) := fun Y σ H ρ Q o e w =>
  ha.seq o e w (fun _ _ h => h) fun ds xs H1 e1 o1 r1 hx w1 => ⟨Y, ds, o1, hx, by rw [hX]; exact wp_up w1 e1 fun d hd => hd.up e1⟩
end
end Mi

namespace Mi
open PySem L2 Cc
abbrev Pat := D → Env → Option Env
def pName (i : Nat) : Pat := fun d ρ => some (ρ.set i (.dat d))
def pGo : List Pat → List D → Env → Option Env
  | [], [], ρ => some ρ
  | p :: ps, d :: ds, ρ => match p d ρ with
    | some ρ' => pGo ps ds ρ'
    | none => none
  | _, _, _ => none
def pTup (ps : List Pat) : Pat := fun d ρ => match d with
  | .tup ds => pGo ps ds ρ
  | .ptup ds => pGo ps ds ρ
  | _ => none
def pLst (ps : List Pat) : Pat := fun d ρ => match d with
  | .lst ds => pGo ps ds ρ
  | _ => none
inductive SetR (K : Fg) (Hm : Hp) (is : List Nat) : L2.St → Env → L2.St → Env → Prop where
  | refl {σ : L2.St} {ρ : Env} : SetR K Hm is σ ρ σ ρ
  | set {σ σ1 : L2.St} {ρ ρ1 : Env} {i : Nat} {v : V} {d : D} : SetR K Hm is σ ρ σ1 ρ1 → i ∈ is → Dn K Hm v d → SetR K Hm is σ ρ (σ1.set i (some v)) (ρ1.set i (.dat d))
section
variable {K : Fg} {W : Wd K} {Hm : Hp} {is js : List Nat}
theorem SetR.trans {σ σ1 σ2 : L2.St} {ρ ρ1 ρ2 : Env} (a : SetR K Hm is σ ρ σ1 ρ1) (b : SetR K Hm is σ1 ρ1 σ2 ρ2) : SetR K Hm is σ ρ σ2 ρ2 := by
  induction b with
  | refl => exact a
  | set _ hi hd ih => exact .set (ih a) hi hd
theorem SetR.more {σ σ1 : L2.St} {ρ ρ1 : Env} (a : SetR K Hm is σ ρ σ1 ρ1) (h : ∀ i ∈ is, i ∈ js) : SetR K Hm js σ ρ σ1 ρ1 := by
  induction a with
  | refl => exact .refl
  | set _ hi hd ih => exact .set ih (h _ hi) hd
theorem look_set {ρ : Env} {i j : Nat} {s : Sl} : look (ρ.set i s) j = if i = j ∧ j < ρ.length then (match s with | .dat d => some d | _ => none) else look ρ j := by
  unfold look
  rw [List.getElem?_set]
  by_cases e : i = j
  · subst e
    by_cases h : i < ρ.length
    · simp [h]
      cases s <;> rfl
    · simp [h]
  · simp [e]
theorem EnvR.set {σ : L2.St} {ρ : Env} {i : Nat} {v : V} {d : D} (h : EnvR W Hm σ ρ) (hd : Dn K Hm v d) : EnvR W Hm (σ.set i (some v)) (ρ.set i (.dat d)) := ⟨by simp [h.1], fun j d' l => by
  rw [look_set] at l
  by_cases e : i = j ∧ j < ρ.length
  · rw [if_pos e] at l
    cases l
    obtain ⟨rfl, hj⟩ := e
    exact ⟨v, by simp [h.1, hj], hd⟩
  · rw [if_neg e] at l
    obtain ⟨w, h1, h2⟩ := h.2.1 j d' l
    refine ⟨w, ?_, h2⟩
    rw [List.getElem?_set]
    have hj : j < σ.length := (List.getElem?_eq_some_iff.mp h1).1
    have : ¬ i = j := fun z => e ⟨z, by rw [← h.1]; exact hj⟩
    simp [this, h1], fun j l => by
  rw [List.getElem?_set] at l ⊢
  by_cases e : i = j
  · rw [if_pos e] at l
    split at l <;> cases l
  · rw [if_neg e] at l ⊢
    exact h.2.2.1 j l, fun j kvs l => by
  rw [List.getElem?_set] at l
  by_cases e : i = j
  · rw [if_pos e] at l
    split at l <;> cases l
  · rw [if_neg e] at l
    obtain ⟨p, vs, h1, h2, h3⟩ := h.2.2.2 j kvs l
    exact ⟨p, vs, by rw [List.getElem?_set, if_neg e]; exact h1, h2, h3⟩⟩
theorem EnvR.sets {σ σ' : L2.St} {ρ ρ' : Env} (h : EnvR W Hm σ ρ) (s : SetR K Hm is σ ρ σ' ρ') : EnvR W Hm σ' ρ' := by
  induction s with
  | refl => exact h
  | set _ _ hd ih => exact (ih h).set hd
def GP (K : Fg) (g : TG) (p : Pat) (is : List Nat) : Prop := ∀ (Hm H : Hp) (v : V) (d : D) (σ : L2.St) (ρ ρ' : Env) (Q : L2.St → Hp → Prop), Same Hm H → Dn K Hm v d → p d ρ = some ρ' → (∀ σ', SetR K Hm is σ ρ σ' ρ' → Q σ' H) → g v σ H Q
def GPs (K : Fg) (g : TGs) (ps : List Pat) (is : List Nat) : Prop := ∀ (Hm H : Hp) (vs : List V) (ds : List D) (σ : L2.St) (ρ ρ' : Env) (Q : L2.St → Hp → Prop), Same Hm H → Dns K Hm vs ds → pGo ps ds ρ = some ρ' → (∀ σ', SetR K Hm is σ ρ σ' ρ' → Q σ' H) → g vs σ H Q
theorem gp_name {i : Nat} : GP K (gName i) (pName i) [i] := fun Hm H v d σ ρ ρ' Q e hd h q => by
  cases h
  exact q _ (.set .refl (by simp) hd)
theorem gps_nil : GPs K gNil [] [] := fun Hm H vs ds σ ρ ρ' Q e hd h q => by
  cases hd with
  | nil => cases h; exact ⟨rfl, q _ .refl⟩
  | cons _ _ => cases h
theorem gps_cons {g : TG} {gs : TGs} {p : Pat} {ps : List Pat} (h1 : GP K g p is) (h2 : GPs K gs ps js) : GPs K (gCons g gs) (p :: ps) (is ++ js) := fun Hm H vs ds σ ρ ρ' Q e hd h q => by
  cases hd with
  | nil => cases h
  | @cons v vs d ds hv hvs =>
    unfold pGo at h
    cases hp : p d ρ with
    | none => rw [hp] at h; cases h
    | some ρ1 =>
      rw [hp] at h
      refine ⟨v, vs, rfl, h1 Hm H v d σ ρ ρ1 _ e hv hp fun σ1 s1 => h2 Hm H vs ds σ1 ρ1 ρ' Q e hvs h fun σ2 s2 => q σ2 ((s1.more fun i hi => List.mem_append_left _ hi).trans (s2.more fun i hi => List.mem_append_right _ hi))⟩
theorem pGo_len {ps : List Pat} : ∀ {ds : List D} {ρ ρ' : Env}, pGo ps ds ρ = some ρ' → ds.length = ps.length := by
  induction ps with
  | nil => intro ds ρ ρ' h; cases ds with
    | nil => rfl
    | cons _ _ => cases h
  | cons p ps ih => intro ds ρ ρ' h; cases ds with
    | nil => cases h
    | cons d ds =>
      unfold pGo at h
      cases hp : p d ρ with
      | none => rw [hp] at h; cases h
      | some ρ1 => rw [hp] at h; simp [ih h]
theorem gp_tup {n : Nat} {gs : TGs} {ps : List Pat} (h : GPs K gs ps is) (hn : ps.length = n := by rfl) : GP K (gTup K n gs) (pTup ps) is := fun Hm H v d σ ρ ρ' Q e hd hp q => by
  cases hd with
  | @tup a xs ds hs ha => exact ⟨a, xs, rfl, same_t e hs, by rw [ha.length, pGo_len hp, hn], h Hm H xs ds σ ρ ρ' Q e ha hp q⟩
  | @ptup a xs ds hs ha => exact ⟨a, xs, rfl, same_t e hs.sq, by rw [ha.length, pGo_len hp, hn], h Hm H xs ds σ ρ ρ' Q e ha hp q⟩
  | _ => cases hp
def St (Z : Addr → Bool) (H H' : Hp) : Prop := ∀ b o, H b = some o → Z b = false → H' b = some o
theorem St.trans {Z : Addr → Bool} {H H1 H2 : Hp} (a : St Z H H1) (b : St Z H1 H2) : St Z H H2 := fun c o h z => b c o (a c o h z) z
theorem St.of {Z : Addr → Bool} {H H1 : Hp} (a : Same H H1) : St Z H H1 := fun c o h _ => a c o h
theorem St.ext {Z : Addr → Bool} {H H1 : Hp} (a : Ext W H H1) (h : ∀ a, W.X a = true → Z a = true) : St Z H H1 := fun c o e z => a.1 c o e (by
  cases x : W.X c with
  | false => rfl
  | true => rw [h c x] at z; cases z)
theorem mask_st {Y : Addr → Bool} {H H' : Hp} (e : St Y H H') : Same (mask W Y H) (mask W Y H') := fun a o q => by
  have hy : Y a = false := by
    cases z : Y a with
    | false => rfl
    | true => unfold mask at q; rw [if_pos z] at q; cases q
  have q1 := mask_le a o q
  refine mask_at (e a o q1 hy) hy fun C dx fs eo => ?_
  subst eo
  unfold mask at q
  rw [if_neg (by rw [hy]; exact Bool.false_ne_true), q1] at q
  by_cases c : W.ct (fs.map (·.1)) = some C
  · exact c
  · simp only [if_neg c] at q; cases q
theorem mask_go {Y Y' : Addr → Bool} {H H' : Hp} (e : St Y H H') (h : ∀ a, Y' a = true → Y a = true ∨ H a = none) : Same (mask W Y H) (mask W Y' H') := fun a o q => by
  have hy : Y a = false := by
    cases z : Y a with
    | false => rfl
    | true => unfold mask at q; rw [if_pos z] at q; cases q
  have q1 := mask_le a o q
  have hy' : Y' a = false := by
    cases z : Y' a with
    | false => rfl
    | true =>
      rcases h a z with h | h
      · rw [hy] at h; cases h
      · rw [q1] at h; cases h
  refine mask_at (e a o q1 hy) hy' fun C dx fs eo => ?_
  subst eo
  unfold mask at q
  rw [if_neg (by rw [hy]; exact Bool.false_ne_true), q1] at q
  by_cases c : W.ct (fs.map (·.1)) = some C
  · exact c
  · simp only [if_neg c] at q; cases q
def RetIt (W : Wd K) (Y : Addr → Bool) (H : Hp) (R : It → Hp → Prop) : List D → Prop := fun ds => ∀ (J : It) (G : Hp → Prop) (Yw : Nat → Hp → V → Hp → Prop) (H2 : Hp), Ext W H H2 → Walk J ds.length G Yw → (∀ H', St Y H2 H' → G H') →
  (∀ i Ha x Hb Y', i < ds.length → St Y H2 Ha → Ok W Y' Ha → (∀ a, Y' a = true → Y a = true ∨ H2 a = none) → Yw i Ha x Hb → Same Ha Hb ∧ ∃ d, ds[i]? = some d ∧ Dm W Y' Hb x d) → R J H2
def GI (W : Wd K) (E : XK) (wi : TI) (mi : Env → M (List D)) : Prop := ∀ Y σ H ρ R, Ok W Y H → EnvR W (mask W Y H) σ ρ → (mi ρ).wp (RetIt W Y H R) (ErrP W E H) → wi σ H R
def wipeE (ρ : Env) : List Nat → Env
  | [] => ρ
  | v :: vs => (wipeE ρ vs).set v .no
def lcGo (p : Pat) (c : Env → M Bool) (e : Env → M D) (ρ : Env) : List D → M (List D)
  | [] => .ret []
  | d :: ds => match p d ρ with
    | none => .bad
    | some ρ1 => (c ρ1).bind fun k => if k then (e ρ1).bind fun x => (lcGo p c e ρ ds).bind fun xs => .ret (x :: xs) else lcGo p c e ρ ds
def mLc (mi : Env → M (List D)) (p : Pat) (c : Env → M Bool) (e : Env → M D) (vs : List Nat) : Env → M (List D) := fun ρ => (mi ρ).bind fun ds => if ds.length ≤ 100000 then lcGo p c e (wipeE ρ vs) ds else .bad
end
section
variable {K : Fg} {W : Wd K} {E : XK}
theorem wipe_set {i : Nat} {x : Option V} : ∀ {vs : List Nat} {σ : L2.St}, i ∈ vs → wipe (σ.set i x) vs = wipe σ vs
  | [], _, h => by cases h
  | j :: vs, σ, h => by
    unfold wipe
    by_cases e : i ∈ vs
    · rw [wipe_set e]
    · have ij : i = j := by
        rcases List.mem_cons.mp h with h | h
        · exact h
        · exact absurd h e
      subst ij
      have key : ∀ (vs : List Nat) (σ : L2.St), i ∉ vs → wipe (σ.set i x) vs = (wipe σ vs).set i x := by
        intro vs
        induction vs with
        | nil => intro σ _; rfl
        | cons k vs ih =>
          intro σ hk
          have hk' : ¬ i = k ∧ i ∉ vs := by simpa using hk
          unfold wipe
          rw [ih σ hk'.2, List.set_comm _ _ hk'.1]
      rw [key vs σ e, List.set_set]
theorem wipe_setR {Hm : Hp} {is vs : List Nat} {σ σ' : L2.St} {ρ ρ' : Env} (s : SetR K Hm is σ ρ σ' ρ') (h : ∀ i ∈ is, i ∈ vs) : wipe σ' vs = wipe σ vs := by
  induction s with
  | refl => rfl
  | set _ hi _ ih => rw [wipe_set (h _ hi), ih]
theorem wipe_sub {vs : List Nat} {σ : L2.St} : ∀ {ws : List Nat}, (∀ i ∈ ws, i ∈ vs) → wipe (wipe σ ws) vs = wipe σ vs
  | [], _ => rfl
  | i :: ws, h => by
    show wipe ((wipe σ ws).set i none) vs = _
    rw [wipe_set (h i (by simp)), wipe_sub fun j hj => h j (List.mem_cons_of_mem _ hj)]
theorem wipe_wipe (σ : L2.St) (vs : List Nat) : wipe (wipe σ vs) vs = wipe σ vs := wipe_sub fun _ h => h
theorem EnvR.no {Hm : Hp} {σ : L2.St} {ρ : Env} (h : EnvR W Hm σ ρ) (i : Nat) (x : Option V) : EnvR W Hm (σ.set i x) (ρ.set i .no) := ⟨by simp [h.1], fun j d l => by
  rw [look_set] at l
  by_cases e : i = j ∧ j < ρ.length
  · rw [if_pos e] at l; cases l
  · rw [if_neg e] at l
    obtain ⟨w, h1, h2⟩ := h.2.1 j d l
    refine ⟨w, ?_, h2⟩
    have hj : j < σ.length := (List.getElem?_eq_some_iff.mp h1).1
    have : ¬ i = j := fun z => e ⟨z, by rw [← h.1]; exact hj⟩
    simp [List.getElem?_set, this, h1], fun j l => by
  rw [List.getElem?_set] at l ⊢
  by_cases e : i = j
  · rw [if_pos e] at l
    split at l <;> cases l
  · rw [if_neg e] at l ⊢
    exact h.2.2.1 j l, fun j kvs l => by
  rw [List.getElem?_set] at l
  by_cases e : i = j
  · rw [if_pos e] at l
    split at l <;> cases l
  · rw [if_neg e] at l
    obtain ⟨p, vs, h1, h2, h3⟩ := h.2.2.2 j kvs l
    exact ⟨p, vs, by rw [List.getElem?_set, if_neg e]; exact h1, h2, h3⟩⟩
theorem env_wipe {Hm : Hp} {σ : L2.St} {ρ : Env} (h : EnvR W Hm σ ρ) : ∀ vs : List Nat, EnvR W Hm (wipe σ vs) (wipeE ρ vs)
  | [] => h
  | i :: vs => (env_wipe h vs).no i none
theorem Ok.also {Y : Addr → Bool} {H : Hp} {p : Addr} {xs : List V} (o : Ok W Y H) (hp : H p = none) : Ok W (also Y p) (upd H p (.lst xs)) := ⟨W.up o.1 (Same.new hp), fun a h => also_r a (o.2.1 a h), fun a h => by
  by_cases ea : a = p
  · subst ea; exact ⟨_, upd_same, rfl⟩
  · have : Y a = true := by simpa [Mi.also, ea] using h
    obtain ⟨u, hu, iu⟩ := o.2.2 a this
    exact ⟨u, by rw [upd_ne ea]; exact hu, iu⟩⟩
theorem GI.seq {α : Type} {wi : TI} {mi : Env → M (List D)} {Y : Addr → Bool} {σ : L2.St} {H : Hp} {ρ : Env} {f : List D → M α} {R : α → Prop} {Er : Str → List D → Prop} {Q : It → Hp → Prop} (h : GI W E wi mi) (o : Ok W Y H) (e : EnvR W (mask W Y H) σ ρ) (w : ((mi ρ).bind f).wp R Er) (hE : ∀ c p, Er c p → ErrP W E H c p)
    (k : ∀ ds, (f ds).wp R Er → RetIt W Y H Q ds) : wi σ H Q :=
  h Y σ H ρ Q o e (M.wp_mono (fun ds hd => k ds hd) hE _ ((M.wp_bind _).mp w))
theorem gn_lc {wi : TI} {g : TG} {tt : TT} {te : TE} {vs is : List Nat} {mi : Env → M (List D)} {p : Pat} {c : Env → M Bool} {e : Env → M D} (hi : GI W E wi mi) (hp : GP K g p is) (hc : GT W E tt c) (he : GE W E te e) (hv : ∀ i ∈ is, i ∈ vs := by decide) : GN W E (tLc wi g tt te vs) (mLc mi p c e vs) := fun Y σ H ρ Q o r w =>
  hi.seq o r w (fun _ _ h => h) fun ds w1 J G Yw H2 e2 wk hG hY Dl hD => by
    split at w1
    case isFalse => exact w1.elim
    rename_i hz
    have o2 := o.ext e2
    have eD : Same H2 (upd H2 Dl (.lst [])) := Same.new hD
    have frD := W.new o2.1 hD
    have YD : Y Dl = false := o2.fresh hD
    have rr : EnvR W (mask W (also Y Dl) (upd H2 Dl (.lst []))) (wipe σ vs) (wipeE ρ vs) := env_wipe ((r.up o e2).same (mask_new o2 hD)) vs
    refine lc_it wk (fun i H' => Ext W H2 H' ∧ Ok W (also Y Dl) H' ∧ EnvR W (mask W (also Y Dl) H') (wipe σ vs) (wipeE ρ vs) ∧ ∃ acc ds', H' Dl = some (.lst acc) ∧ ds'.length ≤ i ∧ Dms W (also Y Dl) H' acc ds' ∧ (lcGo p c e (wipeE ρ vs) (ds.drop i)).wp (fun es => RetPn W Y H Q (ds' ++ es)) (ErrP W E H))
      ⟨.of o2.1 eD, o2.also hD, rr, [], [], upd_same, Nat.le_refl _, .nil, by simpa using w1⟩ (fun i H' _ q => hG H' (.ext q.1 o2.2.1)) (fun i x Ha Hb hlt q y => ?_) (fun H' q => ?_)
    · obtain ⟨q1, q2, q3, acc, ds', q4, q5, q6, q7⟩ := q
      obtain ⟨eb, d, hd, hx⟩ := hY i Ha x Hb (also Y Dl) hlt (.ext q1 o2.2.1) q2 (fun a h => by
        by_cases ea : a = Dl
        · subst ea; exact .inr hD
        · exact .inl (by simpa [Mi.also, ea] using h)) y
      have eb' : Ext W Ha Hb := .of q2.1 eb
      have ob := q2.ext eb'
      have e2b := q1.trans eb'
      have rb := q3.up q2 eb'
      have hdr : ds.drop i = d :: ds.drop (i + 1) := by
        obtain ⟨hl, hg⟩ := List.getElem?_eq_some_iff.mp hd
        rw [List.drop_eq_getElem_cons hl, hg]
      rw [hdr] at q7
      unfold lcGo at q7
      cases hpd : p d (wipeE ρ vs) with
      | none => rw [hpd] at q7; exact q7.elim
      | some ρ1 =>
        rw [hpd] at q7
        refine hp _ Hb x d (wipe σ vs) (wipeE ρ vs) ρ1 _ (mask_le (W := W) (Y := also Y Dl) (H := Hb)) hx hpd fun σ1 s1 => ⟨wipe_setR s1 hv |>.trans (wipe_wipe σ vs), ?_⟩
        have r1 := rb.sets s1
        have eHb := e2.trans e2b
        refine hc.seq (Er := ErrP W E H) ob r1 q7 (fun _ _ h => h.up eHb) fun k H3 e3 o3 r3 w3 => ?_
        have YDl : W.X Dl = false := o2.x YD
        have l3 : H3 Dl = some (.lst acc) := e3.1 _ _ (eb _ _ q4) YDl
        cases k with
        | false =>
          refine (if_neg Bool.false_ne_true).mpr ⟨e2b.trans e3, o3, rb.up ob e3, acc, ds', l3, by omega, (q6.up q2 eb').up ob e3, ?_⟩
          simpa using w3
        | true =>
          refine (if_pos rfl).mpr (he.seq (Er := ErrP W E H) o3 r3 (by simpa using w3) (fun _ _ h => h.up (eHb.trans e3)) fun dv y' H4 e4 o4 r4 hy w4 => ?_)
          have l4 : H4 Dl = some (.lst acc) := e4.1 _ _ l3 YDl
          have hds := ((q6.up q2 eb').up ob e3).up o3 e4
          have lacc := q6.length
          refine ⟨acc, l4, by rw [sizeLine_eq]; omega, ?_⟩
          have mo : mask W (also Y Dl) (upd H4 Dl (.lst (acc ++ [y']))) = mask W (also Y Dl) H4 := mask_off (by simp [Mi.also])
          have I4 : W.I (upd H4 Dl (.lst (acc ++ [y']))) := W.off o4.1 frD l4 rfl
          have e24 := (e2b.trans e3).trans e4
          refine ⟨⟨fun b u hb hx => ?_, I4⟩, ⟨I4, o4.2.1, fun a ha => ?_⟩, by rw [mo]; exact (rb.up ob e3).up o3 e4, acc ++ [y'], ds' ++ [dv], upd_same, by simp; omega, by unfold Dms; rw [mo]; exact hds.app (.cons hy .nil), ?_⟩
          · rw [upd_ne (ne_of_none hb hD)]; exact e24.1 b u hb hx
          · by_cases ea : a = Dl
            · subst ea; exact ⟨_, upd_same, rfl⟩
            · rw [upd_ne ea]; exact o4.2.2 a ha
          · exact M.wp_mono (fun es h => by simpa using h) (fun _ _ h => h) _ ((M.wp_bind _).mp w4)
    · obtain ⟨q1, q2, q3, acc, ds', q4, q5, q6, q7⟩ := q
      rw [List.drop_length] at q7
      have q7' : RetPn W Y H Q (ds' ++ []) := q7
      rw [List.append_nil] at q7'
      exact q7' Dl acc H' (e2.trans q1) (e2.free o.1 hD) q4 q6
end
end Mi

namespace Mi
open PySem L2 Cc
inductive Fl where
  | nx (ρ : Env) | bk (ρ : Env) | ct (ρ : Env) | rt (d : D)
  /-- hands back d; the instance at slot 0 holds es then -/
  | rs (d : D) (k : Nat) (ns : List Str) (es : List D)
def Fl.next (f : Fl) (k : Env → M Fl) : M Fl := match f with
  | .nx ρ => k ρ
  | f => .ret f
def Fl.turn (f : Fl) (k : Env → M Fl) : M Fl := match f with
  | .nx ρ => k ρ
  | .ct ρ => k ρ
  | .bk ρ => .ret (.nx ρ)
  | .rt d => .ret (.rt d)
  | .rs d k ns es => .ret (.rs d k ns es)
def vB (ρ : Env) : Env := ρ.map fun s => match s with
  | .own ds => .dat (.lst ds)
  | .dk kvs => .dkR kvs
  | .dn w ks ds => .dat (.dct w ks ds)
  | .slf _ C (n :: ns) ds => .dat (.ob C (n :: ns) ds)
  | .slf _ _ [] _ => .no
  | s => s
structure Bases where
  l : List (Hp × (Addr → Bool))
  s : Option Addr := none
def YL (Y : Addr → Bool) (L : List (Nat × Addr)) : Addr → Bool := fun a => Y a || L.any fun p => p.2 == a
structure QT where
  es : Array DictEntry
  ep : Nat
  xs : List Ent
  vs : List V
def DnQ (K : Fg) (Hm : Hp) (w : World) (ks : List NestedKey) (ds : List D) (q : QT) : Prop := DnE Hm w q.es q.xs q.vs ∧ ks = q.xs.map (·.1) ∧ Dns K Hm q.vs ds
theorem DnQ.up {K : Fg} {Hm Hm' : Hp} {w : World} {ks : List NestedKey} {ds : List D} {q : QT} (h : DnQ K Hm w ks ds q) (e : Same Hm Hm') : DnQ K Hm' w ks ds q := ⟨h.1.ext fun b ys ⟨o, po, q⟩ => ⟨o, po, e _ _ q⟩, h.2.1, h.2.2.up e⟩
theorem DnQ.upE {K : Fg} {W : Wd K} {Y : Addr → Bool} {H H' : Hp} {w : World} {ks : List NestedKey} {ds : List D} {q : QT} (h : DnQ K (mask W Y H) w ks ds q) (o : Ok W Y H) (e : Ext W H H') : DnQ K (mask W Y H') w ks ds q := DnQ.up h (mask_ext o e)
theorem DnQ.less {K : Fg} {W : Wd K} {Y Y' : Addr → Bool} {H : Hp} {w : World} {ks : List NestedKey} {ds : List D} {q : QT} (h : DnQ K (mask W Y H) w ks ds q) (k : ∀ a, Y' a = true → Y a = true) : DnQ K (mask W Y' H) w ks ds q := DnQ.up h (mask_anti k)
theorem DnQ.dct {K : Fg} {Hm : Hp} {w : World} {ks : List NestedKey} {ds : List D} {q : QT} {a : Addr} (h : DnQ K Hm w ks ds q) (e : Hm a = some (DnO a q.es q.ep)) : Dn K Hm (.ref a) (.dct w ks ds) := .dct e h.1 h.2.1 h.2.2
section
variable {K : Fg} {W : Wd K} {E : XK}
def SlR (W : Wd K) (Y : Addr → Bool) (H : Hp) (L : List (Nat × Addr)) (S : Option Addr) (σ : L2.St) (i : Nat) : Sl → Prop
  | .no => True
  | .dat d => ∃ v, σ[i]? = some (some v) ∧ Dm W Y H v d
  | .own ds => ∃ l xs, σ[i]? = some (some (.ref l)) ∧ (i, l) ∈ L ∧ H l = some (.lst xs) ∧ Dms W Y H xs ds
  | .dk kvs => ∃ l vs, σ[i]? = some (some (.ref l)) ∧ (i, l) ∈ L ∧ H l = some (.dK ((kvs.map (·.1)).zip vs)) ∧ Dms W Y H vs (kvs.map (·.2))
  | .dkR _ => False
  | .dn w ks ds => ∃ l q, σ[i]? = some (some (.ref l)) ∧ (i, l) ∈ L ∧ H l = some (DnO l q.es q.ep) ∧ DnQ K (mask W Y H) w ks ds q
  | .slf k C ns ds => ∃ x dx fs, σ[i]? = some (some (.ref x)) ∧ (∀ y, S = some y → i = 0 → x = y) ∧ (i, x) ∈ L ∧ H x = some (.ins C dx fs) ∧ fs.map (·.1) = ns ∧ (C = W.cls k ∧ (ns ≠ [] → W.ct ns = some C)) ∧ Dms W Y H (fs.map (·.2)) ds
  | .row => σ[i]? = some (some (.ref W.r))
structure SR (W : Wd K) (Y : Addr → Bool) (B : Bases) (σ : L2.St) (H : Hp) (ρ : Env) (L : List (Nat × Addr)) : Prop where
  ok : Ok W Y H
  bs : ∀ k ∈ B.l, (∀ a, W.X a = true → k.2 a = true) ∧ St k.2 k.1 H
  len : σ.length = ρ.length
  fre : ∀ p ∈ L, (∀ k ∈ B.l, k.1 p.2 = none ∨ k.2 p.2 = true) ∧ W.Fr p.2 ∧ Y p.2 = false ∧ ∃ o, H p.2 = some o ∧ cellO o = true
  nd : (L.map (·.2)).Nodup
  sl : ∀ i s, ρ[i]? = some s → SlR W (YL Y L) H L B.s σ i s
abbrev SRx (W : Wd K) (Y : Addr → Bool) (B : Bases) (σ : L2.St) (H : Hp) (ρ : Env) : Prop := ∃ L, SR W Y B σ H ρ L
def Bok (W : Wd K) (B : Bases) (H : Hp) : Prop := W.I H ∧ ∀ k ∈ B.l, St k.2 k.1 H
def ErrB (W : Wd K) (E : XK) (B : Bases) : Str → List D → Prop := fun c p => ∀ cls o H', Bok W B H' → IsE W c p cls o H' → E cls o H'
def FlP (W : Wd K) (Y : Addr → Bool) (B : Bases) (Dn : Ends) : Fl → Prop
  | .nx ρ => ∀ σ H, SRx W Y B σ H ρ → Dn.nx σ H
  | .bk ρ => ∀ σ H, SRx W Y B σ H ρ → Dn.bk σ H
  | .ct ρ => ∀ σ H, SRx W Y B σ H ρ → Dn.ct σ H
  | .rt d => ∀ v H, Bok W B H → Dm W Y H v d → Dn.rt v H
  | .rs d k ns es => ∀ v H x dx fs, (∀ y, B.s = some y → x = y) → Bok W B H → H x = some (.ins (W.cls k) dx fs) → fs.map (·.1) = ns → Dms W (also Y x) H (fs.map (·.2)) es → Dm W (also Y x) H v d → Dn.rt v H
def GS (W : Wd K) (E : XK) (ts : TS) (ms : Env → M Fl) : Prop := ∀ Y B σ H ρ Dn, SRx W Y B σ H ρ → (ms ρ).wp (FlP W Y B Dn) (ErrB W E B) → ts Dn σ H
section
variable {Y : Addr → Bool} {B : Bases} {σ : L2.St} {H H' : Hp} {ρ : Env} {L : List (Nat × Addr)}
theorem Dm.same' {K : Fg} {Hm Hm' : Hp} {v : V} {d : D} (h : Dn K Hm v d) (e : Same Hm Hm') : Dn K Hm' v d := h.up e
theorem YL_y {a : Addr} (h : Y a = true) : YL Y L a = true := by simp [YL, h]
theorem YL_l {p : Nat × Addr} (h : p ∈ L) : YL Y L p.2 = true := by
  have : (L.any fun q => q.2 == p.2) = true := List.any_eq_true.mpr ⟨p, h, by simp⟩
  simp [YL, this]
theorem YL_or {a : Addr} (h : YL Y L a = true) : Y a = true ∨ ∃ p ∈ L, p.2 = a := by
  simp only [YL, Bool.or_eq_true, List.any_eq_true, beq_iff_eq] at h
  rcases h with h | ⟨p, h1, h2⟩
  · exact .inl h
  · exact .inr ⟨p, h1, h2⟩
theorem SR.okL (s : SR W Y B σ H ρ L) : Ok W (YL Y L) H := ⟨s.ok.1, fun a h => YL_y (s.ok.2.1 a h), fun a h => by
  rcases YL_or h with h | ⟨p, hp, rfl⟩
  · exact s.ok.2.2 a h
  · obtain ⟨_, _, _, o, hx, ho⟩ := s.fre p hp
    exact ⟨_, hx, ho⟩⟩
theorem SR.bok (s : SR W Y B σ H ρ L) : Bok W B H := ⟨s.ok.1, fun k hk => (s.bs k hk).2⟩
theorem SR.bokE (s : SR W Y B σ H ρ L) (e : Ext W H H') : Bok W B H' := ⟨e.2, fun k hk => (s.bs k hk).2.trans (.ext e (s.bs k hk).1)⟩
theorem SR.lx (s : SR W Y B σ H ρ L) {p : Nat × Addr} (h : p ∈ L) : W.X p.2 = false := s.ok.x (s.fre p h).2.2.1
theorem SR.up (s : SR W Y B σ H ρ L) (e : Ext W H H') : SR W Y B σ H' ρ L where
  ok := s.ok.ext e
  bs := fun k hk => ⟨(s.bs k hk).1, (s.bs k hk).2.trans (.ext e (s.bs k hk).1)⟩
  len := s.len
  fre := fun p hp => by
    obtain ⟨h1, h2, h3, o, hx, ho⟩ := s.fre p hp
    exact ⟨h1, h2, h3, o, e.1 _ _ hx (s.lx hp), ho⟩
  nd := s.nd
  sl := fun i t ht => by
    have h := s.sl i t ht
    cases t with
    | no => trivial
    | dat d =>
      obtain ⟨v, h1, h2⟩ := h
      exact ⟨v, h1, h2.up s.okL e⟩
    | own ds =>
      obtain ⟨l, xs, h1, h2, h3, h4⟩ := h
      exact ⟨l, xs, h1, h2, e.1 _ _ h3 (s.lx h2), h4.up s.okL e⟩
    | dkR _ => exact h.elim
    | dk ds =>
      obtain ⟨l, xs, h1, h2, h3, h4⟩ := h
      exact ⟨l, xs, h1, h2, e.1 _ _ h3 (s.lx h2), h4.up s.okL e⟩
    | dn w0 ks0 ds =>
      obtain ⟨l, xs, h1, h2, h3, h4⟩ := h
      exact ⟨l, xs, h1, h2, e.1 _ _ h3 (s.lx h2), DnQ.upE h4 s.okL e⟩
    | slf k C ns ds =>
      obtain ⟨x, dx, fs, h1, hS, h2, h3, h4, h5, h6⟩ := h
      exact ⟨x, dx, fs, h1, hS, h2, e.1 _ _ h3 (s.lx h2), h4, h5, h6.up s.okL e⟩
    | row => exact h
theorem look_dat {ρ : Env} {i : Nat} {d : D} (h : look ρ i = some d) : ρ[i]? = some (.dat d) := by
  unfold look at h
  split at h
  · rename_i e; rw [e]; cases h; rfl
  · cases h
theorem SR.envA (s : SR W Y B σ H ρ L) : EnvR W (mask W (YL Y L) H) σ ρ := ⟨s.len, fun i d l => s.sl i _ (look_dat l), fun i l => s.sl i _ l, fun i kvs l => (s.sl i _ l).elim⟩
theorem SR.envB (s : SR W Y B σ H ρ L) : EnvR W (mask W Y H) σ (vB ρ) := ⟨by simp [vB, s.len], fun i d l => by
  have h := look_dat l
  unfold vB at h
  rw [List.getElem?_map] at h
  cases e : ρ[i]? with
  | none => rw [e] at h; cases h
  | some t =>
    rw [e] at h
    have q := s.sl i t e
    cases t with
    | no => cases h
    | dat d' =>
      cases h
      obtain ⟨v, h1, h2⟩ := q
      exact ⟨v, h1, h2.less fun a => YL_y⟩
    | own ds =>
      cases h
      obtain ⟨l, xs, h1, h2, h3, h4⟩ := q
      exact ⟨_, h1, .lst (mask_at h3 (s.fre _ h2).2.2.1 fun _ _ _ z => nomatch z) (h4.less fun a => YL_y)⟩
    | dkR _ => cases h
    | dk ds => cases h
    | dn w0 ks0 ds =>
      cases h
      obtain ⟨l, q, h1, h2, h3, h4⟩ := q
      exact ⟨_, h1, DnQ.dct (DnQ.less h4 fun a => YL_y) (mask_at h3 (s.fre _ h2).2.2.1 fun _ _ _ z => nomatch z)⟩
    | slf k C ns ds =>
      cases ns with
      | nil => cases h
      | cons n ns =>
      cases h
      obtain ⟨x, dx, fs, h1, hS, h2, h3, h4, h5, h6⟩ := q
      refine ⟨_, h1, .ob (mask_at h3 (s.fre _ h2).2.2.1 fun C' dx' fs' z => ?_) h4 (h6.less fun a => YL_y)⟩
      cases z
      rw [h4]; exact h5.2 (by simp)
    | row => exact (nomatch h), fun i l => by
  unfold vB at l
  rw [List.getElem?_map] at l
  cases e : ρ[i]? with
  | none => rw [e] at l; cases l
  | some t =>
    rw [e] at l
    cases t with
    | row => exact s.sl i _ e
    | slf k C ns ds => cases ns <;> cases l
    | _ => (cases l), fun i kvs l => by
  unfold vB at l
  rw [List.getElem?_map] at l
  cases e : ρ[i]? with
  | none => rw [e] at l; cases l
  | some t =>
    rw [e] at l
    cases t with
    | dk kvs' =>
      cases l
      obtain ⟨p, vs, h1, h2, h3, h4⟩ := s.sl i _ e
      exact ⟨p, vs, h1, mask_at h3 (s.fre _ h2).2.2.1 (fun _ _ _ z => nomatch z), h4.less fun a => YL_y⟩
    | dkR _ => exact (s.sl i _ e).elim
    | slf k C ns ds => cases ns <;> cases l
    | _ => cases l⟩
theorem getElem?_set' {ρ : Env} {i j : Nat} {t s : Sl} (h : (ρ.set i t)[j]? = some s) : (i = j ∧ i < ρ.length ∧ s = t) ∨ (i ≠ j ∧ ρ[j]? = some s) := by
  rw [List.getElem?_set] at h
  by_cases e : i = j
  · subst e
    by_cases hl : i < ρ.length
    · rw [if_pos rfl, if_pos hl] at h
      exact .inl ⟨rfl, hl, (Option.some.inj h).symm⟩
    · rw [if_pos rfl, if_neg hl] at h; cases h
  · rw [if_neg e] at h; exact .inr ⟨e, h⟩
theorem SR.set (s : SR W Y B σ H ρ L) (i : Nat) {v : V} {d : D} (hd : Dm W (YL Y L) H v d) : SR W Y B (σ.set i (some v)) H (ρ.set i (.dat d)) L where
  ok := s.ok
  bs := s.bs
  len := by simp [s.len]
  fre := s.fre
  nd := s.nd
  sl := fun j t ht => by
    rcases getElem?_set' ht with ⟨rfl, hl, rfl⟩ | ⟨hne, h⟩
    · exact ⟨v, by simp [s.len, hl], hd⟩
    · have q := s.sl j t h
      have e : (σ.set i (some v))[j]? = σ[j]? := by simp [List.getElem?_set, hne]
      cases t with
      | no => trivial
      | dat d' => obtain ⟨w, h1, h2⟩ := q; exact ⟨w, by rw [e]; exact h1, h2⟩
      | own ds => obtain ⟨l, xs, h1, h2⟩ := q; exact ⟨l, xs, by rw [e]; exact h1, h2⟩
      | dkR _ => exact q.elim
      | dk ds => obtain ⟨l, xs, h1, h2⟩ := q; exact ⟨l, xs, by rw [e]; exact h1, h2⟩
      | dn w0 ks0 ds => obtain ⟨l, xs, h1, h2⟩ := q; exact ⟨l, xs, by rw [e]; exact h1, h2⟩
      | slf k C ns ds => obtain ⟨x, dx, fs, h1, h2⟩ := q; exact ⟨x, dx, fs, by rw [e]; exact h1, h2⟩
      | row => exact e.trans q
theorem SR.sets {is : List Nat} {σ' : L2.St} {ρ' : Env} (s : SR W Y B σ H ρ L) (h : SetR K (mask W (YL Y L) H) is σ ρ σ' ρ') : SR W Y B σ' H ρ' L := by
  induction h with
  | refl => exact s
  | set _ _ hd ih => exact (ih s).set _ hd
theorem YL_also {i : Nat} {p : Addr} : YL Y ((i, p) :: L) = also (YL Y L) p := by
  funext a
  simp only [YL, also, List.any_cons]
  rw [show (p == a) = (a == p) from by simp [Bool.beq_eq_decide_eq, eq_comm]]
  cases (a == p) <;> cases Y a <;> simp
theorem SR.own (s : SR W Y B σ H ρ L) (i : Nat) {p : Addr} {xs : List V} {ds : List D} (e : Ext W H H') (hp : H p = none) (hx : H' p = some (.lst xs)) (hd : Dms W (also (YL Y L) p) H' xs ds) : SR W Y B (σ.set i (some (.ref p))) H' (ρ.set i (.own ds)) ((i, p) :: L) where
  ok := s.ok.ext e
  bs := fun k hk => ⟨(s.bs k hk).1, (s.bs k hk).2.trans (.ext e (s.bs k hk).1)⟩
  len := by simp [s.len]
  fre := fun q hq => by
    rcases List.mem_cons.mp hq with rfl | hq
    · refine ⟨fun k hk => ?_, W.new s.ok.1 hp, s.ok.fresh hp, _, hx, rfl⟩
      cases z : k.2 p with
      | true => exact .inr rfl
      | false =>
        refine .inl ?_
        cases y : k.1 p with
        | none => rfl
        | some o => rw [(s.bs k hk).2 p o y z] at hp; cases hp
    · obtain ⟨h1, h2, h3, ys, hy, ho⟩ := s.fre q hq
      exact ⟨h1, h2, h3, ys, e.1 _ _ hy (s.lx hq), ho⟩
  nd := by
    rw [List.map_cons, List.nodup_cons]
    refine ⟨fun z => ?_, s.nd⟩
    obtain ⟨q, hq, e⟩ := List.mem_map.mp z
    obtain ⟨_, _, _, ys, hy, _⟩ := s.fre q hq
    rw [show q.2 = p from e, hp] at hy
    cases hy
  sl := fun j t ht => by
    rw [YL_also]
    have go : ∀ {v : V} {d : D}, Dm W (YL Y L) H v d → Dm W (also (YL Y L) p) H' v d := fun h => Dm.same' h (mask_go (.ext e s.okL.2.1) fun a ha => by
      by_cases ea : a = p
      · subst ea; exact .inr hp
      · exact .inl (by simpa [also, ea] using ha))
    have gosq : ∀ {w : World} {ks : List NestedKey} {ds : List D} {q : QT}, DnQ K (mask W (YL Y L) H) w ks ds q → DnQ K (mask W (also (YL Y L) p) H') w ks ds q := fun h => DnQ.up h (mask_go (.ext e s.okL.2.1) fun a ha => by
      by_cases ea : a = p
      · subst ea; exact .inr hp
      · exact .inl (by simpa [also, ea] using ha))
    have gos : ∀ {v : List V} {d : List D}, Dms W (YL Y L) H v d → Dms W (also (YL Y L) p) H' v d := fun h => Dns.same (mask_go (.ext e s.okL.2.1) fun a ha => by
      by_cases ea : a = p
      · subst ea; exact .inr hp
      · exact .inl (by simpa [also, ea] using ha)) _ _ h
    rcases getElem?_set' ht with ⟨rfl, hl, rfl⟩ | ⟨hne, h⟩
    · exact ⟨p, xs, by simp [s.len, hl], by simp, hx, hd⟩
    · have q := s.sl j t h
      have e' : (σ.set i (some (.ref p)))[j]? = σ[j]? := by simp [List.getElem?_set, hne]
      cases t with
      | no => trivial
      | dat d' => obtain ⟨w, h1, h2⟩ := q; exact ⟨w, by rw [e']; exact h1, go h2⟩
      | own ds => obtain ⟨l, ys, h1, h2, h3, h4⟩ := q; exact ⟨l, ys, by rw [e']; exact h1, List.mem_cons_of_mem _ h2, e.1 _ _ h3 (s.lx h2), gos h4⟩
      | dkR _ => exact q.elim
      | dk ds => obtain ⟨l, ys, h1, h2, h3, h4⟩ := q; exact ⟨l, ys, by rw [e']; exact h1, List.mem_cons_of_mem _ h2, e.1 _ _ h3 (s.lx h2), gos h4⟩
      | dn w0 ks0 ds => obtain ⟨l, ys, h1, h2, h3, h4⟩ := q; exact ⟨l, ys, by rw [e']; exact h1, List.mem_cons_of_mem _ h2, e.1 _ _ h3 (s.lx h2), gosq h4⟩
      | slf k C ns ds => obtain ⟨x, dx, fs, h1, hS, h2, h3, h4, h5, h6⟩ := q; exact ⟨x, dx, fs, by rw [e']; exact h1, hS, List.mem_cons_of_mem _ h2, e.1 _ _ h3 (s.lx h2), h4, h5, gos h6⟩
      | row => exact e'.trans q
theorem nd_inj : ∀ {L : List (Nat × Addr)} {p q : Nat × Addr}, (L.map (·.2)).Nodup → p ∈ L → q ∈ L → p.2 = q.2 → p = q
  | [], _, _, _, h, _, _ => by cases h
  | r :: L, p, q, nd, hp, hq, e => by
    rw [List.map_cons, List.nodup_cons] at nd
    rcases List.mem_cons.mp hp with rfl | hp'
    · rcases List.mem_cons.mp hq with rfl | hq'
      · rfl
      · exact absurd (List.mem_map.mpr ⟨q, hq', e.symm⟩) nd.1
    · rcases List.mem_cons.mp hq with rfl | hq'
      · exact absurd (List.mem_map.mpr ⟨p, hp', e⟩) nd.1
      · exact nd_inj nd.2 hp' hq' e
theorem SR.putO (s : SR W Y B σ H ρ L) {i : Nat} {l : Addr} {o u : HO} {t : Sl} (hl : (i, l) ∈ L) (hx : H l = some o) (ho : cellO o = true) (hu : cellO u = true) (ht : SlR W (YL Y L) (upd H l u) L B.s σ i t) : SR W Y B σ (upd H l u) (ρ.set i t) L := by
  have mo : mask W (YL Y L) (upd H l u) = mask W (YL Y L) H := mask_off (YL_l hl)
  have I' : W.I (upd H l u) := W.off s.ok.1 (s.fre _ hl).2.1 hx ho
  refine ⟨⟨I', s.ok.2.1, fun a ha => ?_⟩, fun k hk => ⟨(s.bs k hk).1, fun b o hb z => ?_⟩, by simp [s.len], fun p hp => ?_, s.nd, fun j t' ht' => ?_⟩
  · have : a ≠ l := by
      rintro rfl
      rw [(s.fre _ hl).2.2.1] at ha; cases ha
    rw [upd_ne this]; exact s.ok.2.2 a ha
  · have : b ≠ l := by
      rintro rfl
      rcases (s.fre _ hl).1 k hk with h | h
      · rw [h] at hb; cases hb
      · rw [h] at z; cases z
    rw [upd_ne this]; exact (s.bs k hk).2 b o hb z
  · obtain ⟨h1, h2, h3, zs, hz, hc⟩ := s.fre p hp
    refine ⟨h1, h2, h3, ?_⟩
    by_cases e : p.2 = l
    · rw [e]; exact ⟨_, upd_same, hu⟩
    · rw [upd_ne e]; exact ⟨zs, hz, hc⟩
  · rcases getElem?_set' ht' with ⟨rfl, _, rfl⟩ | ⟨hne, h⟩
    · exact ht
    · have q := s.sl j t' h
      have ne : ∀ {l'}, (j, l') ∈ L → l' ≠ l := fun {l'} h2 => by
        rintro rfl
        have := nd_inj s.nd h2 hl rfl
        cases this
        exact hne rfl
      cases t' with
      | no => trivial
      | dat d' => obtain ⟨w, h1, h2⟩ := q; exact ⟨w, h1, by unfold Dm; rw [mo]; exact h2⟩
      | own ds' =>
        obtain ⟨l', zs, h1, h2, h3, h4⟩ := q
        exact ⟨l', zs, h1, h2, by rw [upd_ne (ne h2)]; exact h3, by unfold Dms; rw [mo]; exact h4⟩
      | dkR _ => exact q.elim
      | dk ds' =>
        obtain ⟨l', zs, h1, h2, h3, h4⟩ := q
        exact ⟨l', zs, h1, h2, by rw [upd_ne (ne h2)]; exact h3, by unfold Dms; rw [mo]; exact h4⟩
      | dn w0 ks0 ds' =>
        obtain ⟨l', zs, h1, h2, h3, h4⟩ := q
        exact ⟨l', zs, h1, h2, by rw [upd_ne (ne h2)]; exact h3, by rw [mo]; exact h4⟩
      | slf k C ns ds =>
        obtain ⟨x, dx, fs, h1, hS, h2, h3, h4, h5, h6⟩ := q
        exact ⟨x, dx, fs, h1, hS, h2, by rw [upd_ne (ne h2)]; exact h3, h4, h5, by unfold Dms; rw [mo]; exact h6⟩
      | row => exact q
theorem SR.put (s : SR W Y B σ H ρ L) {i : Nat} {l : Addr} {xs ys : List V} {ds es : List D} (hi : ρ[i]? = some (.own ds)) (hσ : σ[i]? = some (some (.ref l))) (hl : (i, l) ∈ L) (hx : H l = some (.lst xs)) (hd : Dms W (YL Y L) H ys es) : SR W Y B σ (upd H l (.lst ys)) (ρ.set i (.own es)) L :=
  s.putO hl hx rfl rfl ⟨l, ys, hσ, hl, upd_same, by unfold Dms; rw [mask_off (YL_l hl)]; exact hd⟩
def fz (i : Nat) (ρ : Env) : Env := match ρ[i]? with
  | some (.own ds) => ρ.set i (.dat (.lst ds))
  | some (.dn w ks ds) => ρ.set i (.dat (.dct w ks ds))
  | _ => ρ
theorem SR.fz (s : SR W Y B σ H ρ L) (i : Nat) : SRx W Y B σ H (fz i ρ) := by
  unfold Mi.fz
  cases hi : ρ[i]? with
  | none => exact ⟨L, s⟩
  | some t =>
    cases t with
    | no => exact ⟨L, s⟩
    | dat _ => exact ⟨L, s⟩
    | slf _ _ _ _ => exact ⟨L, s⟩
    | dkR _ => exact ⟨L, s⟩
    | dk _ => exact ⟨L, s⟩
    | row => exact ⟨L, s⟩
    | dn w0 ks0 ds =>
      obtain ⟨l, qq, h1, h2, h3, h4⟩ := s.sl i _ hi
      have less : ∀ a, YL Y (L.filter fun p => p.2 != l) a = true → YL Y L a = true := fun a ha => by
        rcases YL_or ha with h | ⟨p, hp, rfl⟩
        · exact YL_y h
        · exact YL_l (List.mem_filter.mp hp).1
      have off : YL Y (L.filter fun p => p.2 != l) l = false := by
        cases z : YL Y (L.filter fun p => p.2 != l) l with
        | false => rfl
        | true =>
          rcases YL_or z with h | ⟨p, hp, e⟩
          · rw [(s.fre _ h2).2.2.1] at h; cases h
          · have := (List.mem_filter.mp hp).2
            simp [e] at this
      refine ⟨L.filter fun p => p.2 != l, s.ok, s.bs, by simp [s.len], fun p hp => s.fre p (List.mem_filter.mp hp).1, (List.Sublist.map _ List.filter_sublist).nodup s.nd, fun j t ht => ?_⟩
      rcases getElem?_set' ht with ⟨rfl, _, rfl⟩ | ⟨hne, h⟩
      · exact ⟨_, h1, DnQ.dct (DnQ.less h4 less) (mask_at h3 off fun _ _ _ z => nomatch z)⟩
      · have q := s.sl j t h
        cases t with
        | no => trivial
        | dat d' => obtain ⟨w, h1, h2⟩ := q; exact ⟨w, h1, h2.less less⟩
        | own ds' =>
          obtain ⟨l', zs, g1, g2, g3, g4⟩ := q
          refine ⟨l', zs, g1, List.mem_filter.mpr ⟨g2, ?_⟩, g3, g4.less less⟩
          have : l' ≠ l := by
            rintro rfl
            have := nd_inj s.nd g2 h2 rfl
            cases this
            exact hne rfl
          simpa using this
        | dkR _ => exact q.elim
        | dk ds' =>
          obtain ⟨l', zs, g1, g2, g3, g4⟩ := q
          refine ⟨l', zs, g1, List.mem_filter.mpr ⟨g2, ?_⟩, g3, g4.less less⟩
          have : l' ≠ l := by
            rintro rfl
            have := nd_inj s.nd g2 h2 rfl
            cases this
            exact hne rfl
          simpa using this
        | dn w0 ks0 ds' =>
          obtain ⟨l', zs, g1, g2, g3, g4⟩ := q
          refine ⟨l', zs, g1, List.mem_filter.mpr ⟨g2, ?_⟩, g3, DnQ.less g4 less⟩
          have : l' ≠ l := by
            rintro rfl
            have := nd_inj s.nd g2 h2 rfl
            cases this
            exact hne rfl
          simpa using this
        | row => exact q
        | slf k C ns ds =>
          obtain ⟨x, dx, fs, g1, gS, g2, g3, g4, g5, g6⟩ := q
          refine ⟨x, dx, fs, g1, gS, List.mem_filter.mpr ⟨g2, ?_⟩, g3, g4, g5, g6.less less⟩
          have : x ≠ l := by
            rintro rfl
            have := nd_inj s.nd g2 h2 rfl
            cases this
            exact hne rfl
          simpa using this
    | own ds =>
      obtain ⟨l, xs, h1, h2, h3, h4⟩ := s.sl i _ hi
      have less : ∀ a, YL Y (L.filter fun p => p.2 != l) a = true → YL Y L a = true := fun a ha => by
        rcases YL_or ha with h | ⟨p, hp, rfl⟩
        · exact YL_y h
        · exact YL_l (List.mem_filter.mp hp).1
      have off : YL Y (L.filter fun p => p.2 != l) l = false := by
        cases z : YL Y (L.filter fun p => p.2 != l) l with
        | false => rfl
        | true =>
          rcases YL_or z with h | ⟨p, hp, e⟩
          · rw [(s.fre _ h2).2.2.1] at h; cases h
          · have := (List.mem_filter.mp hp).2
            simp [e] at this
      refine ⟨L.filter fun p => p.2 != l, s.ok, s.bs, by simp [s.len], fun p hp => s.fre p (List.mem_filter.mp hp).1, (List.Sublist.map _ List.filter_sublist).nodup s.nd, fun j t ht => ?_⟩
      rcases getElem?_set' ht with ⟨rfl, _, rfl⟩ | ⟨hne, h⟩
      · exact ⟨_, h1, .lst (mask_at h3 off fun _ _ _ z => nomatch z) (h4.less less)⟩
      · have q := s.sl j t h
        cases t with
        | no => trivial
        | dat d' => obtain ⟨w, h1, h2⟩ := q; exact ⟨w, h1, h2.less less⟩
        | own ds' =>
          obtain ⟨l', zs, g1, g2, g3, g4⟩ := q
          refine ⟨l', zs, g1, List.mem_filter.mpr ⟨g2, ?_⟩, g3, g4.less less⟩
          have : l' ≠ l := by
            rintro rfl
            have := nd_inj s.nd g2 h2 rfl
            cases this
            exact hne rfl
          simpa using this
        | dkR _ => exact q.elim
        | dk ds' =>
          obtain ⟨l', zs, g1, g2, g3, g4⟩ := q
          refine ⟨l', zs, g1, List.mem_filter.mpr ⟨g2, ?_⟩, g3, g4.less less⟩
          have : l' ≠ l := by
            rintro rfl
            have := nd_inj s.nd g2 h2 rfl
            cases this
            exact hne rfl
          simpa using this
        | dn w0 ks0 ds' =>
          obtain ⟨l', zs, g1, g2, g3, g4⟩ := q
          refine ⟨l', zs, g1, List.mem_filter.mpr ⟨g2, ?_⟩, g3, DnQ.less g4 less⟩
          have : l' ≠ l := by
            rintro rfl
            have := nd_inj s.nd g2 h2 rfl
            cases this
            exact hne rfl
          simpa using this
        | row => exact q
        | slf k C ns ds =>
          obtain ⟨x, dx, fs, g1, gS, g2, g3, g4, g5, g6⟩ := q
          refine ⟨x, dx, fs, g1, gS, List.mem_filter.mpr ⟨g2, ?_⟩, g3, g4, g5, g6.less less⟩
          have : x ≠ l := by
            rintro rfl
            have := nd_inj s.nd g2 h2 rfl
            cases this
            exact hne rfl
          simpa using this
end
end
end Mi

namespace Mi
open PySem L2 Cc
def ok1 (d : D) : Bool := d.fix && d.pl
def okL (ds : List D) : Bool := D.fixs ds && D.pls ds
def sNext : Env → M Fl := fun ρ => .ret (.nx ρ)
def sBreak : Env → M Fl := fun ρ => .ret (.bk ρ)
def sCont : Env → M Fl := fun ρ => .ret (.ct ρ)
def sSeq (a b : Env → M Fl) : Env → M Fl := fun ρ => (a ρ).bind fun f => f.next b
def sExpr (m : Env → M D) : Env → M Fl := fun ρ => (m (vB ρ)).bind fun _ => .ret (.nx ρ)
def sAsg (i : Nat) (m : Env → M D) : Env → M Fl := fun ρ => (m ρ).bind fun d => .ret (.nx (ρ.set i (.dat d)))
def sAsgB (i : Nat) (m : Env → M D) : Env → M Fl := fun ρ => (m (vB ρ)).bind fun d => if ok1 d then .ret (.nx (ρ.set i (.dat d))) else .bad
def sPat (p : Pat) (m : Env → M D) : Env → M Fl := fun ρ => (m ρ).bind fun d => match p d ρ with
  | some ρ' => .ret (.nx ρ')
  | none => .bad
def sPatB (p : Pat) (m : Env → M D) : Env → M Fl := fun ρ => (m (vB ρ)).bind fun d => if ok1 d then (match p d ρ with
  | some ρ' => .ret (.nx ρ')
  | none => .bad) else .bad
def sOwn (i : Nat) (m : Env → M (List D)) : Env → M Fl := fun ρ => (m ρ).bind fun ds => .ret (.nx (ρ.set i (.own ds)))
def sOwnB (i : Nat) (m : Env → M (List D)) : Env → M Fl := fun ρ => (m (vB ρ)).bind fun ds => if okL ds then .ret (.nx (ρ.set i (.own ds))) else .bad
def sPar (i j : Nat) (m : Env → M (List D)) : Env → M Fl := fun ρ => (m ρ).bind fun ds => match ds with
  | [d, e] => .ret (.nx ((ρ.set i (.dat d)).set j (.dat e)))
  | _ => .bad
def sRet (m : Env → M D) : Env → M Fl := fun ρ => (m (vB ρ)).bind fun d => .ret (.rt d)
def sRetN : Env → M Fl := fun _ => .ret (.rt .non)
def sIf (c : Env → M Bool) (a b : Env → M Fl) : Env → M Fl := fun ρ => (c (vB ρ)).bind fun k => if k then a ρ else b ρ
def forGo (p : Pat) (body : Env → M Fl) : List D → Env → M Fl
  | [], ρ => .ret (.nx ρ)
  | d :: ds, ρ => match p d ρ with
    | some ρ1 => (body ρ1).bind fun f => f.turn fun ρ2 => forGo p body ds ρ2
    | none => .bad
def sFor (mi : Env → M (List D)) (p : Pat) (body : Env → M Fl) : Env → M Fl := fun ρ => (mi ρ).bind fun ds => forGo p body ds ρ
def sForB (mi : Env → M (List D)) (p : Pat) (body : Env → M Fl) : Env → M Fl := fun ρ => (mi (vB ρ)).bind fun ds => if okL ds then forGo p body ds ρ else .bad
def whGo (c : Env → M Bool) (body : Env → M Fl) : Nat → Env → M Fl
  | 0, _ => .bad
  | n + 1, ρ => (c (vB ρ)).bind fun k => if k then (body ρ).bind fun f => f.turn fun ρ2 => whGo c body n ρ2 else .ret (.nx ρ)
def sApp (i : Nat) (m : Env → M D) : Env → M Fl := fun ρ => match ρ[i]? with
  | some (.own ds) => (m ρ).bind fun d => if ds.length < 100000 then .ret (.nx (ρ.set i (.own (ds ++ [d])))) else .bad
  | _ => .bad
def sAppB (i : Nat) (m : Env → M D) : Env → M Fl := fun ρ => match ρ[i]? with
  | some (.own ds) => (m (vB ρ)).bind fun d => if ds.length < 100000 ∧ ok1 d = true then .ret (.nx (ρ.set i (.own (ds ++ [d])))) else .bad
  | _ => .bad
def sExt (i : Nat) (m : Env → M D) : Env → M Fl := fun ρ => match ρ[i]? with
  | some (.own ds) => (m ρ).bind fun d => match d with
    | .lst es => if ds.length + es.length ≤ 100000 then .ret (.nx (ρ.set i (.own (ds ++ es)))) else .bad
    | _ => .bad
  | _ => .bad
def sExtB (i : Nat) (m : Env → M D) : Env → M Fl := fun ρ => match ρ[i]? with
  | some (.own ds) => (m (vB ρ)).bind fun d => match d with
    | .lst es => if ds.length + es.length ≤ 100000 ∧ okL es = true then .ret (.nx (ρ.set i (.own (ds ++ es)))) else .bad
    | _ => .bad
  | _ => .bad
def sSet (i : Nat) (mj m : Env → M D) : Env → M Fl := fun ρ => match ρ[i]? with
  | some (.own ds) => (m (vB ρ)).bind fun d => (mj (vB ρ)).bind fun j => match j with
    | .int k => match ixN ds.length k with
      | some n => if ok1 d = true then .ret (.nx (ρ.set i (.own (ds.set n d)))) else .bad
      | none => .bad
    | _ => .bad
  | _ => .bad
def sFz (i : Nat) (a : Env → M Fl) : Env → M Fl := fun ρ => a (fz i ρ)
section
variable {K : Fg} {W : Wd K} {E : XK} {te : TE} {m : Env → M D} {mn : Env → M (List D)} {tt : TT} {c : Env → M Bool} {ts tu : TS} {a b : Env → M Fl}
theorem ErrB.at' {Y : Addr → Bool} {B : Bases} {σ : L2.St} {H : Hp} {ρ : Env} {L : List (Nat × Addr)} (s : SR W Y B σ H ρ L) {c : Str} {p : List D} (h : ErrB W E B c p) : ErrP W E H c p := fun cls o H' e he => h cls o H' (s.bokE e) he
theorem gs_next : GS W E tNext sNext := fun Y B σ H ρ Dn s w => w σ H s
theorem gs_seq (h1 : GS W E ts a) (h2 : GS W E tu b) : GS W E (tSeq ts tu) (sSeq a b) := fun Y B σ H ρ Dn s w =>
  h1 Y B σ H ρ _ s (M.wp_mono (fun f hf => by
    cases f with
    | nx ρ' => exact fun σ' H' s' => h2 Y B σ' H' ρ' Dn s' hf
    | bk ρ' => exact hf
    | ct ρ' => exact hf
    | rs _ _ _ _ => exact hf
    | rt d => exact hf) (fun _ _ h => h) _ ((M.wp_bind _).mp w))
theorem GE.runA {α : Type} {Y : Addr → Bool} {B : Bases} {σ : L2.St} {H : Hp} {ρ : Env} {L : List (Nat × Addr)} {f : D → M α} {R : α → Prop} {Q : VK} (h : GE W E te m) (s : SR W Y B σ H ρ L) (w : ((m ρ).bind f).wp R (ErrB W E B))
    (k : ∀ d v H1, SR W Y B σ H1 ρ L → Dm W (YL Y L) H1 v d → (f d).wp R (ErrB W E B) → Q v H1) : te σ H Q :=
  h.seq s.okL s.envA w (fun _ _ h => h.at' s) fun d v H1 e1 o1 r1 hv w1 => k d v H1 (s.up e1) hv w1
theorem GE.runB {α : Type} {Y : Addr → Bool} {B : Bases} {σ : L2.St} {H : Hp} {ρ : Env} {L : List (Nat × Addr)} {f : D → M α} {R : α → Prop} {Q : VK} (h : GE W E te m) (s : SR W Y B σ H ρ L) (w : ((m (vB ρ)).bind f).wp R (ErrB W E B))
    (k : ∀ d v H1, SR W Y B σ H1 ρ L → Dm W Y H1 v d → (f d).wp R (ErrB W E B) → Q v H1) : te σ H Q :=
  h.seq s.ok s.envB w (fun _ _ h => h.at' s) fun d v H1 e1 o1 r1 hv w1 => k d v H1 (s.up e1) hv w1
theorem ok1_see {Y : Addr → Bool} {B : Bases} {σ : L2.St} {H : Hp} {ρ : Env} {L : List (Nat × Addr)} (s : SR W Y B σ H ρ L) {v : V} {d : D} (h : Dm W Y H v d) (k : ok1 d = true) : Dm W (YL Y L) H v d := by
  have k' : d.fix = true ∧ d.pl = true := by simpa [ok1] using k
  exact Dn.see s.okL d v k'.1 k'.2 h.un
theorem gs_expr (h : GE W E te m) : GS W E (tDrop te) (sExpr m) := fun Y B σ H ρ Dn ⟨L, s⟩ w => h.runB s w fun d v H1 s1 hv w1 => w1 σ H1 ⟨L, s1⟩
theorem gs_asg {i : Nat} (h : GE W E te m) : GS W E (tAsg te (gName i)) (sAsg i m) := fun Y B σ H ρ Dn ⟨L, s⟩ w => h.runA s w fun d v H1 s1 hv w1 => w1 _ H1 ⟨L, s1.set i hv⟩
theorem gs_asgB {i : Nat} (h : GE W E te m) : GS W E (tAsg te (gName i)) (sAsgB i m) := fun Y B σ H ρ Dn ⟨L, s⟩ w => h.runB s w fun d v H1 s1 hv w1 => by
  split at w1
  · rename_i k; exact w1 _ H1 ⟨L, s1.set i (ok1_see s1 hv k)⟩
  · exact w1.elim
theorem gs_pat {g : TG} {p : Pat} {is : List Nat} (h : GE W E te m) (hp : GP K g p is) : GS W E (tAsg te g) (sPat p m) := fun Y B σ H ρ Dn ⟨L, s⟩ w => h.runA s w fun d v H1 s1 hv w1 => by
  cases e : p d ρ with
  | none => rw [e] at w1; exact w1.elim
  | some ρ' =>
    rw [e] at w1
    exact hp _ H1 v d σ ρ ρ' _ (mask_le (W := W) (Y := YL Y L)) hv e fun σ' hs => w1 σ' H1 ⟨L, s1.sets hs⟩
theorem gs_own {i : Nat} (h : GN W E te mn) : GS W E (tAsg te (gName i)) (sOwn i mn) := fun Y B σ H ρ Dn ⟨L, s⟩ w =>
  h _ σ H ρ _ s.okL s.envA (M.wp_mono (fun ds (hd : FlP W Y B Dn (.nx (ρ.set i (.own ds)))) (p : Addr) (xs : List V) H' e hp hx hds => hd _ H' ⟨_, s.own i (p := p) e hp hx hds⟩) (fun _ _ h => h.at' s) _ ((M.wp_bind _).mp w))
theorem gs_ret (h : GE W E te m) : GS W E (tRet te) (sRet m) := fun Y B σ H ρ Dn ⟨L, s⟩ w => h.runB s w fun d v H1 s1 hv w1 => w1 v H1 s1.bok hv
theorem gs_if (hc : GT W E tt c) (h1 : GS W E ts a) (h2 : GS W E tu b) : GS W E (tIfS tt ts tu) (sIf c a b) := fun Y B σ H ρ Dn ⟨L, s⟩ w =>
  hc.seq s.ok s.envB w (fun _ _ h => h.at' s) fun k H1 e1 o1 r1 w1 => by
    cases k with
    | true => exact (if_pos rfl).mpr (h1 Y B σ H1 ρ Dn ⟨L, s.up e1⟩ w1)
    | false => exact (if_neg Bool.false_ne_true).mpr (h2 Y B σ H1 ρ Dn ⟨L, s.up e1⟩ w1)
theorem SR.base {Y : Addr → Bool} {B : Bases} {σ : L2.St} {H : Hp} {ρ : Env} {L : List (Nat × Addr)} (s : SR W Y B σ H ρ L) : SR W Y ⟨(H, YL Y L) :: B.l, B.s⟩ σ H ρ L :=
  { s with
    bs := fun k hk => by
      rcases List.mem_cons.mp hk with rfl | hk
      · exact ⟨s.okL.2.1, fun _ _ e _ => e⟩
      · exact s.bs k hk
    fre := fun p hp => by
      obtain ⟨h1, h2⟩ := s.fre p hp
      refine ⟨fun k hk => ?_, h2⟩
      rcases List.mem_cons.mp hk with rfl | hk
      · exact .inr (YL_l hp)
      · exact h1 k hk }
theorem SR.unbase {Y : Addr → Bool} {B : Bases} {σ : L2.St} {H : Hp} {ρ : Env} {L : List (Nat × Addr)} {b : Hp × (Addr → Bool)} (s : SR W Y ⟨b :: B.l, B.s⟩ σ H ρ L) : SR W Y B σ H ρ L :=
  { s with bs := fun k hk => s.bs k (List.mem_cons_of_mem _ hk), fre := fun p hp => ⟨fun k hk => (s.fre p hp).1 k (List.mem_cons_of_mem _ hk), (s.fre p hp).2⟩ }
theorem Bok.tail {B : Bases} {b : Hp × (Addr → Bool)} {H : Hp} (h : Bok W ⟨b :: B.l, B.s⟩ H) : Bok W B H := ⟨h.1, fun k hk => h.2 k (List.mem_cons_of_mem _ hk)⟩
theorem for_run {Y : Addr → Bool} {B : Bases} {σ : L2.St} {H : Hp} {ρ : Env} {L : List (Nat × Addr)} {Dn : Ends} {g : TG} {p : Pat} {is : List Nat} {ds : List D} (hp : GP K g p is) (hb : GS W E ts b) (s : SR W Y B σ H ρ L) (w : (forGo p b ds ρ).wp (FlP W Y B Dn) (ErrB W E B))
    {J : It} {G : Hp → Prop} {Yw : Nat → Hp → V → Hp → Prop} {H2 : Hp} (e2 : Ext W H H2) (wk : Walk J ds.length G Yw) (hG : ∀ H', St (YL Y L) H2 H' → G H')
    (hY : ∀ i Ha x Hb Y', i < ds.length → St (YL Y L) H2 Ha → Ok W Y' Ha → (∀ a, Y' a = true → YL Y L a = true ∨ H2 a = none) → Yw i Ha x Hb → Same Ha Hb ∧ ∃ d, ds[i]? = some d ∧ Dm W Y' Hb x d) :
    ∃ Wm : Nat → Nat → L2.St → Hp → Prop, (∃ m, Wm 0 m σ H2) ∧ ∀ i m σ H, Wm i m σ H →
      (J.stop i H ∧ Dn.nx σ H) ∨ (J.go i H ∧ ∃ N : L2.St → Hp → Prop, (∀ σ' H', N σ' H' → ∃ m', m' < m ∧ Wm (i + 1) m' σ' H') ∧ ∀ x H', J.yld i H x H' → g x σ H' fun σ2 H2 => ts { Dn with nx := N, ct := N, bk := Dn.nx } σ2 H2) := by
  have s2 := (s.up e2).base
  let B2 : Bases := ⟨(H2, YL Y L) :: B.l, B.s⟩
  let Pv : Nat → L2.St → Hp → Prop := fun i σ' H' => ∃ ρ', SRx W Y B2 σ' H' ρ' ∧ (forGo p b (ds.drop i) ρ').wp (FlP W Y B Dn) (ErrB W E B)
  refine for_it wk Pv ⟨ρ, ⟨L, s2⟩, by simpa using w⟩ (fun i σ' H' _ ⟨ρ', ⟨L', s'⟩, _⟩ => hG H' (s'.bs _ List.mem_cons_self).2) (fun i x σ' Ha Hb hlt ⟨ρ', ⟨L', s'⟩, w'⟩ y => ?_) (fun σ' H' ⟨ρ', ⟨L', s'⟩, w'⟩ => ?_)
  · have st := (s'.bs _ List.mem_cons_self).2
    obtain ⟨eb, d, hd, hx⟩ := hY i Ha x Hb (YL Y L') hlt st s'.okL (fun a ha => by
      rcases YL_or ha with h | ⟨q, hq, rfl⟩
      · exact .inl (YL_y h)
      · rcases (s'.fre q hq).1 _ List.mem_cons_self with h | h
        · exact .inr h
        · exact .inl h) y
    have sb := s'.up (.of s'.ok.1 eb)
    have hdr : ds.drop i = d :: ds.drop (i + 1) := by
      obtain ⟨hl, hg⟩ := List.getElem?_eq_some_iff.mp hd
      rw [List.drop_eq_getElem_cons hl, hg]
    rw [hdr] at w'
    unfold forGo at w'
    cases hpd : p d ρ' with
    | none => rw [hpd] at w'; exact w'.elim
    | some ρ1 =>
      rw [hpd] at w'
      refine hp _ Hb x d σ' ρ' ρ1 _ (mask_le (W := W) (Y := YL Y L') (H := Hb)) hx hpd fun σ1 hs => ?_
      refine hb Y B2 σ1 Hb ρ1 _ ⟨L', sb.sets hs⟩ (M.wp_mono (fun f hf => ?_) (fun c q h cls o H' k he => h cls o H' k.tail he) _ ((M.wp_bind _).mp w'))
      cases f with
      | nx ρ2 => exact fun σ2 H3 s3 => ⟨ρ2, s3, hf⟩
      | ct ρ2 => exact fun σ2 H3 s3 => ⟨ρ2, s3, hf⟩
      | bk ρ2 => exact fun σ2 H3 ⟨L3, s3⟩ => hf σ2 H3 ⟨L3, s3.unbase⟩
      | rt d => exact fun v H3 k hv => hf v H3 k.tail hv
      | rs _ _ _ _ => exact fun v H3 x dx fs h1 k h2 hn h3 hv => hf v H3 x dx fs h1 k.tail h2 hn h3 hv
  · rw [List.drop_length] at w'
    exact w' σ' H' ⟨L', s'.unbase⟩
theorem gs_for {wi : TI} {g : TG} {p : Pat} {is : List Nat} {mi : Env → M (List D)} (hi : GI W E wi mi) (hp : GP K g p is) (hb : GS W E ts b) : GS W E (tFor wi g ts) (sFor mi p b) := fun Y B σ H ρ Dn ⟨L, s⟩ w =>
  hi.seq s.okL s.envA w (fun _ _ h => h.at' s) fun ds w1 J G Yw H2 e2 wk hG hY => for_run hp hb s w1 e2 wk hG hY
def GR (W : Wd K) (E : XK) (wi : TI) (mi : Env → M (List D)) : Prop := ∀ Y σ H ρ R, Ok W Y H → EnvR W (mask W Y H) σ ρ → (mi ρ).wp (fun ds => ∀ lo n H2, Ext W H H2 → ds = (List.range n).map (fun i => D.int (lo + (i : Nat))) → R (Itr lo n) H2) (ErrP W E H) → wi σ H R
theorem gs_while {n : Nat} (hc : GT W E tt c) (hb : GS W E ts b) : GS W E (tWhile tt ts) (whGo c b n) := fun Y B σ H ρ Dn s w => by
  refine ⟨fun k σ' H' => ∃ ρ', SRx W Y B σ' H' ρ' ∧ (whGo c b k ρ').wp (FlP W Y B Dn) (ErrB W E B), ⟨n, ρ, s, w⟩, ?_⟩
  rintro k σ' H' ⟨ρ', ⟨L, s⟩, w⟩
  cases k with
  | zero => exact w.elim
  | succ k =>
    unfold whGo at w
    refine hc.seq s.ok s.envB w (fun _ _ h => h.at' s) fun t H1 e1 o1 r1 w1 => ?_
    cases t with
    | false => exact (if_neg Bool.false_ne_true).mpr (w1 σ' H1 ⟨L, s.up e1⟩)
    | true =>
      refine (if_pos rfl).mpr ⟨fun σ2 H2 => ∃ ρ2, SRx W Y B σ2 H2 ρ2 ∧ (whGo c b k ρ2).wp (FlP W Y B Dn) (ErrB W E B), fun σ2 H2 h => ⟨k, by omega, h⟩, hb Y B σ' H1 ρ' _ ⟨L, s.up e1⟩ (M.wp_mono (fun f hf => ?_) (fun _ _ h => h) _ ((M.wp_bind _).mp w1))⟩
      cases f with
      | nx ρ2 => exact fun σ2 H3 s3 => ⟨ρ2, s3, hf⟩
      | ct ρ2 => exact fun σ2 H3 s3 => ⟨ρ2, s3, hf⟩
      | bk ρ2 => exact hf
      | rt d => exact hf
      | rs _ _ _ _ => exact hf
theorem SR.ownAt {Y : Addr → Bool} {B : Bases} {σ : L2.St} {H : Hp} {ρ : Env} {L : List (Nat × Addr)} (s : SR W Y B σ H ρ L) {i : Nat} {ds : List D} (h : ρ[i]? = some (.own ds)) : ∃ l xs, σ[i]? = some (some (.ref l)) ∧ (i, l) ∈ L ∧ H l = some (.lst xs) ∧ Dms W (YL Y L) H xs ds := s.sl i _ h
theorem gs_app {i : Nat} (h : GE W E te m) : GS W E (tDrop (tBM K "list" rAppend (tVar i) (tCons te tNil))) (sApp i m) := fun Y B σ H ρ Dn ⟨L, s⟩ w => by
  unfold sApp at w
  split at w
  case h_2 => exact w.elim
  rename_i ds hi
  obtain ⟨l, xs, h1, h2, h3, h4⟩ := s.ownAt hi
  refine ⟨.ref l, h1, .inl ⟨rfl, xs, SqL.of h3⟩, h.runA s w fun d v H1 s1 hv w1 => ?_⟩
  obtain ⟨l', xs', g1, g2, g3, g4⟩ := s1.ownAt hi
  rw [h1] at g1
  cases g1
  split at w1
  · rename_i hz
    have hl := g4.length
    exact ⟨l, xs', v, rfl, rfl, g3, by rw [sizeLine_eq]; omega, w1 σ _ ⟨L, s1.put hi h1 g2 g3 (g4.app (.cons hv .nil))⟩⟩
  · exact w1.elim
theorem gs_ext {i : Nat} (h : GE W E te m) : GS W E (tDrop (tBM K "list" rExtend (tVar i) (tCons te tNil))) (sExt i m) := fun Y B σ H ρ Dn ⟨L, s⟩ w => by
  unfold sExt at w
  split at w
  case h_2 => exact w.elim
  rename_i ds hi
  obtain ⟨l, xs, h1, h2, h3, h4⟩ := s.ownAt hi
  refine ⟨.ref l, h1, .inl ⟨rfl, xs, SqL.of h3⟩, h.runA s w fun d v H1 s1 hv w1 => ?_⟩
  obtain ⟨l', xs', g1, g2, g3, g4⟩ := s1.ownAt hi
  rw [h1] at g1
  cases g1
  cases hv with
  | @lst b zs es hb hz =>
    dsimp only at w1
    split at w1
    · have hl := g4.length
      have hl2 := hz.length
      exact ⟨l, b, xs', zs, rfl, rfl, g3, mask_le _ _ hb, by rw [sizeLine_eq]; omega, w1 σ _ ⟨L, s1.put hi h1 g2 g3 (g4.app hz)⟩⟩
    · exact w1.elim
  | _ => exact w1.elim
def fin : Fl → M D
  | .nx _ => .ret .non
  | .rt d => .ret d
  | _ => .bad
def defM (n np : Nat) (b : Env → M Fl) : List D → M D := fun ds => if ds.length = np then (b (ds.map .dat ++ List.replicate (n - np) .no)).bind fin else .bad
theorem start_sr {Y : Addr → Bool} {H : Hp} {vs : List V} {ds : List D} {N : List Str} (o : Ok W Y H) (h : Dms W Y H vs ds) (hn : ds.length ≤ N.length) : SR W Y ⟨[(H, W.X)], none⟩ (L2.start N vs) H (ds.map .dat ++ List.replicate (N.length - ds.length) .no) [] where
  ok := o
  bs := fun k hk => by
    rw [List.mem_singleton.mp hk]
    exact ⟨fun _ h => h, fun _ _ e _ => e⟩
  len := by
    have := h.length
    simp [L2.start, this]
  fre := fun p hp => nomatch hp
  nd := .nil
  sl := fun i t ht => by
    have hl := h.length
    by_cases hi : i < ds.length
    · rw [List.getElem?_append_left (by simpa using hi), List.getElem?_map, List.getElem?_eq_getElem hi] at ht
      cases ht
      obtain ⟨v, hv, hd⟩ := h.getD (List.getElem?_eq_getElem hi)
      refine ⟨v, ?_, Dm.less hd fun a ha => ?_⟩
      · have hiv : i < vs.length := by omega
        unfold L2.start
        rw [List.getElem?_append_left (by simpa using hiv), List.getElem?_map, hv]
        rfl
      · rcases YL_or ha with h | ⟨p, hp, _⟩
        · exact h
        · cases hp
    · rw [List.getElem?_append_right (by simpa using Nat.le_of_not_lt hi)] at ht
      have := List.mem_of_getElem? ht
      rw [(List.mem_replicate.mp this).2]
      trivial
theorem def_run {N ps : List Str} {Y : Addr → Bool} {H : Hp} {vs : List V} {ds : List D} {Q : VK} {Er : Str → List D → Prop} (h : GS W E ts a) (hN : ps.length ≤ N.length) (o : Ok W Y H) (hd : Dms W Y H vs ds) (w : (defM N.length ps.length a ds).wp (RetP W Y H Q) Er) (hE : ∀ c p, Er c p → ErrP W E H c p) : ts { nx := fun _ H' => Q .non H', rt := Q } (L2.start N vs) H := by
  unfold defM at w
  split at w
  · rename_i hl
    rw [← hl] at w
    refine h Y ⟨[(H, W.X)], none⟩ (L2.start N vs) H _ _ ⟨[], start_sr o hd (by omega)⟩ (M.wp_mono (fun f hf => ?_) (fun c p hc cls ob H' k he => hE c p hc cls ob H' ⟨k.2 (H, W.X) List.mem_cons_self, k.1⟩ he) _ ((M.wp_bind _).mp w))
    have ext : ∀ {H'}, Bok W ⟨[(H, W.X)], none⟩ H' → Ext W H H' := fun k => ⟨k.2 (H, W.X) List.mem_cons_self, k.1⟩
    cases f with
    | nx ρ' => exact fun σ' H' ⟨L, s⟩ => hf .non H' (ext s.bok) .non
    | rt d => exact fun v H' k hv => hf v H' (ext k) hv
    | bk _ => exact hf.elim
    | rs _ _ _ _ => exact hf.elim
    | ct _ => exact hf.elim
  · exact w.elim
theorem defM_len {n np : Nat} {ds : List D} {R : D → Prop} {Er} (w : (defM n np a ds).wp R Er) : ds.length = np := by
  unfold defM at w
  split at w
  · assumption
  · exact w.elim
end
section
variable {P : Program} {w : World} {K : Fg} {mg : Str → Option Value} {base : Heap} {W : Wd K}
theorem ok_defC {x qual : Str} {st : Stmt} {f : Addr} {fd : FuncData} {N ps : List Str} {k : Nat} {a : Env → M Fl} (F : Fun K x qual st f fd) (S : FnScope N ps (defScope st)) (hN : ps.length ≤ N.length)
    (hb : ∀ (cdv : Value) (A : Around) (outer : List PySem.Env) (s : Shared) (H : Hp) (E : XK), Room k (A.deeper (PyProof.Rows.envOfC qual (defScope st) s.heap.objs.size f cdv)) → ∃ t, PSs (cxOf CX0 P w K mg base N qual (defScope st) f cdv A outer s H E).nox (defBody st) t ∧ GS W Cc.E0 t a) :
    FnOk P w K mg base CX0 (k + 1) f fd ps (spC W (defM N.length ps.length a)) := by
  refine F.ok S (fun vs H Q E h => ?_) (fun cdv A outer s H vs Q E hr h => ?_)
  · obtain ⟨Y, ds, o, hd, w⟩ := h
    rw [hd.length]
    exact defM_len w
  · obtain ⟨Y, ds, o, hd, w⟩ := h
    obtain ⟨t, h1, h2⟩ := hb cdv A outer s H E hr
    exact ⟨t, h1, def_run h2 hN o hd w fun _ _ h => h.elim⟩
theorem ok_defM {x qual : Str} {st : Stmt} {f : Addr} {fd : FuncData} {N ps : List Str} {k : Nat} {a : Env → M Fl} (F : Fun K x qual st f fd) (S : FnScope N ps (defScope st)) (hN : ps.length ≤ N.length)
    (hb : ∀ (cdv : Value) (A : Around) (outer : List PySem.Env) (s : Shared) (H : Hp) (E : XK), Room k (A.deeper (PyProof.Rows.envOfC qual (defScope st) s.heap.objs.size f cdv)) → ∃ t, PSs (cxOf (L2.CX P w) P w K mg base N qual (defScope st) f cdv A outer s H E) (defBody st) t ∧ GS W E t a) :
    FnOk P w K mg base (L2.CX P w) (k + 1) f fd ps (spM W (defM N.length ps.length a)) := by
  refine F.okX S (fun vs H Q E h => ?_) (fun cdv A outer s H vs Q E hr h => ?_)
  · obtain ⟨Y, ds, o, hd, w⟩ := h
    rw [hd.length]
    exact defM_len w
  · obtain ⟨Y, ds, o, hd, w⟩ := h
    obtain ⟨t, h1, h2⟩ := hb cdv A outer s H E hr
    exact ⟨t, h1, def_run h2 hN o hd w fun _ _ h => h⟩
end
end Mi

namespace Cc
open PySem PySem.Spec L2 PyProof.Rows
section
variable {X : Cx}
def rSlP : V → Option Int → Option Int → Hp → VK → Prop := fun x lo hi H Q => ∃ a xs, x = .ref a ∧ PlT H a xs ∧
  (HT.sIx xs.length 0 lo = 0 ∧ HT.sIx xs.length xs.length hi = xs.length → Q (.ref a) H) ∧ (¬ (HT.sIx xs.length 0 lo = 0 ∧ HT.sIx xs.length xs.length hi = xs.length) → ∀ p o, H p = none → PlO o → Q (.ref p) (upd H p (.frz o (.tup (cutV xs lo hi)))))
theorem sl_tupP : SlR X rSlP := by
  intro pins s σ H x v vl vu lo hi sl Q I rx hs pl pu h
  obtain ⟨a, xs, rfl, hx, q1, q2⟩ := h
  cases rx
  obtain ⟨its, r, ht, hz⟩ := I.tuple (hx.sq (K := X.K))
  have hlen : its.toArray.size = xs.length := by rw [List.size_toArray]; exact r.length.symm
  refine ⟨"tuple", _, PyProof.Rows.slot_tuple_getitem.lookup, ht.typeIs, ?_⟩
  by_cases hw : HT.sIx xs.length 0 lo = 0 ∧ HT.sIx xs.length xs.length hi = xs.length
  · exact getItem_tuple_whole ht hs pl pu (by rw [hlen]; exact hw) ⟨.ref a, H, I, rfl, q1 hw⟩
  · refine HT.getItem_tuple_cut ht hs pl pu (by rw [hlen]; exact hw) ?_ (by rw [hlen]; exact hz)
    rw [hlen]
    refine ⟨.ref s.heap.objs.size, _, I.laid (t' := s.toks) (o := .frz { cls := .type "tuple", data := .seq ((its.drop (HT.sIx xs.length 0 lo)).take (HT.sIx xs.length xs.length hi - HT.sIx xs.length 0 lo)).toArray } (.tup (cutV xs lo hi))) (fun b ob q => Heap.get?_push_of_some _ q) (Nat.le_refl _) ⟨?_, ?_⟩, rfl, q2 hw _ _ (I.hok.fresh (Nat.le_refl _)) ⟨rfl, rfl⟩⟩
    · exact Heap.get?_push_size _ rfl
    · exact ⟨Nat.le_trans (cutV_length xs lo hi) hz, _, (r.drop (HT.sIx xs.length 0 lo)).take (HT.sIx xs.length xs.length hi - HT.sIx xs.length 0 lo), IsTup.new _ _⟩
def rTupP (K : Fg) : List V → Hp → VK → Prop := fun xs H Q => ∃ p ys, xs = [.ref p] ∧ ((SqL K H p ys ∧ ∀ l o, H l = none → PlO o → Q (.ref l) (upd H l (.frz o (.tup ys)))) ∨ (PlT H p ys ∧ Q (.ref p) H))
theorem call_tupP : CallR X (.type "tuple") (rTupP X.K) := by
  intro pins s σ H xs us Q I r h
  obtain ⟨p, ys, rfl, h⟩ := h
  obtain ⟨u, rfl, rx⟩ := vals1 r
  cases rx
  rcases h with ⟨hq, q⟩ | ⟨hq, q⟩
  · obtain ⟨its, r', pl, hz⟩ := I.list hq
    have hlen := r'.length
    refine call_tuple_list pl.isList (fun h' kp => ?_) (by simp only [List.size_toArray] <;> omega)
    have I1 : Inv X pins σ H { s with heap := h' } := I.kept (t' := s.toks) kp
    have I2 : Inv X pins σ (upd H h'.objs.size (.frz { cls := .type "tuple", data := .seq its.toArray } (.tup ys))) { s with heap := h'.push { cls := .type "tuple", data := .seq its.toArray } } :=
      I1.laid (t' := s.toks) (fun b o e => Heap.get?_push_of_some _ e) (Nat.le_refl _) ⟨Heap.get?_push_size _ rfl, hz, its, r', IsTup.new _ _⟩
    exact ⟨.ref h'.objs.size, _, I2, rfl, q _ _ (I1.hok.fresh (Nat.le_refl _)) ⟨rfl, rfl⟩⟩
  · obtain ⟨its, r', pl, hz⟩ := I.tuple (hq.sq (K := X.K))
    exact call_tuple_same pl ⟨.ref p, H, I, rfl, q⟩
theorem tupPK (K : Fg) (h : X.K = K := by rfl) : CallR X (.type "tuple") (rTupP K) := h ▸ call_tupP
def tTupRgP (te : L2.St → Hp → (Int → Int → Hp → Prop) → Prop) : TE := fun σ H Q => te σ H fun a b H1 => RgOk a b ∧ ∀ q o, H1 q = none → PlO o → Q (.ref q) (upd H1 q (.frz o (.tup (rgV a b))))
theorem pe_tupRgP {e : Expr} {te : L2.St → Hp → (Int → Int → Hp → Prop) → Prop} {p pos : Pos} (hc : X.calm = true) (hg : Gl X "tuple") (hm : X.mg "tuple" = none) (he : PRg X e te) (na : starEach [e] X.env = (false, eval e X.env) :: starEach [] X.env := by rfl) : PE X (.Call (.Name "tuple" p) [e] [] pos) (tTupRgP te) := by
  refine ⟨fun pins s σ H Q I h => ?_⟩
  refine Call_ (ld_blt I hg hm boot_tuple (PyProof.Rows.callWith_type1 (args_cons (thn (he pins s σ H _ I h) fun x s1 ⟨r, a, b, t, u, v, H1, ex, hr, I1, ok, q⟩ => args_nil ?_) na) na))
  subst ex
  obtain ⟨b1, b2, b3, b4, b5⟩ := ok
  refine call_tuple_range (n := (b - a).toNat) (I1.ok.hd hc) hr (small_one b1 b2 b3 b4) (rangeSize_nat a b) b5 fun h' tk acc hk hi => ?_
  have I2 : Inv X pins σ H1 { s1 with heap := h', toks := tk } := I1.kept hk
  refine ⟨.ref h'.objs.size, upd H1 h'.objs.size (.frz { cls := .type "tuple", data := .seq acc } (.tup (rgV a b))), I2.laid (t' := tk) (fun c o e => Heap.get?_push_of_some _ e) (Nat.le_refl _) ⟨Heap.get?_push_size _ rfl, ?_, acc.toList, vals_rg hi, ?_⟩, rfl, q _ _ (I2.hok.fresh (Nat.le_refl _)) ⟨rfl, rfl⟩⟩
  · rw [rgV_length, sizeLine_eq]; omega
  · rw [Array.toArray_toList]; exact IsTup.new _ _
def rRepP : R2 := fun x y H Q => ∃ l k xs, x = .ref l ∧ y = .int k ∧ PlT H l xs ∧ xs ≠ [] ∧ 1 ≤ k ∧ k ≤ 1000 ∧ xs.length ≤ 1000 ∧ (k = 1 → Q (.ref l) H) ∧ (2 ≤ k → ∀ p o, H p = none → PlO o → Q (.ref p) (upd H p (.frz o (.tup (List.replicate k.toNat xs).flatten))))
theorem op_repP2 {pins : List (Addr × Obj)} {s : Shared} {σ : L2.St} {H : Hp} {u : Value} {Q : VK} {l : Addr} {k : Int} {xs : List V} (I : Inv X pins σ H s) (ry : RelV (.int k) u) (hT : PlT H l xs) (hne : xs ≠ []) (h1 : 2 ≤ k) (h2 : k ≤ 1000) (hz : xs.length ≤ 1000)
    (q : ∀ p o, H p = none → PlO o → Q (.ref p) (upd H p (.frz o (.tup (List.replicate k.toNat xs).flatten)))) : wpAny (model X.prog X.w) X.A (binaryOp .Mult (.ref l) u) (EP X pins σ Q) X.xe s := by
  obtain ⟨t, rfl⟩ := ry
  obtain ⟨its, r, ⟨⟨cls, dd, data, sl⟩, ho, hc, n, hd⟩, hs⟩ := I.tuple (hT.sq (K := X.K))
  simp only at hc hd
  subst hc hd
  have hle : its.length = xs.length := r.length.symm
  have hn : its ≠ [] := fun e => hne (by
    rw [e] at hle
    exact List.eq_nil_of_length_eq_zero hle.symm)
  have hi : its.toArray.isEmpty = false := by
    cases its with
    | nil => exact absurd rfl hn
    | cons a b => rfl
  have hsz0 : its.toArray.size = xs.length := by rw [List.size_toArray, hle]
  have hm : ((its.toArray.size : Nat) : Int) * k ≤ 1000000 := by
    rw [hsz0]
    have a1 : ((xs.length : Nat) : Int) * k ≤ 1000 * k := Int.mul_le_mul_of_nonneg_right (by omega) (by omega)
    omega
  have flen : (List.replicate k.toNat its).flatten.length ≤ sizeLine := by
    rw [PyProof.Rows.lm_len_rep_flat, hle, sizeLine_eq]
    have a1 : k.toNat * xs.length ≤ 1000 * 1000 := Nat.mul_le_mul (by omega) hz
    omega
  have c0 : (decide (k < -(2 ^ 63)) || decide (k ≥ 2 ^ 63)) = false := by
    rw [decide_eq_false (by omega), decide_eq_false (by omega)] <;> rfl
  have c1 : (its.toArray.isEmpty || k == 1) = false := by
    rw [hi, Bool.false_or]
    exact beq_eq_false_iff_ne.mpr (by omega)
  have c2 : (decide (k ≤ 0) || its.toArray.isEmpty) = false := by
    rw [hi, Bool.or_false]
    exact decide_eq_false (by omega)
  have c4 : Builtin.Tuple.tupleTooMany (((its.toArray.size : Nat) : Int) * k) = false := by
    unfold Builtin.Tuple.tupleTooMany
    rw [sizeLine_eq]
    exact decide_eq_false (by omega)
  refine wpAny_binaryOp_repeat_ref (T := "tuple") (U := "int") (by decide) ⟨_, ho, rfl⟩ (fun s' => typeIs_int s' k t) noFill_tuple_mul F.fills_int_mul F.slot_int_rmul repeat_tuple F.slot_int_index.lookup
    (call_meets F.slot_int_rmul (typeIs_int s k t) F.entry_int_rmul (F.args_int_rmul_2 _ _) (int_rmul_tuple k t l its.toArray n dd sl)
      ⟨ho, rfl, ⟨_, ho, rfl⟩, call_meets F.slot_tuple_mul ⟨_, ho, rfl⟩ F.entry_tuple_mul (F.args_tuple_mul_2 _ _) (tuple_mulW l its.toArray n dd sl k t c0 c1 c2 (by omega) c4 (by rw [size_rep, List.size_toArray]; exact flen)) ⟨ho, ?_⟩⟩)
  rw [size_rep]
  refine ⟨.ref s.heap.objs.size, _, I.laid (t' := s.toks) (o := .frz { cls := .type "tuple", data := .seq (List.replicate k.toNat its).flatten.toArray } (.tup (List.replicate k.toNat xs).flatten)) (fun b ob q => Heap.get?_push_of_some _ q) (Nat.le_refl _) ?_, rfl, q _ _ (I.hok.fresh (Nat.le_refl _)) ⟨rfl, rfl⟩⟩
  exact ⟨Heap.get?_push_size _ rfl, by rw [PyProof.Rows.lm_len_rep_flat, sizeLine_eq]; have a1 : k.toNat * xs.length ≤ 1000 * 1000 := Nat.mul_le_mul (by omega) hz; omega, _, r.rep k.toNat, IsTup.new _ _⟩
theorem op_repP : OpR X (binaryOp .Mult) rRepP := by
  intro pins s σ H x y v u Q I rx ry h
  obtain ⟨l, k, xs, rfl, rfl, hT, h3, h4, h5, h6, h7, h8⟩ := h
  cases rx
  by_cases hk : k = 1
  · exact op_repTA pins s σ H (.ref l) (.int k) (.ref l) u Q I rfl ry ⟨l, k, xs, rfl, rfl, hT.sq, h3, h4, h5, h6, h7, fun z => absurd hk (by omega)⟩
  · exact op_repP2 I ry hT h3 (by omega) h5 h6 (h8 (by omega))
end
end Cc

namespace Mi
open PySem L2 Cc RZ
def fI (g : Int → Int → D) : D → D → Option D
  | .int i, .int j => some (g i j)
  | _, _ => none
abbrev fAdd := fI fun i j => .int (i + j)
abbrev fSub := fI fun i j => .int (i - j)
abbrev fLe := fI fun i j => .bl (decide (i ≤ j))
abbrev fGt := fI fun i j => .bl (decide (j < i))
abbrev fGe := fI fun i j => .bl (decide (j ≤ i))
section
variable {K : Fg} {W : Wd K}
theorem fI_some {g : Int → Int → D} {d e z : D} (h : fI g d e = some z) : ∃ i j, d = .int i ∧ e = .int j ∧ z = g i j := by
  unfold fI at h
  split at h
  · cases h; exact ⟨_, _, rfl, rfl, rfl⟩
  · cases h
theorem r2_I {g : Int → Int → Int} : R2M W (rI0 fun i j => .int (g i j)) (fI fun i j => .int (g i j)) := .of fun d e z h => by
  obtain ⟨i, j, rfl, rfl, rfl⟩ := fI_some h
  exact ⟨r_int, rfl, rfl⟩
theorem r2_B {g : Int → Int → Bool} : R2M W (rI0 fun i j => .bl (g i j)) (fI fun i j => .bl (g i j)) := .of fun d e z h => by
  obtain ⟨i, j, rfl, rfl, rfl⟩ := fI_some h
  exact ⟨r_intB, rfl, rfl⟩
theorem r2_add : R2M W (rI0 fun i j => .int (i + j)) fAdd := r2_I
theorem r2_sub : R2M W (rI0 fun i j => .int (i - j)) fSub := r2_I
def fS (g : Str → Str → D) : D → D → Option D
  | .str i, .str j => some (g i j)
  | _, _ => none
abbrev fLtS := fS fun i j => .bl (decide (i.cps.toList < j.cps.toList))
theorem r2_S {g : Str → Str → Bool} : R2M W (fun x y H Q => ∃ i j, x = .str i ∧ y = .str j ∧ Q (.bl (g i j)) H) (fS fun i j => .bl (g i j)) := .of fun d e z h => by
  unfold fS at h
  split at h
  · cases h
    exact ⟨fun x y H Q hx hy q => by cases hx; cases hy; exact ⟨_, _, rfl, rfl, q _ H (Same.refl _) (.bl _)⟩, rfl, rfl⟩
  · cases h
def sg1 (x : Str) : Option Nat := match x.cps.toList with
  | [c] => some c
  | _ => none
theorem sg1_some {x : Str} {c : Nat} (h : sg1 x = some c) : x = ⟨#[c]⟩ := by
  unfold sg1 at h
  split at h
  · rename_i e
    cases h
    cases x
    rename_i a
    have : a = #[c] := by
      apply Array.toList_inj.mp
      exact e
    rw [this]
  · cases h
def fInS (neg : Bool) : D → D → Option D
  | .str x, .str z => match sg1 x with
    | some c => some (.bl (if neg then !decide (c ∈ z.cps.toList) else decide (c ∈ z.cps.toList)))
    | none => none
  | _, _ => none
theorem r2_inS : R2M W (fun x y H Q => ∃ (c : Nat) (z : Str), x = .str ⟨#[c]⟩ ∧ y = .str z ∧ Q (.bl (decide (c ∈ z.cps.toList))) H) (fInS false) := .of fun d e z h => by
  unfold fInS at h
  split at h
  · split at h
    · rename_i c hc
      cases h
      rw [sg1_some hc]
      exact ⟨r_sign, rfl, rfl⟩
    · cases h
  · cases h
def fEq (d e : D) : Option D := if d.pl && e.pl && d.shp && e.shp then some (.bl (d.eqv e)) else none
def fNe (d e : D) : Option D := if d.pl && e.pl && d.shp && e.shp then some (.bl (!d.eqv e)) else none
theorem r2_eq : R2M W (rEqD K) fEq := .of fun d e z h => by
  unfold fEq at h
  split at h
  · rename_i k
    simp only [Bool.and_eq_true] at k
    cases h
    exact ⟨r_eq k.1.1.1 k.1.1.2 k.1.2 k.2, rfl, rfl⟩
  · cases h
theorem r2_ne : R2M W (rNeD K) fNe := .of fun d e z h => by
  unfold fNe at h
  split at h
  · rename_i k
    simp only [Bool.and_eq_true] at k
    cases h
    exact ⟨r_ne k.1.1.1 k.1.1.2 k.1.2 k.2, rfl, rfl⟩
  · cases h
def isN : D → Bool
  | .non => true
  | _ => false
def fIsN : D → D → Option D
  | d, .non => some (.bl (isN d))
  | _, _ => none
theorem r2_isN : R2M W (fun x y H Q => y = .non ∧ Q (.bl (decide (x = .non))) H) fIsN := .of fun d e z h => by
  unfold fIsN at h
  split at h
  · cases h
    refine ⟨fun x y H Q hx hy q => r_isN (K := K) x y H Q hx hy fun v H2 e2 hv => q v H2 e2 ?_, rfl, rfl⟩
    cases d <;> exact hv
  · cases h
def D.sc : D → Bool
  | .non => true
  | .bl _ => true
  | .int _ => true
  | .str _ => true
  | _ => false
def D.toV : D → V
  | .bl b => .bl b
  | .int i => .int i
  | .str x => .str x
  | _ => .non
theorem sc_v {H : Hp} {v : V} {d : D} (h : Dn K H v d) (k : Mi.D.sc d = true) : v = Mi.D.toV d ∧ flatV v = true := by
  cases h <;> first | exact ⟨rfl, rfl⟩ | cases k
theorem sc_vs {H : Hp} : ∀ {vs : List V} {ds : List D}, Dns K H vs ds → ds.all Mi.D.sc = true → vs = ds.map Mi.D.toV ∧ vs.all flatV = true
  | _, _, .nil, _ => ⟨rfl, rfl⟩
  | _, _, .cons h t, k => by
    simp only [List.all_cons, Bool.and_eq_true] at k
    obtain ⟨h1, h2⟩ := sc_v h k.1
    obtain ⟨t1, t2⟩ := sc_vs t k.2
    exact ⟨by rw [List.map_cons, ← h1, ← t1], by rw [List.all_cons, h2, t2]; rfl⟩
def items : D → Option (List D)
  | .lst ds => some ds
  | .tup ds => some ds
  | .ptup ds => some ds
  | _ => none
theorem items_some {H : Hp} {v : V} {d : D} {ds : List D} (h : Dn K H v d) (k : items d = some ds) : ∃ a xs, v = .ref a ∧ Dns K H xs ds ∧ (SqL K H a xs ∨ SqT K H a xs) := by
  cases h with
  | @lst a xs _ hs ha => cases k; exact ⟨a, xs, rfl, ha, .inl (SqL.of hs)⟩
  | @tup a xs _ hs ha => cases k; exact ⟨a, xs, rfl, ha, .inr hs⟩
  | @ptup a xs _ hs ha => cases k; exact ⟨a, xs, rfl, ha, .inr hs.sq⟩
  | _ => cases k
def fIn (neg : Bool) (d e : D) : Option D := match items e with
  | some ds => if Mi.D.sc d && ds.all Mi.D.sc then some (.bl (if neg then !inV (Mi.D.toV d) (ds.map Mi.D.toV) else inV (Mi.D.toV d) (ds.map Mi.D.toV))) else none
  | none => none
theorem r2_in {neg : Bool} : R2M W (rIn K neg) (fIn neg) := .of fun d e z h => by
  unfold fIn at h
  split at h
  · rename_i ds hi
    split at h
    · rename_i k
      simp only [Bool.and_eq_true] at k
      cases h
      refine ⟨fun x y H Q hx hy q => ?_, rfl, rfl⟩
      obtain ⟨a, xs, rfl, hd, hs⟩ := items_some hy hi
      obtain ⟨e1, f1⟩ := sc_v hx k.1
      obtain ⟨e2, f2⟩ := sc_vs hd k.2
      exact ⟨a, xs, rfl, hs, f1, f2, by rw [e1, e2]; exact q _ H (Same.refl _) (.bl _)⟩
    · cases h
  · cases h
def fIx : D → D → Option D
  | .lst ds, .int i => atI ds i
  | .tup ds, .int i => atI ds i
  | .ptup ds, .int i => atI ds i
  | .str w, .int i => if w.length ≤ 100000 then (match atI w.cps.toList i with
    | some c => some (.str ⟨#[c]⟩)
    | none => none) else none
  | _, _ => none
theorem at_dns {H : Hp} {xs : List V} {ds : List D} {i : Int} {z : D} (ha : Dns K H xs ds) (h : atI ds i = some z) : ∃ v, atI xs i = some v ∧ Dn K H v z := by
  have hl := ha.length
  unfold atI at h ⊢
  rw [hl]
  cases hj : ixN ds.length i with
  | none => rw [hj] at h; cases h
  | some j =>
    rw [hj] at h
    exact ha.getD (i := j) h
def fIxL : D → D → Option D
  | .lst ds, .int i => atI ds i
  | _, _ => none
def fIxT : D → D → Option D
  | .tup ds, .int i => atI ds i
  | .ptup ds, .int i => atI ds i
  | _, _ => none
theorem r2_ixL : R2M W (rIxL K) fIxL := fun Y H x y d e z Q o hx hy h q => by
  unfold fIxL at h
  split at h
  · cases hy
    cases hx with
    | @lst a xs _ hs ha =>
      obtain ⟨v, h1, h2⟩ := at_dns ha h
      exact ⟨a, xs, _, v, rfl, rfl, SqL.of (mask_le _ _ hs), h1, q v H (.refl o.1) h2⟩
  · cases h
theorem r2_ixT : R2M W (rIxT K) fIxT := fun Y H x y d e z Q o hx hy h q => by
  unfold fIxT at h
  split at h
  · cases hy
    cases hx with
    | @tup a xs _ hs ha =>
      obtain ⟨v, h1, h2⟩ := at_dns ha h
      exact ⟨a, xs, _, v, rfl, rfl, same_t mask_le hs, h1, q v H (.refl o.1) h2⟩
  · cases hy
    cases hx with
    | @ptup a xs _ hs ha =>
      obtain ⟨v, h1, h2⟩ := at_dns ha h
      exact ⟨a, xs, _, v, rfl, rfl, same_t mask_le hs.sq, h1, q v H (.refl o.1) h2⟩
  · cases h
theorem r2_ix : R2M W (rIx K) fIx := fun Y H x y d e z Q o hx hy h q => by
  unfold fIx at h
  split at h
  · exact .inl (r2_ixL Y H x y _ _ z Q o hx hy h q)
  · exact .inr (.inl (r2_ixT Y H x y _ _ z Q o hx hy h q))
  · exact .inr (.inl (r2_ixT Y H x y _ _ z Q o hx hy h q))
  · cases hy; cases hx
    split at h
    · rename_i hl
      split at h
      · rename_i c hc
        cases h
        exact .inr (.inr ⟨_, _, c, rfl, rfl, by rw [sizeLine_eq]; omega, hc, q _ H (.refl o.1) (.str _)⟩)
      · cases h
    · cases h
  · cases h
def fCatT : D → D → Option D
  | .ptup ds, .ptup es => if ds.length + es.length ≤ 100000 then some (.ptup (ds ++ es)) else none
  | _, _ => none
theorem plT_le {Y : Addr → Bool} {H : Hp} {a : Addr} {xs : List V} (h : PlT (mask W Y H) a xs) : PlT H a xs := by
  obtain ⟨o, h1, h2⟩ := h
  exact ⟨o, h1, mask_le _ _ h2⟩
theorem new_pt {Y : Addr → Bool} {H : Hp} {p : Addr} {ob : Obj} {xs : List V} {ds : List D} (o : Ok W Y H) (hp : H p = none) (ho : PlO ob) (h : Dms W Y H xs ds) : Dm W Y (upd H p (.frz ob (.tup xs))) (.ref p) (.ptup ds) := .ptup ⟨ob, ho, mask_at upd_same (o.fresh hp) fun _ _ _ z => nomatch z⟩ (h.up o (.of o.1 (Same.new hp)))
theorem r2_catT : R2M W rCatP fCatT := fun Y H x y d e z Q o hx hy h q => by
  unfold fCatT at h
  split at h
  · split at h
    · rename_i hl
      cases h
      cases hx with
      | @ptup a xs ds hs ha =>
        cases hy with
        | @ptup b ys es hs2 hb =>
          have l1 := ha.length
          have l2 := hb.length
          refine ⟨a, b, xs, ys, rfl, rfl, plT_le hs, plT_le hs2, by rw [sizeLine_eq]; omega, fun e => ?_, fun _ e => ?_, fun _ _ p ob hp ho => q _ _ (.of o.1 (Same.new hp)) (new_pt o hp ho (ha.app hb))⟩
          · subst e
            cases ha
            exact q _ H (.refl o.1) (.ptup hs2 hb)
          · subst e
            cases hb
            rw [List.append_nil] at q
            exact q _ H (.refl o.1) (.ptup hs ha)
    · cases h
  · cases h
def fRepT : D → D → Option D
  | .ptup ds, .int k => if ds ≠ [] ∧ 1 ≤ k ∧ k ≤ 1000 ∧ ds.length ≤ 1000 then some (.ptup (List.replicate k.toNat ds).flatten) else none
  | _, _ => none
theorem r2_repT : R2M W rRepP fRepT := fun Y H x y d e z Q o hx hy h q => by
  unfold fRepT at h
  split at h
  · split at h
    · rename_i hl
      cases h
      cases hy
      cases hx with
      | @ptup a xs ds hs ha =>
        have l1 := ha.length
        refine ⟨a, _, xs, rfl, rfl, plT_le hs, fun z => ?_, hl.2.1, hl.2.2.1, by omega, fun h => ?_, fun _ p ob hp ho => q _ _ (.of o.1 (Same.new hp)) (new_pt o hp ho (Dns.rep ha _))⟩
        · subst z
          cases ha
          exact hl.1 rfl
        · subst h
          simp only [show (1 : Int).toNat = 1 from rfl, List.replicate_succ, List.replicate_zero, List.flatten_cons, List.flatten_nil, List.append_nil] at q
          exact q _ H (.refl o.1) (.ptup hs ha)
    · cases h
  · cases h
end
end Mi

namespace Mi
open PySem L2 Cc RZ
section
variable {K : Fg} {W : Wd K} {E : XK}
def lenD : D → Option Nat
  | .lst ds => some ds.length
  | .tup ds => some ds.length
  | .ptup ds => some ds.length
  | .str x => some x.length
  | _ => none
def fLen : List D → Option D
  | [d] => match lenD d with
    | some n => if n ≤ 100000 then some (.int (n : Nat)) else none
    | none => none
  | _ => none
theorem rc_len : RCM W (Cc.rLen K) fLen := .of fun ds z h => by
  unfold fLen at h
  split at h
  · rename_i d
    split at h
    · rename_i n hn
      split at h
      · rename_i hz
        cases h
        refine ⟨fun vs H Q hv q => ?_, rfl, rfl⟩
        obtain ⟨v, rfl, hw⟩ := hv.un1
        refine ⟨v, n, rfl, ?_, q _ H (Same.refl _) (.int _)⟩
        cases hw with
        | str x => cases hn; exact ⟨by rw [sizeLine_eq]; omega, rfl⟩
        | lst hs ha => cases hn; exact .inl ⟨_, SqL.of hs, ha.length.symm⟩
        | tup hs ha => cases hn; exact .inr ⟨_, hs, ha.length.symm⟩
        | ptup hs ha => cases hn; exact .inr ⟨_, hs.sq, ha.length.symm⟩
        | _ => cases hn
      · cases h
    · cases h
  · cases h
def intsO : List D → Option (List Int)
  | [] => some []
  | .int i :: ds => match intsO ds with
    | some ns => some (i :: ns)
    | none => none
  | _ => none
theorem intsO_some : ∀ {ds : List D} {ns : List Int}, intsO ds = some ns → ds = ns.map D.int
  | [], ns, h => by cases h; rfl
  | d :: ds, ns, h => by
    unfold intsO at h
    split at h
    · rename_i e; cases e
    · rename_i i ds' e
      cases e
      split at h
      · rename_i ms hm
        cases h
        rw [intsO_some hm]; rfl
      · cases h
    · cases h
theorem intsO_map (ns : List Int) : intsO (ns.map D.int) = some ns := by
  induction ns with
  | nil => rfl
  | cons n ns ih => simp [intsO, ih]
def blsO : List D → Option (List Bool)
  | [] => some []
  | .bl i :: ds => match blsO ds with
    | some ns => some (i :: ns)
    | none => none
  | _ => none
theorem blsO_some : ∀ {ds : List D} {ns : List Bool}, blsO ds = some ns → ds = ns.map D.bl
  | [], ns, h => by cases h; rfl
  | d :: ds, ns, h => by
    unfold blsO at h
    split at h
    · rename_i e; cases e
    · rename_i i ds' e
      cases e
      split at h
      · rename_i ms hm
        cases h
        rw [blsO_some hm]; rfl
      · cases h
    · cases h
def fSum : List D → Option D
  | [.lst ds] => match intsO ds with
    | some ns => some (.int ns.sum)
    | none => none
  | _ => none
theorem rc_sum : RCM W (rSum K) fSum := .of fun ds z h => by
  unfold fSum at h
  split at h
  · split at h
    · rename_i ns hn
      cases h
      rw [intsO_some hn]
      exact ⟨Cc.rc_sum, rfl, rfl⟩
    · cases h
  · cases h
def fAll : List D → Option D
  | [.lst ds] => match blsO ds with
    | some ns => some (.bl (ns.all id))
    | none => none
  | _ => none
theorem rc_all : RCM W (rAll K) fAll := .of fun ds z h => by
  unfold fAll at h
  split at h
  · split at h
    · rename_i ns hn
      cases h
      rw [blsO_some hn]
      exact ⟨Cc.rc_all, rfl, rfl⟩
    · cases h
  · cases h
def fI2 (g : Int → Int → Int) : List D → Option D
  | [.int i, .int j] => some (.int (g i j))
  | _ => none
abbrev fMin2 := fI2 min
theorem rc_min2 : RCM W (fun xs H Q => ∃ i j, xs = [.int i, .int j] ∧ Q (.int (if j < i then j else i)) H) fMin2 := .of fun ds z h => by
  unfold fMin2 fI2 at h
  split at h
  · cases h; exact ⟨Cc.rc_min2, rfl, rfl⟩
  · cases h
def fInt : List D → Option D
  | [.int i] => some (.int i)
  | [.bl b] => some (.int (if b then 1 else 0))
  | _ => none
theorem rc_int : RCM W (fun xs H Q => (∃ i, xs = [.int i] ∧ Q (.int i) H) ∨ ∃ k, xs = [.bl k] ∧ Q (.int (if k then 1 else 0)) H) fInt := .of fun ds z h => by
  unfold fInt at h
  split at h
  · cases h; exact ⟨Cc.rc_int, rfl, rfl⟩
  · cases h; exact ⟨Cc.rc_intB, rfl, rfl⟩
  · cases h
def mIsT (n : String) (a : Env → M D) : Env → M D := fun ρ => (a ρ).bind fun d => if d.noob then .ret (.bl (d.isT n)) else .bad
theorem ge_isT {te : TE} {a : Env → M D} {n : String} (ha : GE W E te a) (hn : n = "int" ∨ n = "bool" ∨ n = "str" ∨ n = "list" ∨ n = "tuple" := by decide) : GE W E (tCB (rIsi K) (tCons te (tCons (tC (.ty n)) tNil))) (mIsT n a) := fun Y σ H ρ Q o e w =>
  ha.seq o e w (fun _ _ h => h) fun d x H1 e1 o1 r1 hx w1 => by
    split at w1
    · rename_i k
      exact ⟨x, .ty n, .type d.ty, .type n, _, rfl, .ty n, tyx_of k (Dm.un hx), kit_ty (kit_isT k n hn), w1 _ H1 e1 (.bl _)⟩
    · exact w1.elim
def fTup : List D → Option D
  | [.lst ds] => some (.ptup ds)
  | [.ptup ds] => some (.ptup ds)
  | _ => none
theorem rc_tup : RCM W (rTupP K) fTup := fun Y H vs ds z Q o hv h q => by
  unfold fTup at h
  split at h
  · cases h
    obtain ⟨v, rfl, hw⟩ := hv.un1
    cases hw with
    | @lst a xs _ hs ha => exact ⟨a, xs, rfl, .inl ⟨SqL.of (mask_le _ _ hs), fun l ob hl ho => q _ _ (.of o.1 (Same.new hl)) (new_pt o hl ho ha)⟩⟩
  · cases h
    obtain ⟨v, rfl, hw⟩ := hv.un1
    cases hw with
    | @ptup a xs _ hs ha => exact ⟨a, xs, rfl, .inr ⟨plT_le hs, q _ H (.refl o.1) (.ptup hs ha)⟩⟩
  · cases h
def mSlT (a : Env → M D) (lo hi : Env → M (Option Int)) : Env → M D := fun ρ => (a ρ).bind fun d => (lo ρ).bind fun l => (hi ρ).bind fun u => match d with
  | .ptup ds => .ret (.ptup (cutD ds l u))
  | _ => .bad
def mSlL (a : Env → M D) (lo hi : Env → M (Option Int)) : Env → M (List D) := fun ρ => (a ρ).bind fun d => (lo ρ).bind fun l => (hi ρ).bind fun u => match d with
  | .lst ds => .ret (cutD ds l u)
  | _ => .bad
theorem GO.seq {α : Type} {to : TO} {m : Env → M (Option Int)} {Y : Addr → Bool} {σ : L2.St} {H : Hp} {ρ : Env} {f : Option Int → M α} {R : α → Prop} {Er : Str → List D → Prop} {Q : Option Int → Hp → Prop} (h : GO W E to m) (o : Ok W Y H) (e : EnvR W (mask W Y H) σ ρ) (w : ((m ρ).bind f).wp R Er) (hE : ∀ c p, Er c p → ErrP W E H c p)
    (k : ∀ b H1, Ext W H H1 → Ok W Y H1 → EnvR W (mask W Y H1) σ ρ → (f b).wp R Er → Q b H1) : to σ H Q :=
  h Y σ H ρ Q o e (M.wp_mono (fun b hd H1 e1 => k b H1 e1 (o.ext e1) (e.up o e1) hd) hE _ ((M.wp_bind _).mp w))
theorem ge_slT {te : TE} {tl th : TO} {a : Env → M D} {lo hi : Env → M (Option Int)} (ha : GE W E te a) (hl : GO W E tl lo) (hh : GO W E th hi) : GE W E (tSl rSlP te tl th) (mSlT a lo hi) := fun Y σ H ρ Q o e w =>
  ha.seq o e w (fun _ _ h => h) fun d x H1 e1 o1 r1 hx w1 => hl.seq (Er := ErrP W E H) o1 r1 w1 (fun _ _ h => h.up e1) fun l H2 e2 o2 r2 w2 => hh.seq (Er := ErrP W E H) o2 r2 w2 (fun _ _ h => h.up (e1.trans e2)) fun u H3 e3 o3 r3 w3 => by
    have e13 := (e1.trans e2).trans e3
    have hx3 := (hx.up o1 e2).up o2 e3
    cases hx3 with
    | @ptup a xs ds hs hd =>
      refine ⟨a, xs, rfl, plT_le hs, fun hw => ?_, fun _ p ob hp ho => w3 _ _ (e13.trans (.of o3.1 (Same.new hp))) (new_pt o3 hp ho (cut_dns hd l u))⟩
      have he : cutD ds l u = ds := by
        unfold cutD
        rw [hd.length] at hw
        rw [hw.1, hw.2, List.drop_zero, Nat.sub_zero, List.take_length]
      have w3' : RetP W Y H Q (.ptup (cutD ds l u)) := w3
      rw [he] at w3'
      exact w3' _ H3 e13 (.ptup hs hd)
    | _ => exact w3.elim
def rgD (lo hi : Int) : List D := (List.range (hi - lo).toNat).map fun k => .int (lo + (k : Nat))
def rgOk (i j : Int) : Bool := decide (-1000000 ≤ i) && decide (i ≤ 1000000) && decide (-1000000 ≤ j) && decide (j ≤ 1000000)
theorem rg_ok {i j : Int} (h : rgOk i j = true) : RgOk i j := by
  simp only [rgOk, Bool.and_eq_true, decide_eq_true_eq] at h
  unfold RgOk
  omega
def rg1 (a : Env → M D) : Env → M (List D) := fun ρ => (a ρ).bind fun d => match d with
  | .int i => if rgOk 0 i then .ret (rgD 0 i) else .bad
  | _ => .bad
def rg2 (a b : Env → M D) : Env → M (List D) := fun ρ => (a ρ).bind fun d => (b ρ).bind fun e => match d, e with
  | .int i, .int j => if rgOk i j then .ret (rgD i j) else .bad
  | _, _ => .bad
def mPt (mi : Env → M (List D)) : Env → M D := fun ρ => (mi ρ).bind fun ds => .ret (.ptup ds)
theorem rgV_dns {H : Hp} (i j : Int) : Dns K H (rgV i j) (rgD i j) := Dns.of (fun k => .int _) _
theorem ge_tupRg2 {ta tb : TE} {a b : Env → M D} (ha : GE W E ta a) (hb : GE W E tb b) : GE W E (tTupRgP (tRg2 ta tb)) (mPt (rg2 a b)) := fun Y σ H ρ Q o e w => by
  unfold mPt rg2 at w
  rw [M.bind_assoc] at w
  refine ha.seq o e w (fun _ _ h => h) fun d x H1 e1 o1 r1 hx w1 => ?_
  rw [M.bind_assoc] at w1
  refine hb.seq (Er := ErrP W E H) o1 r1 w1 (fun _ _ h => h.up e1) fun d2 y H2 e2 o2 r2 hy w2 => ?_
  cases hx with
  | int i =>
    cases hy with
    | int j =>
      dsimp only at w2
      split at w2
      · rename_i k
        exact ⟨i, j, rfl, rfl, rg_ok k, fun p ob hp ho => w2 _ _ ((e1.trans e2).trans (.of o2.1 (Same.new hp))) (new_pt o2 hp ho (rgV_dns i j))⟩
      · exact w2.elim
    | _ => exact w2.elim
  | _ => exact w2.elim
theorem gr_range1 {ta : TA} {a : Env → M D} {te : TE} (ha : GE W E te a) (hta : ta = tCons te tNil := by rfl) : GR W E (iRng1 ta) (rg1 a) := fun Y σ H ρ R o e w => by
  subst hta
  refine ha.seq o e w (fun _ _ h => h) fun d x H1 e1 o1 r1 hx w1 => ?_
  cases hx with
  | int i =>
    dsimp only at w1
    split at w1
    · rename_i k
      simp only [rgOk, Bool.and_eq_true, decide_eq_true_eq] at k
      refine ⟨i, rfl, by omega, by omega, w1 0 i.toNat H1 e1 ?_⟩
      simp [rgD]
    · exact w1.elim
  | _ => exact w1.elim
theorem gi_range1 {te : TE} {a : Env → M D} (ha : GE W E te a) : GI W E (iRng1 (tCons te tNil)) (rg1 a) := fun Y σ H ρ R o e w => by
  refine gr_range1 ha rfl Y σ H ρ R o e (M.wp_mono (fun ds hd lo n H2 e2 he => ?_) (fun _ _ h => h) _ w)
  subst he
  refine hd (Itr lo n) (fun _ => True) (YFn fun i => .int (lo + i)) H2 e2 (by simpa using walk_range (lo := lo) (n := n)) (fun _ _ => trivial) fun i Ha x Hb Y' hi _ _ _ y => ?_
  obtain ⟨e', y⟩ := y
  subst e' y
  have hin : i < n := by simpa using hi
  exact ⟨.refl _, .int (lo + (i : Nat)), by simp [hin], .int _⟩
def iL (a : Env → M D) : Env → M (List D) := fun ρ => (a ρ).bind fun d => match d with
  | .lst ds => .ret ds
  | _ => .bad
def iT (a : Env → M D) : Env → M (List D) := fun ρ => (a ρ).bind fun d => match d with
  | .tup ds => .ret ds
  | .ptup ds => .ret ds
  | _ => .bad
def iS (a : Env → M D) : Env → M (List D) := fun ρ => (a ρ).bind fun d => match d with
  | .str x => .ret (signs x)
  | _ => .bad
theorem sqL_st {Y : Addr → Bool} {H H' : Hp} {a : Addr} {xs : List V} (h : mask W Y H a = some (.lst xs)) (s : St Y H H') : SqL K H' a xs := by
  have hy : Y a = false := by
    cases z : Y a with
    | false => rfl
    | true => unfold mask at h; rw [if_pos z] at h; cases h
  exact SqL.of (s a _ (mask_le _ _ h) hy)
theorem sqT_st {Y : Addr → Bool} {H H' : Hp} {a : Addr} {xs : List V} (h : SqT K (mask W Y H) a xs) (s : St Y H H') : SqT K H' a xs := same_t ((mask_st (W := W) s).trans mask_le) h
theorem gi_list {te : TE} {a : Env → M D} (ha : GE W E te a) : GI W E (iList K te) (iL a) := fun Y σ H ρ R o e w =>
  ha.seq o e w (fun _ _ h => h) fun d x H1 e1 o1 r1 hx w1 => by
    cases hx with
    | @lst a xs ds hs hd =>
      refine ⟨a, rfl, ⟨xs, SqL.of (mask_le _ _ hs)⟩, w1 _ (fun H' => SqL K H' a xs) (YAt xs) H1 e1 (by rw [← hd.length]; exact walk_list) (fun H' s => sqL_st hs s) fun i Ha x Hb Y' hi s oY hf y => ?_⟩
      obtain ⟨e', y⟩ := y
      subst e'
      obtain ⟨d, h1, h2⟩ := hd.get y
      exact ⟨.refl _, d, h1, h2.up (mask_go s hf)⟩
    | _ => exact w1.elim
theorem gi_tup {te : TE} {a : Env → M D} (ha : GE W E te a) : GI W E (iTup K te) (iT a) := fun Y σ H ρ R o e w =>
  ha.seq o e w (fun _ _ h => h) fun d x H1 e1 o1 r1 hx w1 => by
    have go : ∀ {a : Addr} {xs : List V} {ds : List D}, SqT K (mask W Y H1) a xs → Dms W Y H1 xs ds → RetIt W Y H R ds → ∃ a', V.ref a = .ref a' ∧ (∃ xs, SqT K H1 a' xs) ∧ R (Itt K a') H1 := fun {a xs ds} hs hd w1 => by
      refine ⟨a, rfl, ⟨xs, same_t mask_le hs⟩, w1 _ (fun H' => SqT K H' a xs) (YAt xs) H1 e1 (by rw [← hd.length]; exact walk_tup) (fun H' s => sqT_st hs s) fun i Ha x Hb Y' hi s oY hf y => ?_⟩
      obtain ⟨e', y⟩ := y
      subst e'
      obtain ⟨d, h1, h2⟩ := hd.get y
      exact ⟨.refl _, d, h1, Dn.up h2 (mask_go s hf)⟩
    cases hx with
    | tup hs hd => exact go hs hd w1
    | ptup hs hd => exact go hs.sq hd w1
    | _ => exact w1.elim
theorem gi_str {te : TE} {a : Env → M D} (ha : GE W E te a) : GI W E (iStr te) (iS a) := fun Y σ H ρ R o e w =>
  ha.seq o e w (fun _ _ h => h) fun d x H1 e1 o1 r1 hx w1 => by
    cases hx with
    | str z =>
      refine ⟨z, rfl, w1 _ _ _ H1 e1 (by simpa [signs] using walk_str (z := z)) (fun _ _ => trivial) fun i Ha w Hb Y' hi s oY hf y => ?_⟩
      obtain ⟨e', c, hc, hw⟩ := y
      subst e' hw
      refine ⟨.refl _, .str ⟨#[c]⟩, ?_, .str _⟩
      unfold signs
      rw [List.getElem?_map, Array.getElem?_toList, hc]
      rfl
    | _ => exact w1.elim
def enD (ds : List D) : List D := (List.range ds.length).map fun i => D.tup [.int (i : Nat), ds.getD i .non]
def iEnT (a : Env → M D) : Env → M (List D) := fun ρ => (a ρ).bind fun d => match d with
  | .tup ds => .ret (enD ds)
  | .ptup ds => .ret (enD ds)
  | _ => .bad
theorem pair_new {Y' : Addr → Bool} {Ha : Hp} {T : Addr} {x y : V} {d e : D} (oY : Ok W Y' Ha) (hT : Ha T = none) (hx : Dm W Y' Ha x d) (hy : Dm W Y' Ha y e) : Dm W Y' (upd Ha T (.tup [x, y])) (.ref T) (.tup [d, e]) := by
  have ex : Ext W Ha (upd Ha T (.tup [x, y])) := .of oY.1 (Same.new hT)
  exact .tup (.inl (.inl (mask_at upd_same (oY.fresh hT) fun _ _ _ z => nomatch z))) (.cons (hx.up oY ex) (.cons (hy.up oY ex) .nil))
theorem gi_enT {te : TE} {a : Env → M D} (ha : GE W E te a) : GI W E (CcE.iEnumT K (tCons te tNil)) (iEnT a) := fun Y σ H ρ R o e w =>
  ha.seq o e w (fun _ _ h => h) fun d x H1 e1 o1 r1 hx w1 => by
    have go : ∀ {a : Addr} {xs : List V} {ds : List D}, SqT K (mask W Y H1) a xs → Dms W Y H1 xs ds → RetIt W Y H R (enD ds) → ∃ a' ys, [V.ref a] = [.ref a'] ∧ SqT K H1 a' ys ∧ R (CcE.Itet K a') H1 := fun {a xs ds} hs hd w1 => by
      have hl := hd.length
      refine ⟨a, xs, rfl, same_t mask_le hs, w1 _ (fun H => SqT K H a xs) (YPair (fun i => some (.int (i : Nat))) (fun i => xs[i]?)) H1 e1 (by rw [show (enD ds).length = xs.length by simp [enD, hl]]; exact CcE.walk_et) (fun H' s => sqT_st hs s) fun i Ha x Hb Y' hi s oY hf y => ?_⟩
      obtain ⟨Tq, x1, x2, rfl, hT, rfl, g1, g2⟩ := y
      cases g1
      have hi' : i < ds.length := by simpa [enD] using hi
      obtain ⟨d, hd1, hd2⟩ := hd.get g2
      have ed : ds.getD i .non = d := by simp [List.getD, hd1]
      exact ⟨Same.new hT, .tup [.int (i : Nat), d], by simp [enD, hi']; exact (List.getElem?_eq_some_iff.mp hd1).2, pair_new oY hT (.int _) (Dn.up hd2 (mask_go s hf))⟩
    cases hx with
    | tup hs hd => exact go hs hd w1
    | ptup hs hd => exact go hs.sq hd w1
    | _ => exact w1.elim
def zpD (ds es : List D) : List D := (ds.zip es).map fun p => D.tup [p.1, p.2]
def iZp (a b : Env → M D) : Env → M (List D) := fun ρ => (a ρ).bind fun d => (b ρ).bind fun e => match d, e with
  | .lst ds, .lst es => .ret (zpD ds es)
  | .tup ds, .tup es => .ret (zpD ds es)
  | .ptup ds, .ptup es => .ret (zpD ds es)
  | .ptup ds, .tup es => .ret (zpD ds es)
  | .tup ds, .ptup es => .ret (zpD ds es)
  | _, _ => .bad
theorem gi_zip {ta tb : TE} {a b : Env → M D} (ha : GE W E ta a) (hb : GE W E tb b) : GI W E (iZipA K (tCons ta (tCons tb tNil))) (iZp a b) := fun Y σ H ρ R o e w =>
  ha.seq o e w (fun _ _ h => h) fun d x H1 e1 o1 r1 hx w1 => hb.seq (Er := ErrP W E H) o1 r1 w1 (fun _ _ h => h.up e1) fun d2 y H2 e2 o2 r2 hy w2 => by
    have hx2 := hx.up o1 e2
    have e12 := e1.trans e2
    have goT : ∀ {a b : Addr} {xs ys : List V} {ds es : List D}, SqT K (mask W Y H2) a xs → Dms W Y H2 xs ds → SqT K (mask W Y H2) b ys → Dms W Y H2 ys es → RetIt W Y H R (zpD ds es) → R (ItzT K a b) H2 := fun {a b xs ys ds es} hs hd ht he w1 => by
      have hn : (zpD ds es).length = min xs.length ys.length := by simp [zpD, hd.length, he.length]
      refine w1 _ (fun H => SqT K H a xs ∧ SqT K H b ys) (YPair (fun i => xs[i]?) (fun i => ys[i]?)) H2 e12 (walk_zipT hn) (fun H' s => ⟨sqT_st hs s, sqT_st ht s⟩) fun i Ha x Hb Y' hi s oY hf y => ?_
      obtain ⟨Tq, x1, x2, rfl, hT, rfl, g1, g2⟩ := y
      obtain ⟨d, hd1, hd2⟩ := hd.get g1
      obtain ⟨d', he1, he2⟩ := he.get g2
      have hz : (ds.zip es)[i]? = some (d, d') := List.getElem?_zip_eq_some.mpr ⟨hd1, he1⟩
      exact ⟨Same.new hT, .tup [d, d'], by simp only [zpD, List.getElem?_map, hz, Option.map_some], pair_new oY hT (Dn.up hd2 (mask_go s hf)) (Dn.up he2 (mask_go s hf))⟩
    have goL : ∀ {a b : Addr} {xs ys : List V} {ds es : List D}, mask W Y H2 a = some (.lst xs) → Dms W Y H2 xs ds → mask W Y H2 b = some (.lst ys) → Dms W Y H2 ys es → RetIt W Y H R (zpD ds es) → R (Itz K a b) H2 := fun {a b xs ys ds es} hs hd ht he w1 => by
      have hn : (zpD ds es).length = min xs.length ys.length := by simp [zpD, hd.length, he.length]
      refine w1 _ (fun H => SqL K H a xs ∧ SqL K H b ys) (YPair (fun i => xs[i]?) (fun i => ys[i]?)) H2 e12 (walk_zip (K := K) hn) (fun H' s => ⟨sqL_st hs s, sqL_st ht s⟩) fun i Ha x Hb Y' hi s oY hf y => ?_
      obtain ⟨Tq, x1, x2, rfl, hT, rfl, g1, g2⟩ := y
      obtain ⟨d, hd1, hd2⟩ := hd.get g1
      obtain ⟨d', he1, he2⟩ := he.get g2
      have hz : (ds.zip es)[i]? = some (d, d') := List.getElem?_zip_eq_some.mpr ⟨hd1, he1⟩
      exact ⟨Same.new hT, .tup [d, d'], by simp only [zpD, List.getElem?_map, hz, Option.map_some], pair_new oY hT (Dn.up hd2 (mask_go s hf)) (Dn.up he2 (mask_go s hf))⟩
    cases hx2 with
    | @lst a xs _ hs hd =>
      cases hy with
      | @lst b ys _ ht he => exact ⟨a, b, xs, ys, rfl, .inl ⟨SqL.of (mask_le _ _ hs), SqL.of (mask_le _ _ ht), goL hs hd ht he w2⟩⟩
      | _ => exact w2.elim
    | @tup a xs _ hs hd =>
      cases hy with
      | @tup b ys _ ht he => exact ⟨a, b, xs, ys, rfl, .inr ⟨same_t mask_le hs, same_t mask_le ht, goT hs hd ht he w2⟩⟩
      | @ptup b ys _ ht he => exact ⟨a, b, xs, ys, rfl, .inr ⟨same_t mask_le hs, same_t mask_le ht.sq, goT hs hd ht.sq he w2⟩⟩
      | _ => exact w2.elim
    | @ptup a xs _ hs hd =>
      cases hy with
      | @tup b ys _ ht he => exact ⟨a, b, xs, ys, rfl, .inr ⟨same_t mask_le hs.sq, same_t mask_le ht, goT hs.sq hd ht he w2⟩⟩
      | @ptup b ys _ ht he => exact ⟨a, b, xs, ys, rfl, .inr ⟨same_t mask_le hs.sq, same_t mask_le ht.sq, goT hs.sq hd ht.sq he w2⟩⟩
      | _ => exact w2.elim
    | _ => cases hy <;> exact w2.elim
end
end Mi

namespace Mi
open PySem L2 Cc
def fAt : List Str → List D → Str → Option D
  | n :: ns, d :: ds, f => if n = f then some d else fAt ns ds f
  | _, _, _ => none
def mFld (p : List Str → Bool) (f : Str) (a : Env → M D) : Env → M D := fun ρ => (a ρ).bind fun d => match d with
  | .ob _ ns ds => if p ns then M.ofO (fAt ns ds f) else .bad
  | _ => .bad
def mProp (p : List Str → Bool) (F : List D → M D) (a : Env → M D) : Env → M D := fun ρ => (a ρ).bind fun d => match d with
  | .ob C ns ds => if p ns then (F [.ob C ns ds]).calm else .bad
  | _ => .bad
def mMeth (p : List Str → Bool) (m : Str) (F : List D → M D) (a : Env → M D) (t : Env → M (List D)) : Env → M D := fun ρ => (a ρ).bind fun d => match d with
  | .ob C ns ds => if p ns && !ns.contains m then (t ρ).bind fun es => F (.ob C ns ds :: es) else .bad
  | _ => .bad
def asL : D → M D
  | .int k => if 0 ≤ k ∧ k < 1000000000 then .ret (.int k) else .bad
  | _ => .bad
def mLenI (p : List Str → Bool) (F : List D → M D) (a : Env → M D) : Env → M D := fun ρ => (a ρ).bind fun d => match d with
  | .ob C ns ds => if p ns then ((F [.ob C ns ds]).calm).bind asL else .bad
  | _ => .bad
def sFldS (k i : Nat) (p : List Str → Bool) (f : Str) (m : Env → M D) : Env → M Fl := fun ρ => match ρ[i]? with
  | some (.slf k' C ns ds) => (m (vB ρ)).bind fun d => if ok1 d && decide (k' = k) && !ns.contains f && decide (ns.length < 100) && p (ns ++ [f]) then .ret (.nx (ρ.set i (.slf k' C (ns ++ [f]) (ds ++ [d])))) else .bad
  | _ => .bad
def sErr (c : Str) : Env → M Fl := fun _ => .err c []
def shown : D → Bool
  | .str z => decide (z.length ≤ 1000)
  | .int i => decide (i.natAbs.log2 < 1920)
  | _ => false
def sErrF (c : Str) (m : Env → M D) : Env → M Fl := fun ρ => (m (vB ρ)).bind fun d => if shown d then .err c [d] else .bad
section
variable {K : Fg} {W : Wd K} {E : XK} {te tv : TE} {m a b : Env → M D} {ta : TA} {t : Env → M (List D)} {p : List Str → Bool} {F : List D → M D} {C : Addr}
theorem ob_at {Y : Addr → Bool} {H : Hp} {v : V} {C' : Addr} {ns : List Str} {ds : List D} (hp : ∀ ns C', p ns = true → W.ct ns = some C' → C' = C) (k : p ns = true) (h : Dm W Y H v (.ob C' ns ds)) : ∃ x dx fs, v = .ref x ∧ H x = some (.ins C dx fs) ∧ fs.map (·.1) = ns ∧ Dms W Y H (fs.map (·.2)) ds := by
  cases h with
  | @ob x C' dx fs ns ds ho hn hd =>
    have h1 := mask_le _ _ ho
    unfold mask at ho
    split at ho
    · cases ho
    · rw [h1] at ho
      by_cases c : W.ct (fs.map (·.1)) = some C'
      · rw [hn] at c
        have := hp ns C' k c
        subst this
        exact ⟨x, dx, fs, rfl, h1, hn, hd⟩
      · simp only [if_neg c] at ho; cases ho
theorem fAt_lookup {Hm : Hp} {f : Str} {d : D} : ∀ {fs : List (Str × V)} {ds : List D}, Dns K Hm (fs.map (·.2)) ds → fAt (fs.map (·.1)) ds f = some d → ∃ v, fs.lookup f = some v ∧ Dn K Hm v d
  | [], _, _, h => by simp [fAt] at h
  | (g, x) :: fs, ds, hd, h => by
    cases hd with
    | @cons _ _ e es h1 h2 =>
      simp only [List.map_cons, fAt] at h
      by_cases e' : g = f
      · subst e'
        rw [if_pos rfl] at h
        cases h
        exact ⟨x, by simp [List.lookup], h1⟩
      · rw [if_neg e'] at h
        obtain ⟨v, q1, q2⟩ := fAt_lookup h2 h
        have : (f == g) = false := by simpa using fun z => e' z.symm
        exact ⟨v, by simp [List.lookup, this, q1], q2⟩
theorem ge_fld {f : Str} (hp : ∀ ns C', p ns = true → W.ct ns = some C' → C' = C) (c : Cls K C) (n : NoAttr K C f) (ha : GE W E te a) : GE W E (tFld K te f) (mFld p f a) := fun Y σ H ρ Q o e w =>
  ha.seq o e w (fun _ _ h => h) fun d x H1 e1 o1 r1 hx w1 => by
    cases d with
    | ob C' ns ds =>
      dsimp only at w1
      split at w1
      · rename_i k
        obtain ⟨x, dx, fs, rfl, hx1, rfl, hd⟩ := ob_at hp k hx
        obtain ⟨z, hz, q⟩ := M.wp_ofO w1
        obtain ⟨v, h1, h2⟩ := fAt_lookup hd hz
        exact ⟨x, C, dx, fs, v, rfl, hx1, c, n, h1, q v H1 e1 h2⟩
      · exact w1.elim
    | _ => exact w1.elim
theorem ge_prop {E' : XK} (hp : ∀ ns C', p ns = true → W.ct ns = some C' → C' = C) (ha : GE W E te a) : GE W E (tProp C (spC W F) [] E' te) (mProp p F a) := fun Y σ H ρ Q o e w =>
  ha.seq o e w (fun _ _ h => h) fun d x H1 e1 o1 r1 hx w1 => by
    cases d with
    | ob C' ns ds =>
      dsimp only at w1
      split at w1
      · rename_i k
        obtain ⟨x, dx, fs, rfl, hx1, _, _⟩ := ob_at hp k hx
        exact ⟨x, dx, fs, rfl, hx1, Y, _, o1, .cons hx .nil, M.wp_mono (fun d hd => hd.up e1) (fun _ _ h => h) _ (M.wp_calm (E' := fun _ _ => False) _ w1)⟩
      · exact w1.elim
    | _ => exact w1.elim
theorem lookup_no {fs : List (Str × V)} {m : Str} (h : (!(fs.map (·.1)).contains m) = true) : fs.lookup m = none := by
  have h' : m ∉ fs.map (·.1) := by simpa using h
  exact lookup_none rfl h'
def spI (W : Wd K) (C : Addr) (F : List D → M D) : Sp := fun vs H Q E => ∃ (Y : Addr → Bool) (H1 : Hp) (x dx : Addr) (avs : List V) (ds : List D), vs = .ref x :: avs ∧ H1 x = none ∧ H1 dx = none ∧ dx ≠ x ∧ H = upd (upd H1 dx (.own x)) x (.ins C dx []) ∧ Ok W Y H1 ∧ Dms W Y H1 avs ds ∧
  (F ds).wp (fun d => ∀ ns es, d = .ob C ns es → W.ct ns = some C → ∀ H2 dx fs, Ext W H1 H2 → H2 x = some (.ins C dx fs) → fs.map (·.1) = ns → Dms W (also Y x) H2 (fs.map (·.2)) es → Q .non H2) (ErrP W E H1)
theorem ge_make (ht : GA W E ta t) : GE W E (tMake C (spI W C F) [] E ta) (mCall F t) := fun Y σ H ρ Q o e w =>
  ht.seq o e w (fun _ _ h => h) fun ds vs H1 e1 o1 r1 hv w1 x dx hx hdx hne => ⟨Y, H1, x, dx, vs, ds, by rw [List.append_nil], hx, hdx, hne, rfl, o1, hv, wp_up w1 e1 fun d hd ns es h1 h2 H2 dx2 fs e2 h3 h4 h5 => by
    subst h1
    exact ⟨rfl, hd _ H2 (e1.trans e2) (.ob (mask_at h3 (o1.fresh hx) fun C' dx' fs' z => by cases z; rw [h4]; exact h2) h4 (Dms.less h5 also_r))⟩⟩
theorem gs_fld {i k : Nat} {f : Str} (hp : ∀ ns, p ns = true → W.ct ns = some C) (hC : W.cls k = C) (c : Cls K C) (n : NoAttr K C f) (h : GE W E te m) : GS W E (sFld K (tVar i) te f) (sFldS k i p f m) := fun Y B σ H ρ Dn ⟨L, s⟩ w => by
  unfold sFldS at w
  split at w
  case h_2 => exact w.elim
  rename_i k' C' ns ds hi
  refine h.runB s w fun d v H1 s1 hv w1 => ?_
  split at w1
  case isFalse => exact w1.elim
  rename_i kk
  simp only [Bool.and_eq_true, decide_eq_true_eq] at kk
  obtain ⟨⟨⟨⟨k1, k2⟩, k3⟩, k4⟩, k5⟩ := kk
  obtain ⟨x, dx, fs, g1, gS, g2, g3, g4, g5, g6⟩ := s1.sl i _ hi
  subst k2
  have eC : C' = C := g5.1.trans hC
  subst eC
  have hnf : f ∉ fs.map (·.1) := by rw [g4]; simpa using k3
  have hlen : fs.length = ns.length := by rw [← g4]; simp
  refine ⟨.ref x, g1, x, C', dx, fs, rfl, g3, c, n, by omega, w1 σ _ ⟨L, s1.putO g2 g3 rfl rfl ⟨x, dx, putF f v fs, g1, gS, g2, upd_same, ?_, ⟨g5.1, fun _ => hp _ k5⟩, ?_⟩⟩⟩
  · rw [putF_new hnf, List.map_append, g4]; rfl
  · have mo : mask W (YL Y L) (upd H1 x (.ins C' dx (putF f v fs))) = mask W (YL Y L) H1 := mask_off (YL_l g2)
    unfold Dms
    rw [mo, putF_new hnf, List.map_append]
    exact Dns.app g6 (.cons (ok1_see s1 hv k1) .nil)
theorem gs_err {c : Str} {A : Addr} {X : WX} (hc : W.ea c = some A) (hX : ∀ cls d σ H, E cls d H → X cls d σ H) : GS W E (tRaiseT A X) (sErr c) := fun Y B σ H ρ Dn ⟨L, s⟩ w =>
  hX _ _ _ _ (w _ _ H s.bok ⟨A, hc, rfl, .inl ⟨rfl, rfl⟩⟩)
theorem gs_errF {c fld : Str} {A : Addr} {X : WX} (hc : W.ea c = some A) (hf : W.ef c = [fld]) (hX : ∀ cls d σ H, E cls d H → X cls d σ H) (h : GE W E te m) : GS W E (tRaiseF A fld X (tCons te tNil)) (sErrF c m) := fun Y B σ H ρ Dn ⟨L, s⟩ w =>
  h.runB s w fun d v H1 s1 hv w1 => by
    split at w1
    · rename_i k
      refine ⟨v, rfl, ?_, fun dd hdd => hX _ _ _ _ ?_⟩
      · cases hv with
        | str z => exact .inl ⟨z, rfl, by simpa [shown] using k⟩
        | int i => exact .inr ⟨i, rfl, by simpa [shown] using k⟩
        | _ => cases k
      · have eH : Ext W H1 (upd H1 dd (.xd [(fld, v)])) := .of s1.ok.1 (Same.new hdd)
        refine w1 _ _ _ (s1.bokE eH) ⟨A, hc, rfl, .inr ⟨by simp, dd, [v], rfl, by simp [hf], by rw [hf]; exact upd_same, ?_⟩⟩
        cases hv with
        | str z => exact .cons (.str z) .nil
        | int i => exact .cons (.int i) .nil
        | _ => cases k
    · exact w1.elim
end
section
variable {P : Program} {w : World} {K : Fg} {mg : Str → Option Value} {base : Heap} {W : Wd K} {C : Addr}
def finI (k : Nat) (ρ : Env) : M D := match ρ[(0 : Nat)]? with
  | some (.slf k' C ns ds) => if ns.isEmpty || k' != k then .bad else .ret (.ob C ns ds)
  | _ => .bad
def defI (k : Nat) (C : Addr) (n np : Nat) (b : Env → M Fl) : List D → M D := fun ds => if ds.length + 1 = np then (b (.slf k C [] [] :: (ds.map .dat ++ List.replicate (n - np) .no))).bind (fun f => match f with
  | .nx ρ => finI k ρ
  | _ => .bad) else .bad
theorem defI_len {k n np : Nat} {b : Env → M Fl} {ds : List D} {R : D → Prop} {Er} (w : (defI k C n np b ds).wp R Er) : ds.length + 1 = np := by
  unfold defI at w
  split at w
  · assumption
  · exact w.elim
theorem ok_defI {x qual : Str} {st : Stmt} {f : Addr} {fd : FuncData} {N ps : List Str} {lv k : Nat} {a : Env → M Fl} (F : Fun K x qual st f fd) (S : FnScope N ps (defScope st)) (hN : ps.length ≤ N.length) (hC : W.cls k = C)
    (hb : ∀ (cdv : Value) (A : Around) (outer : List PySem.Env) (s : Shared) (H : Hp) (E : XK), Room lv (A.deeper (PyProof.Rows.envOfC qual (defScope st) s.heap.objs.size f cdv)) → ∃ t, PSs (cxOf (L2.CX P w) P w K mg base N qual (defScope st) f cdv A outer s H E) (defBody st) t ∧ GS W E t a) :
    FnOk P w K mg base (L2.CX P w) (lv + 1) f fd ps (spI W C (defI k C N.length ps.length a)) := by
  refine F.okX S (fun vs H Q E h => ?_) (fun cdv A outer s H vs Q E hr h => ?_)
  · obtain ⟨Y, H1, y, dx, avs, ds, rfl, _, _, _, _, _, hd, w⟩ := h
    rw [List.length_cons, hd.length]
    exact defI_len w
  · obtain ⟨Y, H1, y, dx, avs, ds, rfl, hy, hdx, hne, rfl, o1, hd, w⟩ := h
    obtain ⟨t, h1, h2⟩ := hb cdv A outer s _ E hr
    refine ⟨t, h1, ?_⟩
    have hl := defI_len w
    unfold defI at w
    rw [if_pos hl] at w
    have e0 : Same H1 (upd (upd H1 dx (.own y)) y (.ins C dx [])) := (Same.new hdx).trans (Same.new (by rw [upd_ne hne.symm]; exact hy))
    have hx1 : (upd (upd H1 dx (.own y)) y (.ins C dx [])) y = some (.ins C dx []) := upd_same
    generalize upd (upd H1 dx (.own y)) y (.ins C dx []) = H0 at e0 hx1 ⊢
    have ex : Ext W H1 H0 := .of o1.1 e0
    have hlen := hd.length
    have sr : SR W Y ⟨[(H1, W.X)], some y⟩ (L2.start N (.ref y :: avs)) H0 (.slf k C [] [] :: (ds.map .dat ++ List.replicate (N.length - ps.length) .no)) [(0, y)] := {
      ok := o1.ext ex
      bs := fun k hk => by
        rw [List.mem_singleton.mp hk]
        exact ⟨fun _ h => h, fun b o hb _ => e0 b o hb⟩
      len := by
        simp [L2.start, hlen]
        omega
      fre := fun p hp => by
        rw [List.mem_singleton.mp hp]
        refine ⟨fun k hk => ?_, W.new o1.1 hy, o1.fresh hy, _, hx1, rfl⟩
        rw [List.mem_singleton.mp hk]
        exact .inl hy
      nd := by simp
      sl := fun i t' ht => by
        cases i with
        | zero =>
          cases ht
          exact ⟨y, dx, [], by simp [L2.start], fun z hz _ => by cases hz; rfl, by simp, hx1, rfl, ⟨hC.symm, fun z => absurd rfl z⟩, .nil⟩
        | succ i =>
          rw [List.getElem?_cons_succ] at ht
          by_cases hi : i < ds.length
          · rw [List.getElem?_append_left (by simpa using hi), List.getElem?_map, List.getElem?_eq_getElem hi] at ht
            cases ht
            obtain ⟨v, hv, hdv⟩ := hd.getD (List.getElem?_eq_getElem hi)
            refine ⟨v, ?_, Dn.up hdv (mask_go (.of e0) fun a ha => ?_)⟩
            · have hiv : i < avs.length := by omega
              unfold L2.start
              rw [List.getElem?_append_left (by simpa using hiv), List.map_cons, List.getElem?_cons_succ, List.getElem?_map, hv]
              rfl
            · rcases YL_or ha with h | ⟨p, hp, e⟩
              · exact .inl h
              · rw [List.mem_singleton.mp hp] at e
                subst e
                exact .inr hy
          · rw [List.getElem?_append_right (by simpa using Nat.le_of_not_lt hi)] at ht
            have := List.mem_of_getElem? ht
            rw [(List.mem_replicate.mp this).2]
            trivial }
    refine h2 Y _ _ H0 _ _ ⟨_, sr⟩ (M.wp_mono (fun fl hf => ?_) (fun c p hc cls ob H' k he => hc cls ob H' ⟨k.2 (H1, W.X) List.mem_cons_self, k.1⟩ he) _ ((M.wp_bind _).mp w))
    have ext : ∀ {H'}, Bok W ⟨[(H1, W.X)], some y⟩ H' → Ext W H1 H' := fun k => ⟨k.2 (H1, W.X) List.mem_cons_self, k.1⟩
    cases fl with
    | nx ρ' =>
      intro σ' H' ⟨L, s'⟩
      replace hf : (finI k ρ').wp _ _ := hf
      unfold finI at hf
      split at hf
      · rename_i k' C' ns es h0
        split at hf
        · exact hf.elim
        · rename_i hne'
          simp only [Bool.or_eq_true, not_or, bne_iff_ne, ne_eq, Decidable.not_not] at hne'
          obtain ⟨x', dx', fs, g1, gS, g2, g3, g4, g5, g6⟩ := s'.sl 0 _ h0
          have gy := gS y rfl rfl
          subst gy
          have eC : C' = C := by rw [g5.1, hne'.2, hC]
          subst eC
          exact hf ns es rfl (g5.2 fun z => by rw [z] at hne'; exact hne'.1 rfl) H' dx' fs (ext s'.bok) g3 g4 (Dms.less g6 fun a ha => by
          by_cases ea : a = x'
          · subst ea; exact YL_l g2
          · exact YL_y (by simpa [also, ea] using ha))
      · exact hf.elim
    | rt d => exact hf.elim
    | bk _ => exact hf.elim
    | rs _ _ _ _ => exact hf.elim
    | ct _ => exact hf.elim
end
end Mi

namespace Mi
open PySem L2 Cc
def Ind (K : Fg) (S : Addr × List Int) (r : Addr) : Prop := S.1 ≠ r ∨ ∀ H', SqL K H' S.1 (S.2.map V.int)
def Row (K : Fg) (S : Addr × List Int) (H : Hp) (r : Addr) : Prop := ∃ (pos rng rest : Int), H r = some (.lst [.ref S.1, .int pos, .int rng, .int rest]) ∧ SqL K H S.1 (S.2.map V.int) ∧ Ind K S r ∧ S.2.length ≤ 63 ∧ 0 ≤ pos
section
variable {K : Fg} {S : Addr × List Int} {H H' : Hp} {r p : Addr}
theorem ind_new (h : SqL K H S.1 (S.2.map V.int)) (hp : H p = none) : Ind K S p := by
  rcases h with (h | ⟨o, h⟩) | h
  · exact .inl (ne_of_none h hp)
  · exact .inl (ne_of_none h hp)
  · exact .inr fun H' => .inr h
theorem Row.up (h : Row K S H r) (e : Same H H') : Row K S H' r := by
  obtain ⟨pos, rng, rest, h1, h2, h3, h4⟩ := h
  exact ⟨pos, rng, rest, e _ _ h1, same_l e h2, h3, h4⟩
theorem lkeepO {o : HO} (h : SqL K H S.1 (S.2.map V.int)) (hne : Ind K S r) : SqL K (upd H r o) S.1 (S.2.map V.int) := by
  rcases hne with hne | hne
  case inr => exact hne _
  rcases h with (h | ⟨o, h⟩) | h
  · exact .inl (.inl (by rw [upd_ne hne]; exact h))
  · exact .inl (.inr ⟨o, by rw [upd_ne hne]; exact h⟩)
  · exact .inr h
theorem lkeep {ys : List V} (h : SqL K H S.1 (S.2.map V.int)) (hne : Ind K S r) : SqL K (upd H r (.lst ys)) S.1 (S.2.map V.int) := lkeepO h hne
end
def spTaken (K : Fg) : Sp := fun vs H Q _ => ∃ (S : Addr × List Int) (r : Addr) (n : Int), vs = [.ref r, .int n] ∧ Row K S H r ∧ 0 < n ∧ n < 1073741824 ∧ ∀ k H', 0 ≤ k → k < n → But [r] H H' → Row K S H' r → Q (.int k) H'
def rowW (K : Fg) (ct : List Str → Option Addr) (cls : Nat → Addr) (ea : Str → Option Addr) (ef : Str → List Str) (S : Addr × List Int) (r : Addr) : Wd K where
  ct := ct
  cls := cls
  ea := ea
  ef := ef
  r := r
  X := fun a => a == r
  I := fun H => Row K S H r
  Fr := fun a => a ≠ r ∧ Ind K S a
  cell := fun {H a} h x => by
    have e : a = r := by simpa using x
    subst e
    obtain ⟨_, _, _, h1, _⟩ := h
    exact ⟨_, h1, rfl⟩
  up := fun {H H'} h e => h.up e
  new := fun {H a} h e => by
    obtain ⟨_, _, _, h1, h2, _⟩ := h
    exact ⟨(ne_of_none h1 e).symm, ind_new h2 e⟩
  off := fun {H a o u} h f _ _ => by
    obtain ⟨pos, rng, rest, h1, h2, h3, h4⟩ := h
    exact ⟨pos, rng, rest, by rw [upd_ne (Ne.symm f.1)]; exact h1, lkeepO h2 f.2, h3, h4⟩
structure RowOk {K : Fg} (W : Wd K) : Prop where
  ex : ∃ S : Addr × List Int, (∀ H, W.I H → Row K S H W.r) ∧ ∀ H H', W.I H → But [W.r] H H' → Row K S H' W.r → Ext W H H'
def isRow (ρ : Env) (i : Nat) : Bool := match ρ[i]? with
  | some .row => true
  | _ => false
def mDraw (i : Nat) (m : Env → M D) : Env → M D := fun ρ => if isRow ρ i then (m ρ).bind fun d => match d with
  | .int n => .draw n fun k => .ret (.int k)
  | _ => .bad else .bad
section
variable {K : Fg} {W : Wd K} {E E' : XK} {tn : TE} {m : Env → M D} {ta : TA} {t : Env → M (List D)} {F : List D → M D}
theorem isRow_at {ρ : Env} {i : Nat} (h : isRow ρ i = true) : ρ[i]? = some .row := by
  unfold isRow at h
  split at h
  · assumption
  · cases h
theorem ge_draw (R : RowOk W) {i : Nat} (hm : GE W E tn m) : GE W E (tCall (spTaken K) [] E' (tCons (tVar i) (tCons tn tNil))) (mDraw i m) := fun Y σ H ρ Q o e w => by
  unfold mDraw at w
  split at w
  case isFalse => exact w.elim
  rename_i hr
  have h0 := e.2.2.1 i (isRow_at hr)
  refine ⟨_, h0, hm.seq o e w (fun _ _ h => h) fun d x H1 e1 o1 r1 hx w1 => ?_⟩
  cases hx with
  | int n =>
    obtain ⟨⟨n1, n2⟩, hk⟩ := w1
    obtain ⟨S, h1, h2⟩ := R.ex
    exact ⟨S, W.r, n, rfl, h1 _ o1.1, n1, n2, fun k H' k0 k1 b hR => hk k k0 k1 _ H' (e1.trans (h2 _ _ o1.1 b hR)) (.int k)⟩
  | _ => exact w1.elim
def mCallR (i : Nat) (F : List D → M D) (a : Env → M (List D)) : Env → M D := fun ρ => if isRow ρ i then (a ρ).bind fun ds => (F ds).calm else .bad
def defR (n np : Nat) (b : Env → M Fl) : List D → M D := fun ds => if ds.length + 1 = np then (b (.row :: (ds.map .dat ++ List.replicate (n - np) .no))).bind fin else .bad
end
end Mi

namespace Mi
open PySem L2 Cc PySem.W
def mOpN (f : D → D → Option (List D)) (a b : Env → M D) : Env → M (List D) := fun ρ => (a ρ).bind fun x => (b ρ).bind fun y => M.ofO (f x y)
def sAug (i : Nat) (g : Int → Int → Int) (m : Env → M D) : Env → M Fl := fun ρ => match look ρ i with
  | some (.int a) => (m (vB ρ)).bind fun d => match d with
    | .int b => .ret (.nx (ρ.set i (.dat (.int (g a b)))))
    | _ => .bad
  | _ => .bad
def sAugL (i : Nat) (g : Int → Int → Int) (mj m : Env → M D) : Env → M Fl := fun ρ => match ρ[i]? with
  | some (.own ds) => (mj (vB ρ)).bind fun j => match j with
    | .int k => match atI ds k with
      | some (.int a) => (m (vB ρ)).bind fun d => match d, ixN ds.length k with
        | .int b, some n => .ret (.nx (ρ.set i (.own (ds.set n (.int (g a b))))))
        | _, _ => .bad
      | _ => .bad
    | _ => .bad
  | _ => .bad
def sPar3 (i j l : Nat) (m : Env → M (List D)) : Env → M Fl := fun ρ => (m ρ).bind fun ds => match ds with
  | [d, e, f] => .ret (.nx (((ρ.set i (.dat d)).set j (.dat e)).set l (.dat f)))
  | _ => .bad
section
variable {K : Fg} {W : Wd K} {E : XK} {te tl ts : TE} {m a b c : Env → M D}
theorem gs_aug {i : Nat} {g : Int → Int → Int} (h : GE W E te m) : GS W E (tAug i te (ipI g)) (sAug i g m) := fun Y B σ H ρ Dn ⟨L, s⟩ w => by
  unfold sAug at w
  split at w
  case h_2 => exact w.elim
  rename_i a hl
  obtain ⟨v, h1, h2⟩ := s.envA.2.1 i _ hl
  cases h2
  refine ⟨_, h1, h.runB s w fun d v H1 s1 hv w1 => ?_⟩
  cases hv with
  | int b => exact ⟨a, b, rfl, rfl, w1 _ H1 ⟨L, s1.set i (.int _)⟩⟩
  | _ => exact w1.elim
mutual
def can : D → Bool
  | .lst ds => cans ds
  | .ptup ds => cans ds
  | .tup _ => false
  | .ob _ _ _ => false
  | .adr _ => false
  | .dct _ _ _ => false
  | .dks _ _ => false
  | _ => true
def cans : List D → Bool
  | [] => true
  | d :: ds => can d && cans ds
end
mutual
def unpy : PyData → D
  | .none => .non
  | .bool b => .bl b
  | .int i => .int i
  | .str x => .str x
  | .list xs => .lst (unpys xs)
  | .tuple xs => .ptup (unpys xs)
  | .dict _ => .non
def unpys : List PyData → List D
  | [] => []
  | x :: xs => unpy x :: unpys xs
end
mutual
theorem unpy_py : ∀ d : D, can d = true → unpy d.py = d
  | .non, _ => rfl
  | .bl _, _ => rfl
  | .int _, _ => rfl
  | .str _, _ => rfl
  | .lst ds, h => by
    show D.lst (unpys (D.pys ds)) = _
    rw [unpys_pys ds h]
  | .ptup ds, h => by
    show D.ptup (unpys (D.pys ds)) = _
    rw [unpys_pys ds h]
  | .tup _, h => by cases h
  | .ob _ _ _, h => by cases h
  | .adr _, h => by cases h
  | .dct _ _ _, h => by cases h
  | .dks _ _, h => by cases h
theorem unpys_pys : ∀ ds : List D, cans ds = true → unpys (D.pys ds) = ds
  | [], _ => rfl
  | d :: ds, h => by
    have h' : can d = true ∧ cans ds = true := by simpa [cans] using h
    show unpy d.py :: unpys (D.pys ds) = _
    rw [unpy_py d h'.1, unpys_pys ds h'.2]
end
mutual
theorem can_pl : ∀ d : D, can d = true → d.pl = true
  | .non, _ => rfl
  | .bl _, _ => rfl
  | .int _, _ => rfl
  | .str _, _ => rfl
  | .lst ds, h => cans_pl ds h
  | .ptup ds, h => cans_pl ds h
  | .tup _, h => by cases h
  | .ob _ _ _, h => by cases h
  | .adr _, h => by cases h
  | .dct _ _ _, h => by cases h
  | .dks _ _, h => by cases h
theorem cans_pl : ∀ ds : List D, cans ds = true → D.pls ds = true
  | [], _ => rfl
  | d :: ds, h => by
    have h' : can d = true ∧ cans ds = true := by simpa [cans] using h
    simp [D.pls, can_pl d h'.1, cans_pl ds h'.2]
end
theorem cans_mem : ∀ {ds : List D} {i : Nat} {d : D}, cans ds = true → ds[i]? = some d → can d = true
  | [], _, _, _, h => by simp at h
  | e :: ds, 0, d, k, h => by
    have k' : can e = true ∧ cans ds = true := by simpa [cans] using k
    simp at h; subst h; exact k'.1
  | e :: ds, i + 1, d, k, h => by
    have k' : can e = true ∧ cans ds = true := by simpa [cans] using k
    exact cans_mem (i := i) k'.2 (by simpa using h)
def notNone : PyData → Bool
  | .none => false
  | _ => true
def alikeB (xs : List PyData) : Bool := (xs.all fun x => xs.all fun y => alike x y) && xs.all notNone
theorem alikeB_iff {xs : List PyData} (h : alikeB xs = true) : AlikeAll xs := by
  simp only [alikeB, Bool.and_eq_true, List.all_eq_true] at h
  exact ⟨fun x hx y hy => h.1 x hx y hy, fun x hx e => by have := h.2 x hx; rw [e] at this; cases this⟩
def minO : List D → Option D
  | d :: ds => if cans (d :: ds) && alikeB (D.pys (d :: ds)) && decide (PyData.depthAll (D.pys (d :: ds)) ≤ 60) then some (unpy (minD d.py (D.pys ds))) else none
  | [] => none
def fMin : List D → Option D
  | [.lst ds] => minO ds
  | _ => none
theorem min_at {Y : Addr → Bool} {H : Hp} {xs : List V} {d : D} {ds : List D} (hd : Dms W Y H xs (d :: ds)) (k : cans (d :: ds) = true) {i : Nat} {x : V} (hx : xs[i]? = some x) (hm : (D.pys (d :: ds))[i]? = some (minD d.py (D.pys ds))) : Dm W Y H x (unpy (minD d.py (D.pys ds))) := by
  obtain ⟨z, hz, hzx⟩ := hd.get hx
  rw [D.pys_map, List.getElem?_map, hz] at hm
  have e : z.py = minD d.py (D.pys ds) := Option.some.inj hm
  rw [← e, unpy_py z (cans_mem k hz)]
  exact hzx
theorem rc_min : RCM W (rMinL K) fMin := fun Y H vs ds z Q o hv h q => by
  unfold fMin at h
  split at h
  case h_2 => cases h
  rename_i es0
  obtain ⟨v, rfl, hw⟩ := hv.un1
  cases hw with
  | @lst a xs _ hs ha =>
    cases es0 with
    | nil => cases h
    | cons d es =>
      unfold minO at h
      dsimp only at h
      split at h
      case isFalse => cases h
      rename_i k
      simp only [Bool.and_eq_true, decide_eq_true_eq] at k
      cases h
      exact ⟨a, xs, d.py, D.pys es, rfl, SqL.of (mask_le _ _ hs), Dns.dps _ _ (cans_pl _ k.1.1) (Dms.un ha), alikeB_iff k.1.2, k.2, fun i x hx hm => q x H (.refl o.1) (min_at ha k.1.1 hx hm)⟩
end
end Mi

namespace Mi
open PySem L2 Cc PySem.W
section
variable {X : Cx} {x : Str} {C : Addr} {p pos pos2 : Pos} {e : Expr} {te : TE}
end
section
variable {K : Fg} {W : Wd K} {E : XK} {te : TE} {m a : Env → M D}
def idxV (y : V) : List V → Nat → Option Nat
  | [], _ => none
  | x :: xs, k => if eqV x y then some k else idxV y xs (k + 1)
theorem idxV_some {y : V} : ∀ {xs : List V} {k j : Nat}, idxV y xs k = some j → ∃ i z, j = k + i ∧ xs[i]? = some z ∧ eqV z y = true ∧ ∀ m z', m < i → xs[m]? = some z' → eqV z' y = false
  | [], _, _, h => by cases h
  | x :: xs, k, j, h => by
    unfold idxV at h
    split at h
    · rename_i e; cases h; exact ⟨0, x, rfl, rfl, e, fun m z' hm => absurd hm (by omega)⟩
    · rename_i e
      obtain ⟨i, z, h1, h2, h3, h4⟩ := idxV_some h
      refine ⟨i + 1, z, by omega, by simpa using h2, h3, fun m z' hm hz => ?_⟩
      cases m with
      | zero => simp at hz; subst hz; simpa using e
      | succ m => exact h4 m z' (by omega) (by simpa using hz)
def mTIdx (a b : Env → M D) : Env → M D := fun ρ => (a ρ).bind fun d => match d with
  | .ptup ds => (b ρ).bind fun e => if Mi.D.sc e && ds.all Mi.D.sc then (match idxV (Mi.D.toV e) (ds.map Mi.D.toV) 0 with
    | some j => .ret (.int (j : Nat))
    | none => .bad) else .bad
  | _ => .bad
theorem ge_tidx {tb : TE} {b : Env → M D} (ha : GE W E te a) (hb : GE W E tb b) : GE W E (tBMP (rIdxT K) te (tCons tb tNil)) (mTIdx a b) := fun Y σ H ρ Q o e w =>
  ha.seq o e w (fun _ _ h => h) fun d x H1 e1 o1 r1 hx w1 => by
    have hx0 := hx
    cases hx with
    | @ptup p xs ds hs hd =>
      refine ⟨⟨p, xs, rfl, plT_le hs⟩, hb.seq (Er := ErrP W E H) o1 r1 w1 (fun _ _ h => h.up e1) fun d2 y H2 e2 o2 r2 hy w2 => ?_⟩
      have hx2 := Dm.up hx0 o1 e2
      cases hx2 with
      | @ptup _ xs2 _ hs2 hd2 =>
        split at w2
        case isFalse => exact w2.elim
        rename_i k
        simp only [Bool.and_eq_true] at k
        obtain ⟨q1, q2⟩ := sc_v hy k.1
        obtain ⟨q3, q4⟩ := sc_vs hd2 k.2
        split at w2
        case h_2 => exact w2.elim
        rename_i j hj
        rw [← q1, ← q3] at hj
        obtain ⟨i, z, rfl, h2, h3, h4⟩ := idxV_some hj
        rw [Nat.zero_add] at w2
        exact ⟨p, xs2, y, z, i, rfl, rfl, (plT_le hs2).sq, q2, q4, h2, h3, h4, w2 _ H2 (e1.trans e2) (.int _)⟩
    | _ => exact w1.elim
end
end Mi

namespace CcS
open PySem PySem.Spec L2 PyProof.Rows
section
variable {prog : Program} {w : World} {A : Around} {E : Value → Shared → Prop} {s : Shared}
end
end CcS
namespace CcS
open PySem PySem.W PySem.Calls PyProof.Rows
section
variable {prog : Program} {w : World} {A : Around} {E : Value → Shared → Prop} {s : Shared} {β : Type} {vs : List Value} {bs : List β} {enc : β → PyData} {R : Value → β → Prop}
end
end CcS
namespace CcS
open PySem PySem.Spec L2 Cc PyProof.Rows PySem.W
section
variable {X : Cx}
end
end CcS

namespace Mi
open PySem L2 Cc PySem.W
section
variable {K : Fg} {W : Wd K} {E : XK} {Y : Addr → Bool} {B : Bases} {σ : L2.St} {H H' : Hp} {ρ : Env} {L : List (Nat × Addr)}
theorem SR.hold (s : SR W Y B σ H ρ L) (i : Nat) {p : Addr} {xs : List V} (e : Ext W H H') (hp : H p = none) (hx : H' p = some (.lst xs)) : SR W Y B σ H' ρ ((i, p) :: L) where
  ok := s.ok.ext e
  bs := fun k hk => ⟨(s.bs k hk).1, (s.bs k hk).2.trans (.ext e (s.bs k hk).1)⟩
  len := s.len
  fre := fun q hq => by
    rcases List.mem_cons.mp hq with rfl | hq
    · refine ⟨fun k hk => ?_, W.new s.ok.1 hp, s.ok.fresh hp, _, hx, rfl⟩
      cases z : k.2 p with
      | true => exact .inr rfl
      | false =>
        refine .inl ?_
        cases y : k.1 p with
        | none => rfl
        | some o => rw [(s.bs k hk).2 p o y z] at hp; cases hp
    · obtain ⟨h1, h2, h3, ys, hy, ho⟩ := s.fre q hq
      exact ⟨h1, h2, h3, ys, e.1 _ _ hy (s.lx hq), ho⟩
  nd := by
    rw [List.map_cons, List.nodup_cons]
    refine ⟨fun z => ?_, s.nd⟩
    obtain ⟨q, hq, e⟩ := List.mem_map.mp z
    obtain ⟨_, _, _, ys, hy, _⟩ := s.fre q hq
    rw [show q.2 = p from e, hp] at hy
    cases hy
  sl := fun j t h => by
    rw [YL_also]
    have hs : Same (mask W (YL Y L) H) (mask W (also (YL Y L) p) H') := mask_go (.ext e s.okL.2.1) fun a ha => by
      by_cases ea : a = p
      · subst ea; exact .inr hp
      · exact .inl (by simpa [also, ea] using ha)
    have q := s.sl j t h
    cases t with
    | no => trivial
    | dat d' => obtain ⟨w, h1, h2⟩ := q; exact ⟨w, h1, Dn.up h2 hs⟩
    | own ds => obtain ⟨l, ys, h1, h2, h3, h4⟩ := q; exact ⟨l, ys, h1, List.mem_cons_of_mem _ h2, e.1 _ _ h3 (s.lx h2), Dns.up h4 hs⟩
    | dkR _ => exact q.elim
    | dk ds => obtain ⟨l, ys, h1, h2, h3, h4⟩ := q; exact ⟨l, ys, h1, List.mem_cons_of_mem _ h2, e.1 _ _ h3 (s.lx h2), Dns.up h4 hs⟩
    | dn w0 ks0 ds => obtain ⟨l, ys, h1, h2, h3, h4⟩ := q; exact ⟨l, ys, h1, List.mem_cons_of_mem _ h2, e.1 _ _ h3 (s.lx h2), DnQ.up h4 hs⟩
    | slf k C ns ds => obtain ⟨x, dx, fs, h1, hS, h2, h3, h4, h5, h6⟩ := q; exact ⟨x, dx, fs, h1, hS, List.mem_cons_of_mem _ h2, e.1 _ _ h3 (s.lx h2), h4, h5, Dns.up h6 hs⟩
    | row => exact q
theorem SR.take (s : SR W Y B σ H ρ L) {i : Nat} {p : Addr} {xs : List V} {ds : List D} (hi : (i, p) ∈ L) (hx : H p = some (.lst xs)) (hd : Dms W (YL Y L) H xs ds) : SR W Y B (σ.set i (some (.ref p))) H (ρ.set i (.own ds)) L where
  ok := s.ok
  bs := s.bs
  len := by simp [s.len]
  fre := s.fre
  nd := s.nd
  sl := fun j t ht => by
    rcases getElem?_set' ht with ⟨rfl, hl, rfl⟩ | ⟨hne, h⟩
    · exact ⟨p, xs, by simp [s.len, hl], hi, hx, hd⟩
    · have q := s.sl j t h
      have e : (σ.set i (some (.ref p)))[j]? = σ[j]? := by simp [List.getElem?_set, hne]
      cases t with
      | no => trivial
      | dat d' => obtain ⟨w, h1, h2⟩ := q; exact ⟨w, by rw [e]; exact h1, h2⟩
      | own ds => obtain ⟨l, xs, h1, h2⟩ := q; exact ⟨l, xs, by rw [e]; exact h1, h2⟩
      | dkR _ => exact q.elim
      | dk ds => obtain ⟨l, xs, h1, h2⟩ := q; exact ⟨l, xs, by rw [e]; exact h1, h2⟩
      | dn w0 ks0 ds => obtain ⟨l, xs, h1, h2⟩ := q; exact ⟨l, xs, by rw [e]; exact h1, h2⟩
      | slf k C ns ds => obtain ⟨x, dx, fs, h1, h2⟩ := q; exact ⟨x, dx, fs, by rw [e]; exact h1, h2⟩
      | row => exact e.trans q
def VR (W : Wd K) (Y : Addr → Bool) (H : Hp) (L : List (Nat × Addr)) (i : Nat) (v : V) : Sl → Prop
  | .dat d => Dm W (YL Y L) H v d
  | .own ds => ∃ p xs, v = .ref p ∧ (i, p) ∈ L ∧ H p = some (.lst xs) ∧ Dms W (YL Y L) H xs ds
  | _ => False
theorem VR.up {i : Nat} {v : V} {t : Sl} (h : VR W Y H L i v t) (s : SR W Y B σ H ρ L) (e : Ext W H H') : VR W Y H' L i v t := by
  cases t with
  | dat d => exact Dm.up h s.okL e
  | own ds => obtain ⟨p, xs, h1, h2, h3, h4⟩ := h; exact ⟨p, xs, h1, h2, e.1 _ _ h3 (s.lx h2), h4.up s.okL e⟩
  | _ => exact h.elim
theorem VR.hold {i j : Nat} {v : V} {t : Sl} {p : Addr} (h : VR W Y H L i v t) (s : SR W Y B σ H ρ L) (e : Ext W H H') (hp : H p = none) : VR W Y H' ((j, p) :: L) i v t := by
  have hs : Same (mask W (YL Y L) H) (mask W (YL Y ((j, p) :: L)) H') := by
    rw [YL_also]
    exact mask_go (.ext e s.okL.2.1) fun a ha => by
      by_cases ea : a = p
      · subst ea; exact .inr hp
      · exact .inl (by simpa [also, ea] using ha)
  cases t with
  | dat d => exact Dn.up h hs
  | own ds => obtain ⟨q, xs, h1, h2, h3, h4⟩ := h; exact ⟨q, xs, h1, List.mem_cons_of_mem _ h2, e.1 _ _ h3 (s.lx h2), Dns.up h4 hs⟩
  | _ => exact h.elim
inductive VRs (W : Wd K) (Y : Addr → Bool) (H : Hp) (L : List (Nat × Addr)) : List Nat → List V → List Sl → Prop where
  | nil : VRs W Y H L [] [] []
  | cons {i : Nat} {is : List Nat} {v : V} {vs : List V} {t : Sl} {ts : List Sl} : VR W Y H L i v t → VRs W Y H L is vs ts → VRs W Y H L (i :: is) (v :: vs) (t :: ts)
theorem VRs.up {is : List Nat} {vs : List V} {ts : List Sl} (h : VRs W Y H L is vs ts) (s : SR W Y B σ H ρ L) (e : Ext W H H') : VRs W Y H' L is vs ts := by
  induction h with
  | nil => exact .nil
  | cons h _ ih => exact .cons (h.up s e) ih
inductive Ag where
  | n (m : Env → M (List D))
  | d (m : Env → M D)
def agGo : List Ag → Env → M (List Sl)
  | [], _ => .ret []
  | .d m :: r, ρ => (m ρ).bind fun x => (agGo r ρ).bind fun ts => .ret (.dat x :: ts)
  | .n m :: r, ρ => (m ρ).bind fun xs => (agGo r ρ).bind fun ts => .ret (.own xs :: ts)
inductive GX (W : Wd K) (E : XK) : TA → List Ag → Prop where
  | nil : GX W E tNil []
  | d {te : TE} {ta : TA} {m : Env → M D} {r : List Ag} : GE W E te m → GX W E ta r → GX W E (tCons te ta) (.d m :: r)
  | n {te : TE} {ta : TA} {m : Env → M (List D)} {r : List Ag} : GN W E te m → GX W E ta r → GX W E (tCons te ta) (.n m :: r)
theorem gx_run {ta : TA} {ags : List Ag} (h : GX W E ta ags) : ∀ (is : List Nat) (H : Hp) (L : List (Nat × Addr)) (R : List Sl → Prop) (Q : List V → Hp → Prop), is.length = ags.length → SR W Y B σ H ρ L → (agGo ags ρ).wp R (ErrB W E B) →
    (∀ ts vs H' L', R ts → SR W Y B σ H' ρ L' → VRs W Y H' L' is vs ts → (∀ i v t, VR W Y H L i v t → VR W Y H' L' i v t) → Q vs H') → ta σ H Q := by
  induction h with
  | nil =>
    intro is H L R Q hl s w k
    cases is with
    | nil => exact k [] [] H L w s .nil fun _ _ _ h => h
    | cons _ _ => cases hl
  | @d te ta m r hm hr ih =>
    intro is H L R Q hl s w k
    cases is with
    | nil => cases hl
    | cons i is =>
      refine hm.seq s.okL s.envA w (fun _ _ h => h.at' s) fun d v H1 e1 o1 r1 hv w1 => ?_
      have s1 := s.up e1
      exact ih is H1 L (fun ts => R (.dat d :: ts)) _ (Nat.succ.inj hl) s1 ((M.wp_bind _).mp w1) fun ts vs H' L' hR s' hvs up => k (.dat d :: ts) (v :: vs) H' L' hR s' (.cons (up i v (.dat d) hv) hvs) fun j x t h => up j x t (h.up s e1)
  | @n te ta m r hm hr ih =>
    intro is H L R Q hl s w k
    cases is with
    | nil => cases hl
    | cons i is =>
      refine hm _ σ H ρ _ s.okL s.envA (M.wp_mono (fun ds hd p xs H1 e1 hp hx hds => ?_) (fun _ _ h => h.at' s) _ ((M.wp_bind _).mp w))
      have s1 := s.hold i (p := p) e1 hp hx
      have e2 : VR W Y H1 ((i, p) :: L) i (.ref p) (.own ds) := ⟨p, xs, rfl, List.mem_cons_self, hx, by rw [YL_also]; exact hds⟩
      exact ih is H1 ((i, p) :: L) (fun ts => R (.own ds :: ts)) _ (Nat.succ.inj hl) s1 ((M.wp_bind _).mp hd) fun ts vs H' L' hR s' hvs up => k (.own ds :: ts) (.ref p :: vs) H' L' hR s' (.cons (up i _ _ e2) hvs) fun j x t h => up j x t (h.hold s e1 hp)
theorem SR.putV (s : SR W Y B σ H ρ L) {i : Nat} {v : V} {t : Sl} (h : VR W Y H L i v t) : SR W Y B (σ.set i (some v)) H (ρ.set i t) L := by
  cases t with
  | dat d => exact s.set i h
  | own ds =>
    obtain ⟨p, xs, rfl, h2, h3, h4⟩ := h
    exact s.take h2 h3 h4
  | _ => exact h.elim
end
def sParX (i j : Nat) (ags : List Ag) : Env → M Fl := fun ρ => (agGo ags ρ).bind fun ts => match ts with
  | [t, u] => .ret (.nx ((ρ.set i t).set j u))
  | _ => .bad
def sParX3 (i j l : Nat) (ags : List Ag) : Env → M Fl := fun ρ => (agGo ags ρ).bind fun ts => match ts with
  | [t, u, x] => .ret (.nx (((ρ.set i t).set j u).set l x))
  | _ => .bad
section
variable {K : Fg} {W : Wd K} {E : XK}
end
end Mi

namespace Mi
open PySem L2 Cc PySem.W
theorem pss_any {ι : Type} {X : Cx} {st : List Stmt} {t : ι → TS} (h : ∀ i, PSs X st (t i)) : PSs X st (fun D σ H => ∃ i, t i D σ H) := ⟨fun pins s σ H D I ⟨i, hw⟩ => (h i).run pins s σ H D I hw⟩
section
variable {P : Program} {w : World} {K : Fg} {mg : Str → Option Value} {base : Heap} {W : Wd K}
end
def spLaw (K : Fg) : Sp := fun vs H Q _ => ∃ (a : Addr) (ns : List Int), vs = [.ref a] ∧ SqL K H a (ns.map V.int) ∧ ns.length ≤ 63 ∧ ∀ H', Q (.bl true) H'
def lawM (n : Nat) (a : Env → M Fl) : M D := (a (.no :: .row :: List.replicate (n - 2) .no)).bind fin
abbrev tRow : TS := tAsg (tLst (tCons (tVar 0) (tCons (tC (.int 0)) (tCons (tC (.int 0)) (tCons (tC (.int 0)) tNil))))) (gName 1)
theorem ok_law {P : Program} {w : World} {K : Fg} {mg : Str → Option Value} {base : Heap} {st : Stmt} {f : Addr} {fd : FuncData} {N : List Str} {k : Nat} {a : Env → M Fl} {ct : List Str → Option Addr} {cls : Nat → Addr} {ea : Str → Option Addr} {ef : Str → List Str} (F : Fun K "law" "law" st f fd) (S : FnScope N ["_law_script"] (defScope st)) (hN : 2 ≤ N.length)
    (hb : ∀ (cdv : Value) (A : Around) (outer : List PySem.Env) (s : Shared) (H : Hp) (E : XK), Room k (A.deeper (PyProof.Rows.envOfC "law" (defScope st) s.heap.objs.size f cdv)) → ∃ t : (Addr × List Int) × Addr → TS, PSs (cxOf CX0 P w K mg base N "law" (defScope st) f cdv A outer s H E).nox (defBody st) (tSeq tRow fun D σ H => ∃ i, t i D σ H) ∧ ∀ i, GS (rowW K ct cls ea ef i.1 i.2) Cc.E0 (t i) a)
    (hw : (lawM N.length a).wp (fun d => d = .bl true) (fun _ _ => False)) : FnOk P w K mg base CX0 (k + 1) f fd ["_law_script"] (spLaw K) := by
  refine F.ok S (fun vs H Q E h => ?_) (fun cdv A outer s H vs Q E hr h => ?_)
  · obtain ⟨b, ns, rfl, _⟩ := h
    rfl
  · obtain ⟨b, ns, rfl, hS, hlen, hq⟩ := h
    obtain ⟨t, h1, h2⟩ := hb cdv A outer s H E hr
    refine ⟨_, h1, .ref b, rfl, by simp [sizeLine_eq], fun r hr0 => ?_⟩
    have e1 := Same.new (o := .lst [.ref b, .int 0, .int 0, .int 0]) hr0
    have hrow : Row K (b, ns) (upd H r (.lst [.ref b, .int 0, .int 0, .int 0])) r := ⟨0, 0, 0, upd_same, same_l e1 hS, ind_new hS hr0, hlen, by omega⟩
    have hcell : (upd H r (.lst [.ref b, .int 0, .int 0, .int 0])) r = some (.lst [.ref b, .int 0, .int 0, .int 0]) := upd_same
    generalize upd H r (.lst [.ref b, .int 0, .int 0, .int 0]) = H1 at hrow hcell ⊢
    refine ⟨((b, ns), r), ?_⟩
    let W := rowW K ct cls ea ef (b, ns) r
    have sr : SR W W.X ⟨[(H1, W.X)], none⟩ ((L2.start N [.ref b]).set 1 (some (.ref r))) H1 (.no :: .row :: List.replicate (N.length - 2) .no) [] := {
      ok := ⟨hrow, fun _ h => h, fun c hc => by
        have : c = r := by simpa [W, rowW] using hc
        subst this
        exact ⟨_, hcell, rfl⟩⟩
      bs := fun k hk => by
        rw [List.mem_singleton.mp hk]
        exact ⟨fun _ h => h, fun _ _ e _ => e⟩
      len := by simp [L2.start]; omega
      fre := fun p hp => nomatch hp
      nd := .nil
      sl := fun i t' ht => by
        match i with
        | 0 => cases ht; trivial
        | 1 =>
          cases ht
          show ((L2.start N [.ref b]).set 1 (some (.ref r)))[1]? = some (some (V.ref r))
          rw [List.getElem?_set_self]
          simp [L2.start]; omega
        | i + 2 =>
          rw [List.getElem?_cons_succ, List.getElem?_cons_succ] at ht
          rw [(List.mem_replicate.mp (List.mem_of_getElem? ht)).2]
          trivial }
    refine h2 ((b, ns), r) W.X ⟨[(H1, W.X)], none⟩ _ H1 _ _ ⟨[], sr⟩ (M.wp_mono (fun fl hf => ?_) (fun c p hc => hc.elim) _ ((M.wp_bind _).mp hw))
    cases fl with
    | nx ρ' => exact absurd (show D.non = D.bl true from hf) (by simp)
    | rt d =>
      obtain rfl : d = .bl true := hf
      exact fun v H' _ hv => by cases hv; exact hq H'
    | bk _ => exact hf.elim
    | rs _ _ _ _ => exact hf.elim
    | ct _ => exact hf.elim
end Mi

namespace CcS
open PySem PySem.Spec L2 Cc PyProof.Rows PySem.W
section
variable {X : Cx}
end
end CcS

namespace Mi
open PySem L2 Cc PySem.W
theorem Dns.erase {K : Fg} {H : Hp} : ∀ {vs : List V} {ds : List D} (i : Nat), Dns K H vs ds → Dns K H (vs.eraseIdx i) (ds.eraseIdx i)
  | _, _, _, .nil => by simpa using Dns.nil
  | _, _, 0, .cons _ t => t
  | _, _, i + 1, .cons q t => .cons q (Dns.erase i t)
section
variable {K : Fg} {W : Wd K} {E : XK} {te : TE} {m : Env → M D}
end
end Mi

namespace Mi
open PySem L2 Cc PySem.W
theorem pi_enK {X : Cx} (K : Fg) {e : Expr} {ta : TA} {p pos tpos : Pos} {elts : List Expr} {kk : Nat} (hm : X.mg "enumerate" = none) (ha : PA X [e] ta) (hK : X.K = K := by rfl) (hg : Gl X "enumerate" := by rfl) (hs : starEach [e] X.env = [(false, eval e X.env)] := by rfl) :
    PI X (.Tuple elts kk tpos) (.Call (.Name "enumerate" p) [e] [] pos) (iEnum K ta) := hK ▸ pi_enum hg hm ha hs
def iEnL (a : Env → M D) : Env → M (List D) := fun ρ => (a ρ).bind fun d => match d with
  | .lst ds => .ret (enD ds)
  | _ => .bad
theorem walk_el {K : Fg} {a : Addr} {xs : List V} : Walk (Ite K a) xs.length (fun H => SqL K H a xs) (YPair (fun i => some (.int (i : Nat))) (fun i => xs[i]?)) := by
  refine ⟨fun i _ hi q => ⟨xs, xs[i], q, by simp [hi]⟩, fun _ q => ⟨xs, q, Nat.le_refl _⟩, fun i H v H' _ q y => ?_⟩
  obtain ⟨T, x, h1, h2, h3, h4⟩ := y
  exact ⟨T, .int (i : Nat), x, h1, h2, h3, rfl, h4 xs q⟩
section
variable {K : Fg} {W : Wd K} {E : XK}
theorem gi_enL {te : TE} {a : Env → M D} (ha : GE W E te a) : GI W E (iEnum K (tCons te tNil)) (iEnL a) := fun Y σ H ρ R o e w =>
  ha.seq o e w (fun _ _ h => h) fun d x H1 e1 o1 r1 hx w1 => by
    cases hx with
    | @lst a xs ds hs hd =>
      have hl := hd.length
      refine ⟨a, xs, rfl, SqL.of (mask_le _ _ hs), w1 _ (fun H => SqL K H a xs) (YPair (fun i => some (.int (i : Nat))) (fun i => xs[i]?)) H1 e1 (by rw [show (enD ds).length = xs.length by simp [enD, hl]]; exact walk_el) (fun H' s => sqL_st hs s) fun i Ha x Hb Y' hi s oY hf y => ?_⟩
      obtain ⟨Tq, x1, x2, rfl, hT, rfl, g1, g2⟩ := y
      cases g1
      have hi' : i < ds.length := by simpa [enD] using hi
      obtain ⟨d, hd1, hd2⟩ := hd.get g2
      have ed : ds.getD i .non = d := by simp [List.getD, hd1]
      exact ⟨Same.new hT, .tup [.int (i : Nat), d], by simp [enD, hi']; exact (List.getElem?_eq_some_iff.mp hd1).2, pair_new oY hT (.int _) (Dn.up hd2 (mask_go s hf))⟩
    | _ => exact w1.elim
end
end Mi

namespace CcS
open PySem PySem.Spec L2 Cc PyProof.Rows PySem.W
section
variable {X : Cx}
end
end CcS

namespace Cc
open PySem L2 PyProof.Rows
end Cc

namespace Mi
open PySem L2 Cc PySem.W RZ
structure IsiC (K : Fg) (C : Addr) : Prop where
  h1 : PySem.W.findIn K (.ref C) "__class__" = some (some (.builtin "object.__class__"))
  h2 : PySem.W.specialIn K (.builtin "object.__class__") "__get__" = some (some (.builtin "getset_descriptor.__get__"))
  h3 : PySem.W.takesIn K (.builtin "object.__class__") = some true
  h4 : PySem.W.mroIn K C (.type "object") = some true
section
variable {K : Fg} {W : Wd K} {E : XK} {te tv : TE} {m a b : Env → M D} {ta : TA} {t : Env → M (List D)} {p : List Str → Bool} {F : List D → M D} {C : Addr}
end
end Mi

namespace Cc
open PySem L2 PySem.Spec PyProof.Rows
def endsN : Option Nat → Ends → Ends
  | none, D => D
  | some i, D => { nx := fun σ H => D.nx (σ.set i none) H, rt := D.rt, bk := fun σ H => D.bk (σ.set i none) H, ct := fun σ H => D.ct (σ.set i none) H }
def slotN (a : Addr) : Option Nat → L2.St → L2.St
  | none, σ => σ
  | some i, σ => σ.set i (some (.ref a))
abbrev SuiteT := Addr → Value → Option Addr → TS
def wClauses (K : Fg) (Wo : WX) (D : Ends) : List (Value × Option Nat × SuiteT) → WX
  | [] => Wo
  | q :: r => fun cls d σ H => ∃ b, PySem.W.exmOne K cls q.1 = some b ∧ (b = true → ∀ a, H a = none → q.2.2 a cls d (endsN q.2.1 D) (slotN a q.2.1 σ) H) ∧ (b = false → wClauses K Wo D r cls d σ H)
inductive ClausesOk (X : Cx) : List ExceptHandler → List (Value × Option Nat × SuiteT) → Prop
  | nil : ClausesOk X [] []
  | plain {x : Str} {c : Value} {ts : SuiteT} {b : Stmt} {rest : List Stmt} {p q : Pos} {hd : List ExceptHandler} {l : List (Value × Option Nat × SuiteT)} (nm : Names X x c)
      (su : ∀ (a : Addr) (oe : Obj) (cls : Value) (d : Option Addr) (pn : List (Addr × Obj)), Zc cls d oe → (∃ vs, oe.data = .fields vs) → PSs (X.suite a ((a, oe) :: pn)) (b :: rest) (ts a cls d)) (r : ClausesOk X hd l) : ClausesOk X (.ExceptHandler (some (.Name x p)) none (b :: rest) q :: hd) ((c, none, ts) :: l)
  | named {x n : Str} {c : Value} {i : Nat} {ts : SuiteT} {b : Stmt} {rest : List Stmt} {p q : Pos} {hd : List ExceptHandler} {l : List (Value × Option Nat × SuiteT)} (nm : Names X x c) (nd : X.N.Nodup) (hi : X.N[i]? = some n) (hl : X.env.kindOf n = some .local)
      (su : ∀ (a : Addr) (oe : Obj) (cls : Value) (d : Option Addr) (pn : List (Addr × Obj)), Zc cls d oe → (∃ vs, oe.data = .fields vs) → PSs (X.suite a ((a, oe) :: pn)) (b :: rest) (ts a cls d)) (r : ClausesOk X hd l) : ClausesOk X (.ExceptHandler (some (.Name x p)) (some n) (b :: rest) q :: hd) ((c, some i, ts) :: l)
section
variable {X : Cx} {pins : List (Addr × Obj)} {D : Ends}
structure Landed (X : Cx) (pins : List (Addr × Obj)) (B : Heap) (a : Addr) (cls : Value) (d : Option Addr) (σ : L2.St) (H : Hp) (sI : Shared) (s : Shared) (h : Heap) : Prop where
  fl : HandSPX.FlyingZ B (X.env :: X.outer) a (Zc cls d) h
  J : Inv X pins σ H sI
  nb : ∀ b o, sI.heap.get? b = some o → b ∉ frs X.stack → B.get? b = some o
  up : sI.heap.UpToSlots h
  na : H a = none
  os : s.os = sI.os
  ag : AllBare s.gens
theorem Landed.inv {B : Heap} {a : Addr} {cls : Value} {d : Option Addr} {σ : L2.St} {H : Hp} {sI s : Shared} {h : Heap} (l : Landed X pins B a cls d σ H sI s h) : Inv X pins σ H { s with heap := h } := l.J.landed l.nb l.fl.1 l.up l.os l.ag
theorem Landed.suite {B : Heap} {a : Addr} {cls : Value} {d : Option Addr} {σ : L2.St} {H : Hp} {sI s : Shared} {h : Heap} (l : Landed X pins B a cls d σ H sI s h) (fr : X.env.frame = some X.env.locals) :
    ∃ oe vs, h.get? a = some oe ∧ Zc cls d oe ∧ oe.data = .fields vs ∧ Inv (X.suite a ((a, oe) :: (X.pn ++ pins))) [] σ H { s with heap := h } := by
  obtain ⟨oe, vs, e1, e2, e3⟩ := l.fl.there
  have out : a ∉ frs (X.env :: X.outer) := fun m => by
    obtain ⟨_, o2, q, nf⟩ := l.fl.2.2.1.mem m
    rw [e1] at q
    cases q
    exact nf _ e3
  have o1 : a ≠ X.env.locals := fun z => out (List.mem_filterMap.mpr ⟨X.env, List.mem_cons_self, by rw [fr, z]⟩)
  have o2 : a ∉ X.fs := fun m => by
    obtain ⟨e, me, q⟩ := List.mem_filterMap.mp m
    exact out (List.mem_filterMap.mpr ⟨e, List.mem_cons_of_mem _ me, q⟩)
  exact ⟨oe, vs, e1, e2, e3, l.inv.suite e1 e3 l.na o1 o2⟩
theorem clause_name {a : Addr} {oe : Obj} {c : Value} {x : Str} {p : Pos} {σ : L2.St} {H : Hp} {s : Shared} {pn : List (Addr × Obj)} {R F : Value → Shared → Prop} (nm : Names X x c) (S : Inv (X.suite a ((a, oe) :: pn)) [] σ H s) (k : R c s) :
    wpAny (model X.prog X.w) (X.A.mark (some (.ref a))) (eval (.Name x p) X.env) R F s := by
  obtain ⟨g, db, m | ⟨m, v, nn⟩⟩ := nm
  · exact ld_glob (X := X.suite a ((a, oe) :: pn)) S g m k db
  · exact ld_blt (X := X.suite a ((a, oe) :: pn)) S g m v k nn db
theorem clauses_run {Wo : WX} (st : X.stack = X.env :: X.outer) (fr : X.env.frame = some X.env.locals) (ok : X.Ok) (tk : Takes X Wo) {B : Heap} {a : Addr} {cls : Value} {d : Option Addr} {σ : L2.St} {H : Hp} {sI s : Shared} {h : Heap} (ld : Landed X pins B a cls d σ H sI s h) :
    ∀ {hd : List ExceptHandler} {l : List (Value × Option Nat × SuiteT)}, ClausesOk X hd l → wClauses X.K Wo D l cls d σ H → wpAny (model X.prog X.w) X.A (handleBy (.ref a) X.env hd) (SP X pins D) X.xe { s with heap := h } := by
  obtain ⟨oe0, vs0, g0, z0, f0, S0⟩ := ld.suite fr
  have isC : PySem.W.Looks (model X.prog X.w) h (typeOf (.ref a)) cls := fun A R F s' k q => wpAny_typeOf_ref (k _ _ g0) (by rw [z0.1]; exact q)
  intro hd l C
  induction C with
  | nil =>
    intro w
    refine wpAny_handleBy_nil ?_
    have fl' := ld.fl
    obtain ⟨_, _, _, oe, vs, T, _, _, ge, ze, de, h1, _⟩ := fl'
    have thrown : wpAny (model X.prog X.w) X.A (setFlight (.ref a) X.env.frame) (fun _ s4 => wpAny (model X.prog X.w) X.A (throw (.ref a) : Sem Flow) (SP X pins D) X.xe s4) X.xe { s with heap := h } := by
      rw [fr]
      exact HandSPX.setFlight_upZ ld.fl fun h4 hh up4 => wpAny_throw (tk _ _ ⟨a, B, sI, pins, σ, H, cls, d, rfl, ld.J, ld.nb, ld.up.trans up4, .inr (.inr (by rw [st]; exact hh)), ld.na, ld.os, ld.ag, w⟩)
    unfold PySem.passOn
    refine wpAny_bind (wpAny_field ge de h1 ?_)
    rw [if_neg (show ¬ ((Value.ref T == Value.none) = true) by simp)]
    first
      | exact wpAny_bind (wpAny_pure (wpAny_bind thrown))
      | exact wpAny_bind thrown
  | @plain x c ts b rest p q hd' l' nm su r ih =>
    intro ⟨k, e1, yes, no⟩
    refine wpAny_handleBy_cons (codeAny_handlers_test (clause_name nm S0 ((PySem.W.exm_one (M := model X.prog X.w) ld.inv.kIn isC e1).here ?_))) (by intro z; cases z)
    cases k with
    | false => exact ih (no rfl)
    | true =>
      refine codeAny_handlers_suite (HandSPX.lands_againZ ld.fl fun h4 f4 u4 => ?_)
      have ld4 : Landed X pins B a cls d σ H sI s h4 := ⟨f4, ld.J, ld.nb, ld.up.trans u4, ld.na, ld.os, ld.ag⟩
      obtain ⟨oe, vs, _, z4, d4, S4⟩ := ld4.suite fr
      refine wpAny_mono ((su a oe cls d (X.pn ++ pins) z4 ⟨_, d4⟩).run [] _ _ H _ S4 (yes rfl a ld.na)) (fun f s6 e6 => ?_) (fun _ _ z => z.elim)
      cases f with
      | ret u => obtain ⟨v, σ6, H6, S6, r6, q6⟩ := e6; exact ⟨v, σ6, H6, S6.unsuite ok, r6, q6⟩
      | next => obtain ⟨σ6, H6, S6, q6⟩ := e6; exact ⟨σ6, H6, S6.unsuite ok, q6⟩
      | brk => obtain ⟨σ6, H6, S6, q6⟩ := e6; exact ⟨σ6, H6, S6.unsuite ok, q6⟩
      | cont => obtain ⟨σ6, H6, S6, q6⟩ := e6; exact ⟨σ6, H6, S6.unsuite ok, q6⟩
  | @named x n c i ts b rest p q hd' l' nm nd hi hl su r ih =>
    intro ⟨k, e1, yes, no⟩
    refine wpAny_handleBy_cons (codeAny_handlers_test (clause_name nm S0 ((PySem.W.exm_one (M := model X.prog X.w) ld.inv.kIn isC e1).here ?_))) (by intro z; cases z)
    cases k with
    | false => exact ih (no rfl)
    | true =>
      refine codeAny_handlers_suite_as (HandSPX.lands_againZ ld.fl fun h4 f4 u4 => ?_)
      have ld4 : Landed X pins B a cls d σ H sI s h4 := ⟨f4, ld.J, ld.nb, ld.up.trans u4, ld.na, ld.os, ld.ag⟩
      obtain ⟨oe, vs, _, z4, d4, S4⟩ := ld4.suite fr
      refine store_ok (X := X.suite a ((a, oe) :: (X.pn ++ pins))) (v := .ref a) S4 nd hi (.inl hl) rfl (fun s5 S5 => ?_) (.inr hl)
      refine wpAny_mono ((su a oe cls d (X.pn ++ pins) z4 ⟨_, d4⟩).run [] s5 _ H _ S5 (yes rfl a ld.na)) (fun f s6 e6 => ?_) (fun _ _ z => z.elim)
      cases f with
      | ret u => obtain ⟨v, σ6, H6, S6, r6, q6⟩ := e6; exact gone_ok (S6.unsuite ok) nd hi hl fun s7 J7 => ⟨v, _, H6, J7, r6, q6⟩
      | next => obtain ⟨σ6, H6, S6, q6⟩ := e6; exact gone_ok (S6.unsuite ok) nd hi hl fun s7 J7 => ⟨_, H6, J7, q6⟩
      | brk => obtain ⟨σ6, H6, S6, q6⟩ := e6; exact gone_ok (S6.unsuite ok) nd hi hl fun s7 J7 => ⟨_, H6, J7, q6⟩
      | cont => obtain ⟨σ6, H6, S6, q6⟩ := e6; exact gone_ok (S6.unsuite ok) nd hi hl fun s7 J7 => ⟨_, H6, J7, q6⟩
theorem ps_tryN {body : List Stmt} {c0 : ExceptHandler} {cs : List ExceptHandler} {l : List (Value × Option Nat × SuiteT)} {pos : Pos} {tb : XK → TS} {Wo : WX} (st : X.stack = X.env :: X.outer) (fr : X.env.frame = some X.env.locals) (tk : Takes X Wo)
    (hb : ∀ (E : XK) (pn : List (Addr × Obj)) (xe : Value → Shared → Prop), Takes (X.tr pn xe) (fun e d _ H => E e d H) → PSs (X.tr pn xe) body (tb E)) (C : ClausesOk X (c0 :: cs) l) :
    PS X (.Try body (c0 :: cs) [] [] pos) (fun D σ H => ∃ E : XK, (∀ e d σ' H', σ'.length = X.N.length → E e d H' → wClauses X.K Wo D l e d σ' H') ∧ tb E D σ H) := by
  refine ⟨fun pins s σ H D I ⟨E, hE, h⟩ => wpAny_Try_except ?_⟩
  have ok := I.ok
  have hA : X.A.frames = some (X.env :: X.outer) := by rw [ok.frames, st]
  let xe : Value → Shared → Prop := fun e s1 => wpAny (model X.prog X.w) X.A (noteFrame e X.env) (fun _ s2 => wpAny (model X.prog X.w) X.A (setFlight e none) (fun _ s3 => wpAny (model X.prog X.w) X.A (handleBy e X.env (c0 :: cs)) (SP X pins D) X.xe s3) X.xe s2) X.xe s1
  refine wpAny_mono ((hb E (X.pn ++ pins) xe (fun u s' xx => ?_)).run [] s σ H D (I.toTry _) h) (fun f s1 e1 => ?_) (fun e s1 he => he)
  · obtain ⟨a, B, sI, pins', σ', H', cls, d, rfl, J', nb, up, sky, na, os, ag, w⟩ := xx
    have J : Inv X pins σ' H' sI := J'.ofTry ok
    show wpAny (model X.prog X.w) X.A (noteFrame (.ref a) X.env) _ _ _
    exact Sky.land Zc.steady hA fr (by rw [← st]; exact sky) fun h3 f3 u3 => clauses_run st fr ok tk ⟨f3, J, nb, up.trans u3, na, os, ag⟩ C (hE cls d σ' H' J.len w)
  · cases f with
    | ret u => obtain ⟨v, σ', H', J, r, q⟩ := e1; exact ⟨v, σ', H', J.ofTry ok, r, q⟩
    | next => obtain ⟨σ', H', J, q⟩ := e1; exact wpAny_execs_nil ⟨σ', H', J.ofTry ok, q⟩
    | brk => obtain ⟨σ', H', J, q⟩ := e1; exact ⟨σ', H', J.ofTry ok, q⟩
    | cont => obtain ⟨σ', H', J, q⟩ := e1; exact ⟨σ', H', J.ofTry ok, q⟩
end
end Cc

namespace Mi
open PySem L2 Cc
namespace M
variable {α : Type}
def handle : M α → (Str → List D → M α) → M α
  | .ret a, _ => .ret a
  | .err c p, h => h c p
  | .bad, _ => .bad
  | .draw n k, h => .draw n fun i => (k i).handle h
@[simp] theorem handle_ret {a : α} {h : Str → List D → M α} : (M.ret a).handle h = M.ret a := rfl
@[simp] theorem handle_err {c : Str} {p : List D} {h : Str → List D → M α} : (M.err c p : M α).handle h = h c p := rfl
@[simp] theorem handle_bad {h : Str → List D → M α} : (M.bad : M α).handle h = M.bad := rfl
theorem wp_handle {Q : α → Prop} {E} {h : Str → List D → M α} : ∀ m : M α, (m.handle h).wp Q E ↔ m.wp Q (fun c p => (h c p).wp Q E)
  | .ret _ => Iff.rfl
  | .err _ _ => Iff.rfl
  | .bad => Iff.rfl
  | .draw n k => by
    show (M.draw n fun i => (k i).handle h).wp Q E ↔ _
    simp only [wp_draw]
    exact and_congr_right fun _ => forall_congr' fun i => forall_congr' fun _ => forall_congr' fun _ => wp_handle (k i)
end M
def hitC (x c : Str) : Bool := decide (x = "StoreError") || decide (x = c)
def rtOnly : Fl → M Fl
  | .rt d => .ret (.rt d)
  | _ => .bad
def sEnv (n : Nat) : Option Nat → Env
  | none => List.replicate n .no
  | some i => (List.replicate n .no).set i .row
abbrev Clm := Str × Option Nat × (List D → Env → M Fl)
def clGo (n : Nat) (c : Str) (p : List D) : List Clm → M Fl
  | [] => .err c p
  | q :: r => if hitC q.1 c then ((q.2.2 p (sEnv n q.2.1)).bind rtOnly).calm else clGo n c p r
def sTry (n : Nat) (names : List Str) (b : Env → M Fl) (cl : List Clm) : Env → M Fl := fun ρ => (b ρ).handle fun c p => if names.contains c then clGo n c p cl else .bad
def plainB : D → Bool
  | .non => true
  | .bl _ => true
  | .int _ => true
  | .str _ => true
  | _ => false
def mXf (i j : Nat) (p : List D) : Env → M D := fun ρ => if isRow ρ i then (M.ofO p[j]?).bind fun d => if plainB d then .ret d else .bad else .bad
section
variable {K : Fg} {W : Wd K} {E : XK}
def exW (W : Wd K) (a : Addr) (o : Option Addr) (fs : List (Str × V)) : Wd K where
  ct := W.ct
  cls := W.cls
  r := a
  ea := W.ea
  ef := W.ef
  X := W.X
  I := fun H => W.I H ∧ ∀ dd, o = some dd → H dd = some (.xd fs)
  Fr := fun b => W.Fr b ∧ ∀ dd, o = some dd → b ≠ dd
  cell := fun h x => W.cell h.1 x
  up := fun h e => ⟨W.up h.1 e, fun dd z => e _ _ (h.2 dd z)⟩
  new := fun h e => ⟨W.new h.1 e, fun dd z q => by subst q; rw [h.2 _ z] at e; cases e⟩
  off := fun h f q c => ⟨W.off h.1 f.1 q c, fun dd z => by rw [upd_ne fun q => f.2 dd z q.symm]; exact h.2 dd z⟩
structure ErrAt (K : Fg) (W : Wd K) (c : Str) (A : Addr) (o : Option Addr) (p : List D) (vs : List V) : Prop where
  ea : W.ea c = some A
  is : (p = [] ∧ o = none) ∨ ((∃ dd, o = some dd) ∧ (W.ef c).length = vs.length ∧ Dns K (fun _ => none) vs p)
inductive ClR (W : Wd K) (names : List Str) : List (Value × Option Nat × SuiteT) → List Clm → Prop
  | nil : ClR W names [] []
  | cons {c : Value} {x : Str} {io : Option Nat} {ts : SuiteT} {s : List D → Env → M Fl} {l : List (Value × Option Nat × SuiteT)} {m : List Clm} (hx : ∀ c' ∈ names, ∀ A, W.ea c' = some A → PySem.W.exmOne K (.ref A) c = some (hitC x c'))
      (hs : ∀ (a A : Addr) (c' : Str) (o : Option Addr) (p : List D) (vs : List V), ErrAt K W c' A o p vs → hitC x c' = true → GS (exW W a o ((W.ef c').zip vs)) Cc.E0 (ts a (.ref A) o) (s p)) (r : ClR W names l m) : ClR W names ((c, io, ts) :: l) ((x, io, s) :: m)
theorem none_see {Hm : Hp} : ∀ {d : D} {v : V}, Dn K (fun _ => none) v d → (∀ a, d ≠ .adr a) → (∀ ds, d ≠ .tup ds) → Dn K Hm v d := fun {d v} h n n2 => by
  cases h with
  | non => exact .non
  | bl b => exact .bl b
  | int i => exact .int i
  | str x => exact .str x
  | lst h _ => cases h
  | tup h _ => exact absurd rfl (n2 _)
  | ptup h _ => obtain ⟨_, _, h⟩ := h; cases h
  | ob h _ _ => cases h
  | adr a => exact absurd rfl (n _)
  | dct h _ _ _ => cases h
  | dks h _ _ => cases h
theorem sEnv_len {n : Nat} {io : Option Nat} : (sEnv n io).length = n := by cases io <;> simp [sEnv]
theorem slotN_len {a : Addr} {io : Option Nat} {σ : L2.St} : (slotN a io σ).length = σ.length := by cases io <;> simp [slotN]
theorem suite_sr {Y : Addr → Bool} {B : Bases} {σ0 σ : L2.St} {H0 H : Hp} {ρ : Env} {L : List (Nat × Addr)} (s : SR W Y B σ0 H0 ρ L) {n : Nat} (hn : σ.length = n) (hb : Bok W B H) (ok : Ok W Y H) {a : Addr} {o : Option Addr} {fs : List (Str × V)} (hx : ∀ dd, o = some dd → H dd = some (.xd fs)) (io : Option Nat) :
    SR (exW W a o fs) Y B (slotN a io σ) H (sEnv n io) [] where
  ok := ⟨⟨ok.1, hx⟩, ok.2⟩
  bs := fun k hk => ⟨(s.bs k hk).1, hb.2 k hk⟩
  len := by rw [slotN_len, sEnv_len, hn]
  fre := fun p hp => nomatch hp
  nd := .nil
  sl := fun j t ht => by
    cases io with
    | none =>
      rw [(List.mem_replicate.mp (List.mem_of_getElem? ht)).2]
      trivial
    | some i =>
      rcases getElem?_set' ht with ⟨rfl, hl, rfl⟩ | ⟨_, h⟩
      · have hl' : i < σ.length := by rw [hn]; simpa using hl
        show (σ.set i (some (.ref a)))[i]? = _
        rw [List.getElem?_set_self hl']
        rfl
      · rw [(List.mem_replicate.mp (List.mem_of_getElem? h)).2]
        trivial
theorem clauses_wish {n : Nat} {names : List Str} {Wo : WX} {l : List (Value × Option Nat × SuiteT)} {m : List Clm} (hX : ∀ cls d σ H, E cls d H → Wo cls d σ H) (hl : ClR W names l m) {Y : Addr → Bool} {B : Bases} {σ σ' : L2.St} {H H' : Hp} {ρ : Env} {L : List (Nat × Addr)} {Dn : Ends} (s : SR W Y B σ H ρ L) (hn : σ'.length = n) {c : Str} {p : List D} {A : Addr} {o : Option Addr} (hmem : c ∈ names) (hbk : Bok W B H') (ok : Ok W Y H') (hA : W.ea c = some A)
    (hf : (p = [] ∧ o = none) ∨ (p ≠ [] ∧ ∃ dd vs, o = some dd ∧ (W.ef c).length = vs.length ∧ H' dd = some (.xd ((W.ef c).zip vs)) ∧ Dns K (fun _ => none) vs p)) (g : (clGo n c p m).wp (FlP W Y B Dn) (ErrB W E B)) : wClauses K Wo Dn l (.ref A) o σ' H' := by
  induction hl with
  | nil => exact hX _ _ _ _ (g _ _ _ hbk ⟨A, hA, rfl, hf⟩)
  | @cons cv x io ts sf l m hx hs r ih =>
    refine ⟨hitC x c, hx c hmem A hA, fun hh a na => ?_, fun hh => ih (by unfold clGo at g; rw [if_neg (by simp [hh])] at g; exact g)⟩
    unfold clGo at g
    rw [if_pos hh] at g
    obtain ⟨vs, hx2, E2⟩ : ∃ vs : List V, (∀ dd, o = some dd → H' dd = some (.xd ((W.ef c).zip vs))) ∧ ErrAt K W c A o p vs := by
      rcases hf with ⟨hp, ho⟩ | ⟨_, dd, vs, ho, h1, h2, h3⟩
      · exact ⟨[], (fun dd z => by rw [ho] at z; cases z), ⟨hA, .inl ⟨hp, ho⟩⟩⟩
      · exact ⟨vs, (fun dd' z => by rw [ho] at z; cases z; exact h2), ⟨hA, .inr ⟨⟨dd, ho⟩, h1, h3⟩⟩⟩
    refine hs a A c o p vs E2 hh Y B _ H' _ _ ⟨[], suite_sr s hn hbk ok hx2 io⟩ (M.wp_mono (fun f hf => ?_) (fun _ _ h => h.elim) _ ((M.wp_bind _).mp (M.wp_calm (E' := fun _ _ => False) _ g)))
    cases f with
    | rt d =>
      have hf' : FlP W Y B Dn (.rt d) := hf
      intro v H2 hk hv
      have : (endsN io Dn).rt v H2 = Dn.rt v H2 := by cases io <;> rfl
      rw [this]
      exact hf' v H2 ⟨hk.1.1, hk.2⟩ hv
    | nx _ => exact hf.elim
    | bk _ => exact hf.elim
    | rs _ _ _ _ => exact hf.elim
    | ct _ => exact hf.elim

theorem gs_try {n : Nat} {names : List Str} {t : XK → TS} {b : Env → M Fl} {Wo : WX} {l : List (Value × Option Nat × SuiteT)} {m : List Clm} (hX : ∀ cls d σ H, E cls d H → Wo cls d σ H) (hb : ∀ E', GS W E' (t E') b) (hl : ClR W names l m) :
    GS W E (fun D σ H => ∃ E' : XK, (∀ e d σ' H', σ'.length = n → E' e d H' → wClauses K Wo D l e d σ' H') ∧ t E' D σ H) (sTry n names b m) := fun Y B σ H ρ Dn ⟨L, s⟩ w => by
  let Z : Addr → Bool := fun a => W.X a || L.any fun p => p.2 == a
  let B' : Bases := ⟨(H, Z) :: B.l, B.s⟩
  have s' : SR W Y B' σ H ρ L :=
    { s with
      bs := fun k hk => by
        rcases List.mem_cons.mp hk with rfl | hk
        · exact ⟨fun a h => by simp [Z, h], fun _ _ e _ => e⟩
        · exact s.bs k hk
      fre := fun p hp => by
        obtain ⟨h1, h2⟩ := s.fre p hp
        refine ⟨fun k hk => ?_, h2⟩
        rcases List.mem_cons.mp hk with rfl | hk
        · have : (L.any fun q => q.2 == p.2) = true := List.any_eq_true.mpr ⟨p, hp, by simp⟩
          exact .inr (by simp [Z, this])
        · exact h1 k hk }
  let G : Str → List D → Prop := fun c p => (if names.contains c then clGo n c p m else .bad : M Fl).wp (FlP W Y B Dn) (ErrB W E B)
  have w' : (b ρ).wp (FlP W Y B Dn) G := (M.wp_handle _).mp w
  refine ⟨fun cls o H' => ∃ c p, Bok W B H' ∧ Ok W Y H' ∧ IsE W c p cls o H' ∧ G c p, fun cls o σ' H' hn ⟨c, p, hbk, ok, he, g⟩ => ?_, hb _ Y B' σ H ρ Dn ⟨L, s'⟩ (M.wp_mono (fun f hf => ?_) (fun c p hc cls o H' hbk he => ?_) _ w')⟩
  · obtain ⟨A, hA, rfl, hf⟩ := he
    by_cases hm : names.contains c = true
    · have hmem : c ∈ names := by simpa using hm
      simp only [G, hm, if_true] at g
      exact clauses_wish hX hl s hn hmem hbk ok hA hf g
    · simp only [G, hm, if_false] at g
      exact g.elim
  · cases f with
    | nx ρ' => exact fun σ' H' ⟨L', s2⟩ => hf σ' H' ⟨L', s2.unbase⟩
    | bk ρ' => exact fun σ' H' ⟨L', s2⟩ => hf σ' H' ⟨L', s2.unbase⟩
    | ct ρ' => exact fun σ' H' ⟨L', s2⟩ => hf σ' H' ⟨L', s2.unbase⟩
    | rt d => exact fun v H' hk hv => hf v H' hk.tail hv
    | rs _ _ _ _ => exact fun v H' x dx fs h1 hk h2 hn h3 hv => hf v H' x dx fs h1 hk.tail h2 hn h3 hv
  · refine ⟨c, p, hbk.tail, ⟨hbk.1, s.ok.2.1, fun a ha => ?_⟩, he, hc⟩
    cases x : W.X a with
    | true => exact W.cell hbk.1 x
    | false =>
      obtain ⟨u, hu, hcell⟩ := s.ok.2.2 a ha
      refine ⟨u, hbk.2 (H, Z) List.mem_cons_self a u hu ?_, hcell⟩
      show Z a = false
      cases z : Z a with
      | false => rfl
      | true =>
        simp only [Z, x, Bool.false_or, List.any_eq_true, beq_iff_eq] at z
        obtain ⟨q, hq, rfl⟩ := z
        rw [(s.fre q hq).2.2.1] at ha
        cases ha
theorem hitC_eq {x c : Str} (h : hitC x c = true) (hx : x ≠ "StoreError") : x = c := by
  simpa [hitC, hx] using h
theorem zip_lookup {f : Str} {v : V} : ∀ {fs : List Str} {vs : List V} {j : Nat}, fs.Nodup → fs[j]? = some f → vs[j]? = some v → (fs.zip vs).lookup f = some v
  | [], _, _, _, h, _ => by simp at h
  | _ :: _, [], _, _, _, h => by simp at h
  | g :: fs, u :: vs, 0, _, h1, h2 => by
    simp at h1 h2
    subst h1; subst h2
    simp [List.lookup]
  | g :: fs, u :: vs, j + 1, nd, h1, h2 => by
    rw [List.nodup_cons] at nd
    have h1' : fs[j]? = some f := by simpa using h1
    have hne : f ≠ g := fun z => nd.1 (by rw [← z]; exact List.mem_of_getElem? h1')
    have e : (f == g) = false := by simpa using hne
    rw [List.zip_cons_cons]
    simp only [List.lookup, e]
    exact zip_lookup nd.2 h1' (by simpa using h2)
theorem ge_xg {x f c : Str} {i j : Nat} {fs : List Str} {a A C : Addr} {o : Option Addr} {p : List D} {vs : List V} (h : ErrAt K W c A o p vs) (hc : hitC x c = true) (ea : W.ea x = some C) (ef : W.ef x = fs) (r : XfC K C) (no : PySem.W.findIn K (.ref C) f = some none) (hj : fs[j]? = some f := by rfl) (nd : fs.Nodup := by decide) (hx : x ≠ "StoreError" := by decide) :
    GE (exW W a o ((W.ef c).zip vs)) E (tXg K a (.ref A) o f (tVar i)) (mXf i j p) := fun Y σ H ρ Q ok e w => by
  obtain rfl := hitC_eq hc hx
  unfold mXf at w
  by_cases hr : isRow ρ i = true
  case neg => rw [if_neg hr] at w; exact w.elim
  rw [if_pos hr] at w
  refine ⟨_, e.2.2.1 i (isRow_at hr), rfl, ?_⟩
  obtain ⟨d, hd, w2⟩ := M.wp_ofO ((M.wp_bind _).mp w)
  have hA : A = C := Option.some.inj (h.ea.symm.trans ea)
  subst hA
  rcases h.is with ⟨hp, _⟩ | ⟨⟨dd, ho⟩, hlen, hds⟩
  · subst hp; cases hd
  obtain ⟨v, hv, hvd⟩ := hds.getD hd
  have hdp : plainB d = true := by
    by_cases hp : plainB d = true
    · exact hp
    · rw [if_neg hp] at w2; exact w2.elim
  rw [if_pos hdp] at w2
  have look : ((W.ef x).zip vs).lookup f = some v := by
    rw [ef] at hlen ⊢
    exact zip_lookup nd hj hv
  refine ⟨A, dd, _, v, rfl, r, no, ho, ok.1.2 dd ho, look, w2 v H (.refl ok.1) (none_see hvd ?_ ?_)⟩
  · rintro a rfl; cases hdp
  · rintro a rfl; cases hdp
end
end Mi

namespace CcX
open PySem PySem.W PySem.Calls PyProof.Rows PySem.HandSPX
section
variable {prog : Program} {w : World} {A : Around} {E : Value → Shared → Prop} {R : Result → Shared → Prop} {s : Shared} {K : Frag} {mg mb : Str → Option Value} {C fI : Addr}
end
end CcX

namespace Cc
open PySem L2
section
variable {X : Cx} {x : Str} {C : Addr} {p p2 pos pos2 : Pos}
end
end Cc
namespace Mi
open PySem L2 Cc
section
variable {K : Fg} {W : Wd K} {E : XK} {ta : TA} {t : Env → M (List D)}
end
end Mi

namespace Cc
open PySem L2 LamX
section
variable {X : Cx} {pins : List (Addr × Obj)} {σ : L2.St} {H : Hp} {s : Shared}
structure LamMade (X : Cx) (pins : List (Addr × Obj)) (σ : L2.St) (H : Hp) (P : Addr) (T : List (Addr × Str)) (params : Arguments) (body : Expr) (scope : Scope) (f c' : Addr) (pm ctv : Value) (H1 : Hp) (s1 : Shared) : Prop where
  inv : Inv X pins σ H1 s1
  but : But [P] H H1
  tab : Tabs T H1
  obj : s1.heap.get? f = some (PySem.W.kla_obj "<lambda>" (X.env.qual ++ "<lambda>") params body scope (cloFrom X.env.cells scope.names []) pm c' ctv)
  new : H1 f = none
  off : f ∉ frs X.stack
  co : H1 c' = some (CodeO c' (X.env.qual ++ "<lambda>"))
theorem lam_makeS {T : List (Addr × Str)} {c P : Addr} {params : Arguments} {body : Expr} {scope : Scope} {pos : Pos} {F R : Value → Shared → Prop} (I : Inv X pins σ H s) (TB : TabB X.base X.mg c P) (hco : X.env.code = .ref c) (mT : (P, X.env.qual ++ "<lambda>") ∈ T) (oT : ∀ p ∈ T, p.1 = P → p.2 = X.env.qual ++ "<lambda>") (tabs : Tabs T H)
    (hde : defaultsOf params X.env = ([], [])) (hfr : ∀ y ∈ scope.names, y.2 = .free → ∃ c, X.env.cells.lookup y.1 = some c) (k : ∀ f c' pm ctv H1 s1, LamMade X pins σ H P T params body scope f c' pm ctv H1 s1 → R (.ref f) s1) : wpAny (model X.prog X.w) X.A (eval (.Lambda params body scope pos) X.env) R F s := by
  obtain ⟨ps, atP, trip, among⟩ := tabs _ mT
  have bP : s.heap.BuiltinsAt X.mg P := TB.bm.keeps I.bk
  have oP : s.heap.get? P = some { cls := .none, data := .fields ps } := I.hok P _ atP
  have far : ∀ z, s.heap.objs.size ≤ z → z ∉ frs X.stack := fun z hz m => by
    rcases List.mem_cons.mp (I.stkSub _ m) with e | e
    · have lt := I.lt
      rw [← e] at lt
      exact absurd (Nat.lt_of_lt_of_le lt hz) (Nat.lt_irrefl _)
    · exact I.nofs hz e
  refine PySem.W.kla_eval hde ?_
  rcases found : codeAmong pos ps.toList with _ | cv
  · refine PySem.W.kla_makeFunction (mg := X.mg) (c := c) (P := P) (ps := ps) (closure_ok hfr) I.ok.glob (I.mod.glob.keeps I.bk) hco (TB.code.keeps I.bk) oP trip found TB.gP bP fun c' ctv h' tk kept ge lt rec tb => ?_
    obtain ⟨c2, oc, vs, t, e2, g1, g2, g3⟩ := rec
    cases e2
    have sz : s.heap.objs.size ≤ h'.objs.size := Nat.le_trans ge (Nat.le_of_lt lt)
    have free : H c' = none := I.hok.fresh ge
    have Pc : P ≠ c' := ne_of_none atP free
    let more : Array Value := #[rawInt pos.line, rawInt pos.col, .ref c']
    let lamO := PySem.W.kla_obj "<lambda>" (X.env.qual ++ "<lambda>") params body scope (cloFrom X.env.cells scope.names []) ((X.mg "__name__").getD .none) c' ctv
    have J := inv_table (t' := tk) (more := more) (h' := h'.push lamO) I atP (fun b o hb e => Heap.get?_push_of_some _ (kept b o hb e)) (Heap.get?_push_of_some _ tb) ge ⟨oc, vs, t, Heap.get?_push_of_some _ g1, g2, g3⟩
    have but : But [P] H (upd (upd H P (.tbl (ps ++ more))) c' (CodeO c' (X.env.qual ++ "<lambda>"))) := fun b o e n => by
      rw [upd_ne (ne_of_none e free), upd_ne (by simpa using n)]
      exact e
    have codeN : ∀ (b : Addr) q, H b = some (CodeO b q) → b ∉ [P] := fun b q e m => by
      rw [List.mem_singleton.mp m, atP] at e
      exact codeO_ne ps (Option.some.inj e).symm
    refine k h'.objs.size c' _ ctv _ _ ⟨J, but, fun p hp => ?_, Heap.get?_push_size _ rfl, ?_, far _ sz, upd_same⟩
    · by_cases hb : p.1 = P
      · rw [oT p hp hb, hb]
        refine ⟨ps ++ more, by rw [upd_ne Pc, upd_same], ?_, fun p' cv' hcv => ?_⟩
        · rw [show (ps ++ more).toList = ps.toList ++ [rawInt pos.line, rawInt pos.col, .ref c'] from by simp [more]]
          exact PySem.TriplesOk_snoc _ _ _ _ trip
        · rw [show (ps ++ more).toList = ps.toList ++ [rawInt pos.line, rawInt pos.col, .ref c'] from by simp [more]] at hcv
          rcases among_app _ trip hcv with z | z
          · obtain ⟨c0, e1, e2⟩ := among p' cv' z
            exact ⟨c0, e1, but _ _ e2 (codeN c0 _ e2)⟩
          · exact ⟨c', z, upd_same⟩
      · obtain ⟨ps', a1, a2, a3⟩ := tabs p hp
        refine ⟨ps', but _ _ a1 (by simpa using hb), a2, fun p' cv' hcv => ?_⟩
        obtain ⟨c0, e1, e2⟩ := a3 p' cv' hcv
        exact ⟨c0, e1, but _ _ e2 (codeN c0 _ e2)⟩
    · rw [upd_ne (Nat.ne_of_gt lt), upd_ne (Nat.ne_of_gt (Nat.lt_of_lt_of_le (Heap.lt_size oP) sz))]
      exact I.hok.fresh sz
  · obtain ⟨c', e, co⟩ := among pos cv found
    subst e
    refine PySem.W.kla_makeFunctionHit (mg := X.mg) (c := c) (P := P) (ps := ps) (closure_ok hfr) I.ok.glob (I.mod.glob.keeps I.bk) hco (TB.code.keeps I.bk) oP trip found bP fun ctv h' tk kept sz => ?_
    let lamO := PySem.W.kla_obj "<lambda>" (X.env.qual ++ "<lambda>") params body scope (cloFrom X.env.cells scope.names []) ((X.mg "__name__").getD .none) c' ctv
    have J : Inv X pins σ H { s with heap := h'.push lamO, toks := tk } := I.kept fun b o e => Heap.get?_push_of_some _ (kept b o e)
    exact k h'.objs.size c' _ ctv H _ ⟨J, But.refl _ H, tabs, Heap.get?_push_size _ rfl, I.hok.fresh sz, far _ sz, co⟩
def tLamS (T : List (Addr × Str)) (P : Addr) (TT : (XK → Hp → VK → Prop) → Hp → VK → Prop) (t : XK → TE) : TE := fun σ H Q => Tabs T H ∧ ∀ H1, But [P] H H1 → Tabs T H1 → TT (fun E H' Q' => t E σ H' Q') H1 Q
structure Taker (X : Cx) (x a : Str) (N : List Str) (g : Addr) (bg : List Stmt) (sg : Scope) (cdv : Value) : Prop where
  hm : X.mg x = some (.ref g)
  hk : PySem.W.keepIn X.K (.ref g) = true
  lk : ∃ pg oc od dV kV doc pm an ct osl, X.K.lookup g = some ⟨oc, od, .func (PySem.W.fnOf x x pg bg sg dV kV doc pm an cdv ct), osl⟩ ∧ L2.Binds X.K (PySem.W.fnOf x x pg bg sg dV kV doc pm an cdv ct) [a] []
  hcg : PySem.W.codeIn X.K cdv x = true
theorem pe_lamS {T : List (Addr × Str)} {TT : (XK → Hp → VK → Prop) → Hp → VK → Prop} {x a : Str} {N : List Str} {g c P : Addr} {k m : Nat} {bg : List Stmt} {sg : Scope} {cdv : Value} {params : Arguments} {body : Expr} {scope : Scope} {t : XK → TE} {p lpos pos : Pos} (G : Taker X x a N g bg sg cdv) (Sg : FnScope N [a] sg)
    (gives : GivesTo X N x sg g cdv bg a (X.env.qual ++ "<lambda>") TT) (TB : TabB X.base X.mg c P) (hcode : X.env.code = .ref c) (mT : (P, X.env.qual ++ "<lambda>") ∈ T) (oT : ∀ p ∈ T, p.1 = P → p.2 = X.env.qual ++ "<lambda>") (hr : Room m X.A)
    (hbody : ∀ (A : Around) (outer : List Env) (s : Shared) (H : Hp) (E : XK) (f c' : Addr), Room k (A.deeper (lamEnv X scope s.heap.objs.size f c')) → PE (lamCx X A outer s H E scope f c') body (t E)) (L : LamS X.env.scope scope) (hkm : k + 2 ≤ m := by decide) (hg : Gl X x := by rfl) (at0 : N[0]? = some a := by rfl) (va : Vis sg a := by exact .inl rfl) (hde : defaultsOf params X.env = ([], []) := by rfl)
    (hbind : ∀ (q : Str) (cl : List (Str × Addr)) (pm cv ctv : Value), bindArgs (PySem.W.kla_fn "<lambda>" q params body scope cl pm cv ctv) ⟨[], []⟩ = pure [] := by exact fun _ _ _ _ _ => rfl) (d1 : (x == ("__debug__" : Str)) = false := by decide) (d2 : (a == ("__debug__" : Str)) = false := by decide) (d3 : (a == ("__classdict__" : Str)) = false := by decide) :
    PE X (.Call (.Name x p) [.Lambda params body scope lpos] [] pos) (tLamS T P TT t) := by
  obtain ⟨pg, oc, od, dV, kV, doc, pm, an, ct, osl, lk, hb⟩ := G.lk
  refine ⟨fun pins s σ H Q I ⟨tabs, h⟩ => wpAny_Call_Name_kw (ld_glob I hg G.hm (PySem.W.callWith_K (h₀ := X.base) I.ok.mod.kin G.hk ?_ (by rfl) (by rfl)) d1)⟩
  show wpAny _ _ (spliced ((false, eval (.Lambda params body scope lpos) X.env) :: backTo pos (starEach [] X.env))) _ _ s
  refine Calls.spliced_cons (lam_makeS I TB hcode mT oT tabs hde (L.has I.ok) fun f c' pm' ctv H1 s1 M => Calls.spliced_nil ⟨M.inv.kIn, ?_⟩)
  have run : codeAny (model X.prog X.w) X.A (.call (.ref g) ⟨[.ref f], []⟩) (CR CX0 X.stack X.prog X.w H1 s1 Q Cc.E0) s1 := by
    refine run_ofS (N := N) (ps := [a]) (us := [.ref f]) (vs := [.ref f]) lk G.hcg Sg (hr.mono hkm) M.inv.env0 (hb s1 [.ref f] M.inv.kIn rfl) (.cons rfl .nil) rfl fun room => ?_
    obtain ⟨t', d, w⟩ := gives f c' s1 H1 Q (fun E H' Q' => t E σ H' Q') (fun W pn xe E p1 p2 tk hW => pe_act (i := 0) M.inv L M.obj M.new M.off (hbind _ _ _ _ _) tk hW room (fun A outer s H r2 => hbody A outer s H E f c' r2) at0 va d2 d3) M.co (h H1 M.but M.tab)
    exact ⟨t', d.nox, w⟩
  refine wpAny_call (codeAny_mono run fun r s2 hq => ?_)
  cases r with
  | error e => exact (show False from hq).elim
  | ok fl =>
    cases fl with
    | ret u => exact M.inv.after hq
    | next => exact hq.elim
    | brk => exact hq.elim
    | cont => exact hq.elim
end
end Cc

namespace Mi
open PySem L2 Cc
theorem code_cell {c : Addr} {q : Str} : cellO (LamX.CodeO c q) = false := by
  unfold LamX.CodeO cellO
  refine @decide_eq_false _ (Classical.propDecidable _) ?_
  let ob : Obj := { cls := .none, data := .fields #[.none, .str q default] }
  let h : Heap := { objs := Array.replicate (c + 1) ob }
  have hc : h.get? c = some ob := by
    have : h.objs[c]? = some ob := by simp [h]
    unfold Heap.get?
    rw [this]
  have l : (∃ (oc : Obj) (vs : Array Value) (t : Tok), h.get? c = some oc ∧ oc.data = .fields vs ∧ vs[1]? = some (.str q t)) := ⟨ob, _, default, hc, rfl, rfl⟩
  have hh : ∀ a o, h.get? a = some o → o = ob := fun a o ho => by
    unfold Heap.get? at ho
    split at ho
    · cases ho
    · rename_i x hx
      have hx' : h.objs[a]? = some o := ho ▸ rfl
      have := Array.mem_of_getElem? hx'
      exact (Array.mem_replicate.mp this).2
  rintro (⟨a, es, ep, e⟩ | ⟨w, a, S, n, e⟩)
  · have e1 := HO.ext.inj e
    have r := (congrFun e1 h) ▸ l
    obtain ⟨⟨o, h1, _, h2⟩, _⟩ := r
    rw [hh a o h1] at h2
    cases h2
  · have e1 := HO.ext.inj e
    have r := (congrFun e1 h) ▸ l
    obtain ⟨o, es, ep, t, h1, _, h2, _⟩ := r
    rw [hh a o h1] at h2
    cases h2
def lamB (K : Fg) (ct : List Str → Option Addr) (cls : Nat → Addr) (ea : Str → Option Addr) (ef : Str → List Str) (S : Addr × List Int) (r P : Addr) (q : Str) : Wd K where
  ct := ct
  cls := cls
  ea := ea
  ef := ef
  r := r
  X := fun a => a == r || a == P
  I := fun H => Row K S H r ∧ LamX.Tabs [(P, q)] H
  Fr := fun a => (a ≠ r ∧ a ≠ P) ∧ Ind K S a
  cell := fun {H a} h x => by
    rcases Bool.or_eq_true_iff.mp x with x | x
    · have e : a = r := by simpa using x
      subst e
      obtain ⟨_, _, _, h1, _⟩ := h.1
      exact ⟨_, h1, rfl⟩
    · have e : a = P := by simpa using x
      subst e
      obtain ⟨ps, h1, _⟩ := h.2 (a, q) (by simp)
      exact ⟨_, h1, rfl⟩
  up := fun h e => ⟨h.1.up e, h.2.ext e⟩
  new := fun {H a} h e => by
    obtain ⟨_, _, _, h1, h2, _⟩ := h.1
    obtain ⟨ps, h3, _⟩ := h.2 (P, q) (by simp)
    exact ⟨⟨(ne_of_none h1 e).symm, (ne_of_none h3 e).symm⟩, ind_new h2 e⟩
  off := fun {H a o u} h f ho hc => by
    obtain ⟨pos, rng, rest, h1, h2, h3, h4⟩ := h.1
    refine ⟨⟨pos, rng, rest, by rw [upd_ne (Ne.symm f.1.1)]; exact h1, lkeepO h2 f.2, h3, h4⟩, fun p hp => ?_⟩
    rw [List.mem_singleton.mp hp]
    obtain ⟨ps, a1, a2, a3⟩ := h.2 (P, q) (by simp)
    refine ⟨ps, by rw [upd_ne (Ne.symm f.1.2)]; exact a1, a2, fun pos cv hcv => ?_⟩
    obtain ⟨c, e1, e2⟩ := a3 pos cv hcv
    refine ⟨c, e1, ?_⟩
    rw [upd_ne]
    · exact e2
    · rintro rfl
      rw [e2] at ho
      cases ho
      rw [show cellO _ = false from code_cell] at hc
      cases hc
theorem lamB_ok {K : Fg} {ct : List Str → Option Addr} {cls : Nat → Addr} {ea : Str → Option Addr} {ef : Str → List Str} {S : Addr × List Int} {r P : Addr} {q : Str} : RowOk (lamB K ct cls ea ef S r P q) := ⟨S, fun _ h => h.1, fun H H' i b h => ⟨fun c o e x => b c o e (by
  have : c ≠ r := fun z => by subst z; simp [lamB] at x
  simpa [lamB] using this), h, by
  obtain ⟨_, _, _, h1, _⟩ := i.1
  exact tabs_but i.2 h1 b⟩⟩
section
variable {K : Fg} {W : Wd K} {E : XK}
def lamW (W : Wd K) (f c' : Addr) (q : Str) (H1 : Hp) (i : W.I H1) : Wd K where
  ct := W.ct
  cls := W.cls
  ea := W.ea
  ef := W.ef
  r := f
  X := W.X
  I := fun H => Ext W H1 H ∧ H c' = some (LamX.CodeO c' q)
  Fr := fun a => W.Fr a ∧ H1 a = none ∧ a ≠ c'
  cell := fun h x => W.cell h.1.2 x
  up := fun h e => ⟨h.1.trans (.of h.1.2 e), e _ _ h.2⟩
  new := fun h e => ⟨W.new h.1.2 e, h.1.free i e, fun z => by subst z; rw [h.2] at e; cases e⟩
  off := fun {H a o u} h f ho hc => ⟨⟨fun b o' e x => by
    rw [upd_ne (ne_of_none e f.2.1)]
    exact h.1.1 b o' e x, W.off h.1.2 f.1 ho hc⟩, by rw [upd_ne (Ne.symm f.2.2)]; exact h.2⟩
def TTw (W : Wd K) (F : M D → M D) : (XK → Hp → VK → Prop) → Hp → VK → Prop := fun tl H Q => ∃ Y m, Ok W Y H ∧ (∀ E H' Q', Ok W Y H' → Ext W H H' → m.wp (RetP W Y H' Q') (ErrP W E H') → tl E H' Q') ∧ (F m).wp (RetP W Y H Q) (fun _ _ => False)
def sAct (m : M D) : Env → M Fl := fun ρ => if isRow ρ 0 then m.bind fun _ => .ret (.nx ρ) else .bad
structure ActOk (W : Wd K) (Y0 : Addr → Bool) (H1 : Hp) (c' : Addr) (q : Str) (tl : XK → Hp → VK → Prop) (m : M D) : Prop where
  i : W.I H1
  co : H1 c' = some (LamX.CodeO c' q)
  ok : Ok W Y0 H1
  h : ∀ E H' Q', Ok W Y0 H' → Ext W H1 H' → m.wp (RetP W Y0 H' Q') (ErrP W E H') → tl E H' Q'
theorem ActOk.nX {Y0 : Addr → Bool} {H1 : Hp} {c' : Addr} {q : Str} {tl : XK → Hp → VK → Prop} {m : M D} (A : ActOk W Y0 H1 c' q tl m) : W.X c' = false := by
  cases x : W.X c' with
  | false => rfl
  | true =>
    obtain ⟨o, ho, hc⟩ := W.cell A.i x
    rw [A.co] at ho
    cases ho
    rw [show cellO _ = false from code_cell] at hc
    cases hc
section
variable {f c' : Addr} {q : Str} {H1 : Hp} {Y0 : Addr → Bool} {tl : XK → Hp → VK → Prop} {m : M D}
theorem ActOk.ext (A : ActOk W Y0 H1 c' q tl m) {H H' : Hp} (o : Ext W H1 H ∧ H c' = some (LamX.CodeO c' q)) (x : Ext W H H') : Ext (lamW W f c' q H1 A.i) H H' := ⟨x.1, o.1.trans x, x.1 _ _ o.2 A.nX⟩
theorem gs_act (A : ActOk W Y0 H1 c' q tl m) : GS (lamW W f c' q H1 A.i) E (tDrop fun σ H Q => σ[0]? = some (some (.ref f)) ∧ H c' = some (LamX.CodeO c' q) ∧ tl E H Q) (sAct m) := fun Y B σ H ρ Dn ⟨L, s⟩ w => by
  unfold sAct at w
  by_cases hr : isRow ρ 0 = true
  case neg => rw [if_neg hr] at w; exact w.elim
  rw [if_pos hr] at w
  have o := s.ok.1
  exact ⟨s.envA.2.2.1 0 (isRow_at hr), o.2, A.h E H _ (A.ok.ext o.1) o.1 (M.wp_mono (fun d hd v H' x hv => hd σ H' ⟨L, s.up (A.ext o x)⟩) (fun c p hc cls ob H' x he => hc cls ob H' (s.bokE (A.ext o x)) he) _ ((M.wp_bind _).mp w))⟩
end
def defL (n : Nat) (b : M D → Env → M Fl) : M D → M D := fun m => (b m (.row :: List.replicate (n - 1) .no)).bind fin
theorem gives_of {X : Cx} {N : List Str} {x : Str} {sg : Scope} {g : Addr} {cdg : Value} {bg : List Stmt} {a q : Str} {b : M D → Env → M Fl} (hN : 1 ≤ N.length)
    (hb : ∀ (f c' : Addr) (s : Shared) (H : Hp) (tl : XK → Hp → VK → Prop), (∀ (Wx : WX) (pn : List (Addr × Obj)) (xe : Value → Shared → Prop) (E : XK) (p1 p2 : Pos), Takes ((cxOf CX0 X.prog X.w X.K X.mg X.base N x sg g cdg X.A X.stack s H Cc.E0).tr pn xe) Wx → (∀ cls d σ' H', E cls d H' → Wx cls d σ' H') →
      PE ((cxOf CX0 X.prog X.w X.K X.mg X.base N x sg g cdg X.A X.stack s H Cc.E0).tr pn xe) (.Call (.Name a p1) [] [] p2) (fun σZ HZ Q => σZ[0]? = some (some (.ref f)) ∧ HZ c' = some (LamX.CodeO c' q) ∧ tl E HZ Q)) →
      ∃ t, PSs (cxOf CX0 X.prog X.w X.K X.mg X.base N x sg g cdg X.A X.stack s H Cc.E0).nox bg t ∧ ∀ (Y0 : Addr → Bool) (m : M D) (A : ActOk W Y0 H c' q tl m), GS (lamW W f c' q H A.i) Cc.E0 t (b m)) :
    LamX.GivesTo X N x sg g cdg bg a q (TTw W (defL N.length b)) := fun f c' s H Q tl act hc ⟨Y, m, ok, htl, w⟩ => by
  obtain ⟨t, h1, h2⟩ := hb f c' s H tl act
  refine ⟨t, h1, ?_⟩
  have A : ActOk W Y H c' q tl m := ⟨ok.1, hc, ok, htl⟩
  have e0 : Ext W H H := .refl ok.1
  have sr : SR (lamW W f c' q H A.i) Y ⟨[(H, W.X)], none⟩ (L2.start N [.ref f]) H (.row :: List.replicate (N.length - 1) .no) [] := {
    ok := ⟨⟨e0, hc⟩, ok.2⟩
    bs := fun k hk => by
      rw [List.mem_singleton.mp hk]
      exact ⟨fun _ h => h, fun _ _ e _ => e⟩
    len := by simp [L2.start]
    fre := fun p hp => nomatch hp
    nd := .nil
    sl := fun i t' ht => by
      cases i with
      | zero =>
        cases ht
        rfl
      | succ i =>
        rw [List.getElem?_cons_succ] at ht
        rw [(List.mem_replicate.mp (List.mem_of_getElem? ht)).2]
        trivial }
  refine h2 Y m A Y ⟨[(H, W.X)], none⟩ _ H _ _ ⟨[], sr⟩ (M.wp_mono (fun fl hf => ?_) (fun c p hc => hc.elim) _ ((M.wp_bind _).mp w))
  cases fl with
  | nx ρ' => exact fun σ' H' ⟨L, s⟩ => hf .non H' s.ok.1.1 .non
  | rt d => exact fun v H' k hv => hf v H' k.1.1 hv
  | bk _ => exact hf.elim
  | rs _ _ _ _ => exact hf.elim
  | ct _ => exact hf.elim
theorem ge_lam {T : List (Addr × Str)} {P : Addr} {F : M D → M D} {t : XK → TE} {mb : Env → M D} (tab : ∀ H, W.I H → LamX.Tabs T H) (xt : ∀ H H', W.I H → But [P] H H' → LamX.Tabs T H' → Ext W H H') (h : ∀ E', GE W E' (t E') mb) : GE W E (tLamS T P (TTw W F) t) (fun ρ => (F (mb ρ)).calm) := fun Y σ H ρ Q o e w =>
  ⟨tab H o.1, fun H1 b tb => by
    have x := xt H H1 o.1 b tb
    exact ⟨Y, mb ρ, o.ext x, fun E' H' Q' o' x' w' => h E' Y σ H' ρ Q' o' ((e.up o x).up (o.ext x) x') w', M.wp_mono (fun d hd => hd.up x) (fun _ _ h => h) _ (M.wp_calm (E' := fun _ _ => False) _ w)⟩⟩
end
theorem lamB_tab {K : Fg} {ct : List Str → Option Addr} {cls : Nat → Addr} {ea : Str → Option Addr} {ef : Str → List Str} {S : Addr × List Int} {r P : Addr} {q : Str} : ∀ H, (lamB K ct cls ea ef S r P q).I H → LamX.Tabs [(P, q)] H := fun _ h => h.2
theorem lamB_ext {K : Fg} {ct : List Str → Option Addr} {cls : Nat → Addr} {ea : Str → Option Addr} {ef : Str → List Str} {S : Addr × List Int} {r P : Addr} {q : Str} : ∀ H H', (lamB K ct cls ea ef S r P q).I H → But [P] H H' → LamX.Tabs [(P, q)] H' → Ext (lamB K ct cls ea ef S r P q) H H' := fun H H' h b t => by
  refine ⟨fun c o e x => b c o e (by
    have : c ≠ P := fun z => by subst z; simp [lamB] at x
    simpa using this), ?_, t⟩
  obtain ⟨pos, rng, rest, h1, h2, h3, h4⟩ := h.1
  obtain ⟨ps, hP, _⟩ := h.2 (P, q) (by simp)
  have nP : ∀ b o, H b = some o → (∀ ps, o ≠ .tbl ps) → b ∉ [P] := fun b o e n m => by
    rw [List.mem_singleton.mp m, hP] at e
    exact n ps (Option.some.inj e).symm
  refine ⟨pos, rng, rest, b _ _ h1 (nP _ _ h1 fun _ z => nomatch z), ?_, h3, h4⟩
  rcases h2 with (h2 | ⟨o, h2⟩) | h2
  · exact .inl (.inl (b _ _ h2 (nP _ _ h2 fun _ z => nomatch z)))
  · exact .inl (.inr ⟨o, b _ _ h2 (nP _ _ h2 fun _ z => nomatch z)⟩)
  · exact .inr h2
def spLawP (K : Fg) (P0 : Addr) : Sp := fun vs H Q _ => ∃ (a : Addr) (ns : List Int), vs = [.ref a] ∧ SqL K H a (ns.map V.int) ∧ ns.length ≤ 63 ∧ H P0 = some (.tbl #[]) ∧ ∀ H', Q (.bl true) H'
abbrev qLam : Str := ("law" : Str) ++ ".<locals>." ++ "<lambda>"
theorem ok_lawL {P : Program} {w : World} {K : Fg} {mg : Str → Option Value} {base : Heap} {st : Stmt} {f c0 P0 : Addr} {N : List Str} {k : Nat} {a : Env → M Fl} {ct : List Str → Option Addr} {cls : Nat → Addr} {ea : Str → Option Addr} {ef : Str → List Str} {oc dc pm ctv kV : Value} {od an : Option Addr} {sl : Array (Option Value)}
    (lk : K.lookup f = some ⟨oc, od, .func (PySem.W.fnOf "law" "law" (defArgs st) (defBody st) (defScope st) .none kV dc pm an (.ref c0) ctv), sl⟩) (hcd : PySem.W.codeIn K (.ref c0) "law" = true) (S : FnScope N ["_law_script"] (defScope st)) (hN : 2 ≤ N.length)
    (hb : ∀ (A : Around) (outer : List PySem.Env) (s : Shared) (H : Hp) (E : XK), Room k (A.deeper (PyProof.Rows.envOfC "law" (defScope st) s.heap.objs.size f (.ref c0))) → ∃ t : (Addr × List Int) × Addr → TS, PSs (cxOf CX0 P w K mg base N "law" (defScope st) f (.ref c0) A outer s H E).nox (defBody st) (tSeq tRow fun D σ H => ∃ i, t i D σ H) ∧ ∀ i, GS (lamB K ct cls ea ef i.1 i.2 P0 qLam) Cc.E0 (t i) a)
    (hw : (lawM N.length a).wp (fun d => d = .bl true) (fun _ _ => False)) : FnOk P w K mg base CX0 (k + 1) f (PySem.W.fnOf "law" "law" (defArgs st) (defBody st) (defScope st) .none kV dc pm an (.ref c0) ctv) ["_law_script"] (spLawP K P0) := by
  refine fn_of lk hcd S (fun vs H Q E h => ?_) (fun A outer s H vs Q E hr h => ?_)
  · obtain ⟨b, ns, rfl, _⟩ := h
    rfl
  · obtain ⟨b, ns, rfl, hS, hlen, hP, hq⟩ := h
    obtain ⟨t, h1, h2⟩ := hb A outer s H E hr
    refine ⟨_, h1.nox, .ref b, rfl, by simp [sizeLine_eq], fun r hr0 => ?_⟩
    have e1 := Same.new (o := .lst [.ref b, .int 0, .int 0, .int 0]) hr0
    have hrow : Row K (b, ns) (upd H r (.lst [.ref b, .int 0, .int 0, .int 0])) r := ⟨0, 0, 0, upd_same, same_l e1 hS, ind_new hS hr0, hlen, by omega⟩
    have htab : LamX.Tabs [(P0, qLam)] (upd H r (.lst [.ref b, .int 0, .int 0, .int 0])) := LamX.Tabs.ext (fun p hp => by rw [List.mem_singleton.mp hp]; exact LamX.TabS.nil hP) e1
    have hcell : (upd H r (.lst [.ref b, .int 0, .int 0, .int 0])) r = some (.lst [.ref b, .int 0, .int 0, .int 0]) := upd_same
    have hcelP : (upd H r (.lst [.ref b, .int 0, .int 0, .int 0])) P0 = some (.tbl #[]) := e1 _ _ hP
    generalize upd H r (.lst [.ref b, .int 0, .int 0, .int 0]) = H1 at hrow hcell htab hcelP ⊢
    refine ⟨((b, ns), r), ?_⟩
    let W := lamB K ct cls ea ef (b, ns) r P0 qLam
    have sr : SR W W.X ⟨[(H1, W.X)], none⟩ ((L2.start N [.ref b]).set 1 (some (.ref r))) H1 (.no :: .row :: List.replicate (N.length - 2) .no) [] := {
      ok := ⟨⟨hrow, htab⟩, fun _ h => h, fun c hc => W.cell (H := H1) ⟨hrow, htab⟩ hc⟩
      bs := fun k hk => by
        rw [List.mem_singleton.mp hk]
        exact ⟨fun _ h => h, fun _ _ e _ => e⟩
      len := by simp [L2.start]; omega
      fre := fun p hp => nomatch hp
      nd := .nil
      sl := fun i t' ht => by
        match i with
        | 0 => cases ht; trivial
        | 1 =>
          cases ht
          show ((L2.start N [.ref b]).set 1 (some (.ref r)))[1]? = some (some (V.ref r))
          rw [List.getElem?_set_self]
          simp [L2.start]; omega
        | i + 2 =>
          rw [List.getElem?_cons_succ, List.getElem?_cons_succ] at ht
          rw [(List.mem_replicate.mp (List.mem_of_getElem? ht)).2]
          trivial }
    refine h2 ((b, ns), r) W.X ⟨[(H1, W.X)], none⟩ _ H1 _ _ ⟨[], sr⟩ (M.wp_mono (fun fl hf => ?_) (fun c p hc => hc.elim) _ ((M.wp_bind _).mp hw))
    cases fl with
    | nx ρ' => exact absurd (show D.non = D.bl true from hf) (by simp)
    | rt d =>
      obtain rfl : d = .bl true := hf
      exact fun v H' _ hv => by cases hv; exact hq H'
    | bk _ => exact hf.elim
    | rs _ _ _ _ => exact hf.elim
    | ct _ => exact hf.elim
end Mi

namespace Mi
open PySem L2 Cc
def gNames : List Nat → TGs
  | [] => gNil
  | i :: r => gCons (gName i) (gNames r)
def setAll : List Nat → List Sl → Env → Env
  | i :: is, t :: ts, ρ => setAll is ts (ρ.set i t)
  | _, _, ρ => ρ
def sTupX (is : List Nat) (ags : List Ag) : Env → M Fl := fun ρ => (agGo ags ρ).bind fun ts => .ret (.nx (setAll is ts ρ))
section
variable {K : Fg} {W : Wd K} {E : XK} {Y : Addr → Bool} {B : Bases}
theorem VRs.len {H : Hp} {L : List (Nat × Addr)} {is : List Nat} {vs : List V} {ts : List Sl} (h : VRs W Y H L is vs ts) : vs.length = is.length := by
  induction h with
  | nil => rfl
  | cons _ _ ih => simp [ih]
theorem names_run {H : Hp} {L : List (Nat × Addr)} {Dn : Ends} : ∀ {is : List Nat} {vs : List V} {ts : List Sl} {σ : L2.St} {ρ : Env}, VRs W Y H L is vs ts → SR W Y B σ H ρ L → FlP W Y B Dn (.nx (setAll is ts ρ)) → gNames is vs σ H Dn.nx
  | [], _, _, σ, ρ, h, s, w => by
    cases h
    exact ⟨rfl, w σ H ⟨L, s⟩⟩
  | i :: is, _, _, σ, ρ, h, s, w => by
    cases h with
    | cons h1 h2 => exact ⟨_, _, rfl, names_run h2 (s.putV h1) w⟩
theorem gs_tupX {is : List Nat} {ta : TA} {ags : List Ag} {n : Nat} (h : GX W E ta ags) (hn : is.length = n := by rfl) (hl : is.length = ags.length := by rfl) (hs : is.length ≤ 1000 := by decide) : GS W E (tAsg (tTupP ta) (gTup K n (gNames is))) (sTupX is ags) := fun Y B σ H ρ Dn ⟨L, s⟩ w => by
  refine gx_run h is H L _ _ hl s ((M.wp_bind _).mp w) fun ts vs H' L' hR s' hvs _ => ⟨by have := hvs.len; rw [sizeLine_eq]; omega, fun p o hp ho => ?_⟩
  have e := Ext.of s'.ok.1 (Same.new (o := .frz o (.tup vs)) hp)
  exact ⟨p, vs, rfl, .inl (.inr ⟨o, upd_same⟩), by rw [hvs.len, hn], names_run (hvs.up s' e) (s'.up e) hR⟩
end
end Mi

namespace Mi
open PySem Cc
theorem at0 {α : Type} {a : α} {l : List α} : (a :: l)[(0 : Nat)]? = some a := rfl
theorem lcGo_map {α : Type} {p : Pat} {c : Env → M Bool} {e : Env → M D} {ρ : Env} (f : α → D) (g : α → D) : ∀ (xs : List α), (∀ x ∈ xs, ∃ ρ1, p (f x) ρ = some ρ1 ∧ c ρ1 = .ret true ∧ e ρ1 = .ret (g x)) → lcGo p c e ρ (xs.map f) = .ret (xs.map g)
  | [], _ => rfl
  | x :: xs, h => by
    obtain ⟨ρ1, h1, h2, h3⟩ := h x (by simp)
    rw [List.map_cons, lcGo, h1]
    dsimp only
    rw [h2, M.bind_ret, if_pos rfl, h3, M.bind_ret, lcGo_map f g xs fun y hy => h y (List.mem_cons_of_mem _ hy), M.bind_ret, List.map_cons]
end Mi

namespace Mi
open PySem L2 Cc
structure Wp {α : Type} (m : M α) (Q : α → Prop) (E : Str → List D → Prop) : Prop where
  out : m.wp Q E
section
variable {a b : Env → M Fl} {c : Env → M Bool} {ρ ρ' : Env} {Q Q' : Fl → Prop} {E : Str → List D → Prop} {m : Env → M D}
theorem wp_next (h : a ρ = .ret (.nx ρ')) (k : Wp (b ρ') Q E) : Wp (sSeq a b ρ) Q E := ⟨by
  unfold sSeq
  rw [h, M.bind_ret]
  exact k.out⟩
theorem wp_drawn {s : Env → M Fl} {n : Int} {f : Int → M Fl} (h : s ρ = .draw n f) (hn : 0 < n ∧ n < 1073741824) (k : ∀ d : Int, 0 ≤ d → d < n → ∃ ρ', f d = .ret (.nx ρ') ∧ Wp (b ρ') Q E) : Wp (sSeq s b ρ) Q E := ⟨by
  unfold sSeq
  rw [h]
  refine ⟨hn, fun d h0 h1 => ?_⟩
  obtain ⟨ρ', e, w⟩ := k d h0 h1
  show ((f d).bind fun fl => fl.next b).wp Q E
  rw [e]
  exact w.out⟩
theorem wp_seq (h : Wp (a ρ) (fun fl => ∃ ρ', fl = .nx ρ' ∧ Wp (b ρ') Q E) E) : Wp (sSeq a b ρ) Q E := ⟨by
  unfold sSeq
  rw [M.wp_bind]
  refine M.wp_mono (fun fl hf => ?_) (fun _ _ h => h) _ h.out
  obtain ⟨ρ', rfl, w⟩ := hf
  exact w.out⟩
theorem wp_ret {fl : Fl} (h : a ρ = .ret fl) (k : Q fl) : Wp (a ρ) Q E := ⟨by rw [h]; exact k⟩
theorem Wp.mono (h : Wp (a ρ) Q E) (k : ∀ fl, Q fl → Q' fl) : Wp (a ρ) Q' E := ⟨M.wp_mono k (fun _ _ h => h) _ h.out⟩
theorem wp_rng {i : Nat} {n : Nat} {mn : Env → M D} (P : Env → Prop) (hn : mn ρ = .ret (.int n)) (hr : rgOk 0 n = true) (hp : P ρ) (h : ∀ (ρ : Env) (k : Nat), k < n → P ρ → Wp (a (ρ.set i (.dat (.int (k : Int))))) (fun fl => ∃ ρ', fl = .nx ρ' ∧ P ρ') E) (q : ∀ ρ, P ρ → Wp (b ρ) Q E) : Wp (sSeq (sFor (rg1 mn) (pName i) a) b ρ) Q E := by
  refine wp_seq ⟨?_⟩
  unfold sFor rg1
  rw [hn]
  simp only [M.bind_ret]
  rw [if_pos hr, M.bind_ret]
  unfold rgD
  rw [Int.sub_zero, Int.toNat_natCast]
  have key : ∀ (l : List Nat) (ρ : Env), (∀ x ∈ l, x < n) → P ρ → (forGo (pName i) a (l.map fun k : Nat => D.int (0 + (k : Int))) ρ).wp (fun fl => ∃ ρ', fl = .nx ρ' ∧ Wp (b ρ') Q E) E := by
    intro l
    induction l with
    | nil => exact fun ρ _ hp => ⟨ρ, rfl, q ρ hp⟩
    | cons x l ih =>
      intro ρ hl hp
      rw [List.map_cons, forGo]
      show ((a (ρ.set i (.dat (.int (0 + (x : Int)))))).bind _).wp _ _
      rw [M.wp_bind, Int.zero_add]
      refine M.wp_mono (fun fl hf => ?_) (fun _ _ h => h) _ (h ρ x (hl x (by simp)) hp).out
      obtain ⟨ρ', rfl, hp'⟩ := hf
      exact ih ρ' (fun y hy => hl y (List.mem_cons_of_mem _ hy)) hp'
  exact key _ ρ (fun x hx => List.mem_range.mp hx) hp
end
theorem law_of {n : Nat} {a : Env → M Fl} {E : Str → List D → Prop} (h : (a (.no :: .row :: List.replicate (n - 2) .no)).wp (fun fl => fl = .rt (.bl true)) E) : (lawM n a).wp (fun d => d = .bl true) E := by
  unfold lawM
  rw [M.wp_bind]
  exact M.wp_mono (fun fl h => by subst h; rfl) (fun _ _ h => h) _ h
theorem law_ofW {n : Nat} {a : Env → M Fl} {E : Str → List D → Prop} (h : Wp (a (.no :: .row :: List.replicate (n - 2) .no)) (fun fl => fl = .rt (.bl true)) E) : Wp (lawM n a) (fun d => d = .bl true) E := ⟨law_of h.out⟩
end Mi

namespace Mi
open PySem L2 Cc
section
variable {a b : Env → M Fl} {ρ : Env} {Q : Fl → Prop} {E : Str → List D → Prop}
theorem rg_ok' {n : Nat} (h : n ≤ 100000) : rgOk 0 (n : Int) = true := by
  unfold rgOk
  rw [decide_eq_true (show (-1000000 : Int) ≤ 0 by omega), decide_eq_true (show (0 : Int) ≤ 1000000 by omega), decide_eq_true (show (-1000000 : Int) ≤ (n : Int) by omega), decide_eq_true (show (n : Int) ≤ 1000000 by omega)]
  rfl
theorem rgD_nat (n : Nat) : rgD 0 (n : Int) = (List.range n).map fun k : Nat => D.int (k : Int) := by
  unfold rgD
  rw [Int.sub_zero, Int.toNat_natCast]
  exact List.map_congr_left fun k _ => by rw [Int.zero_add]
end
end Mi

namespace Mi
open PySem L2 Cc
abbrev XM := Env → M (Env × D)
section
variable {K : Fg} {W : Wd K} {E : XK}
section
variable {Y : Addr → Bool} {B : Bases} {σ : L2.St} {H H' : Hp} {ρ : Env} {L : List (Nat × Addr)}
end
def RetX (W : Wd K) (Y : Addr → Bool) (B : Bases) (σ : L2.St) (H : Hp) (L : List (Nat × Addr)) (Q : VK) : Env × D → Prop := fun r => ∀ v H', St (YL Y L) H H' → SR W Y B σ H' r.1 L → Dm W (YL Y L) H' v r.2 → Q v H'
def RetXA (W : Wd K) (Y : Addr → Bool) (B : Bases) (σ : L2.St) (H : Hp) (L : List (Nat × Addr)) (Q : List V → Hp → Prop) : Env × List D → Prop := fun r => ∀ vs H', St (YL Y L) H H' → SR W Y B σ H' r.1 L → Dms W (YL Y L) H' vs r.2 → Q vs H'
def JX (W : Wd K) (E : XK) (te : TE) (m : XM) : Prop := ∀ Y B σ H ρ L Q, SR W Y B σ H ρ L → (m ρ).wp (RetX W Y B σ H L Q) (ErrB W E B) → te σ H Q
def JXA (W : Wd K) (E : XK) (ta : TA) (m : Env → M (Env × List D)) : Prop := ∀ Y B σ H ρ L Q, SR W Y B σ H ρ L → (m ρ).wp (RetXA W Y B σ H L Q) (ErrB W E B) → ta σ H Q
section
variable {te tb : TE} {ta : TA} {a b m : XM} {t : Env → M (Env × List D)} {Y : Addr → Bool} {B : Bases} {σ : L2.St} {H H1 H2 : Hp} {ρ : Env} {L : List (Nat × Addr)}
theorem St.tr {Y : Addr → Bool} {H H1 H2 : Hp} (a : St Y H H1) (b : St Y H1 H2) : St Y H H2 := fun c o h hy => b c o (a c o h hy) hy
theorem Dm.st {v : V} {d : D} (h : Dm W (YL Y L) H v d) (st : St (YL Y L) H H1) : Dm W (YL Y L) H1 v d := Dn.up h (mask_go st fun _ h => .inl h)
theorem Dms.st {v : List V} {d : List D} (h : Dms W (YL Y L) H v d) (st : St (YL Y L) H H1) : Dms W (YL Y L) H1 v d := Dns.up h (mask_go st fun _ h => .inl h)
theorem JX.seq {α : Type} {f : Env × D → M α} {R : α → Prop} {Q : VK} (h : JX W E te m) (s : SR W Y B σ H ρ L) (w : ((m ρ).bind f).wp R (ErrB W E B))
    (k : ∀ r v H1, St (YL Y L) H H1 → SR W Y B σ H1 r.1 L → Dm W (YL Y L) H1 v r.2 → (f r).wp R (ErrB W E B) → Q v H1) : te σ H Q :=
  h Y B σ H ρ L Q s (M.wp_mono (fun r hr v H1 st s1 hv => k r v H1 st s1 hv hr) (fun _ _ h => h) _ ((M.wp_bind _).mp w))
theorem JXA.seq {α : Type} {f : Env × List D → M α} {R : α → Prop} {Q : List V → Hp → Prop} (h : JXA W E ta t) (s : SR W Y B σ H ρ L) (w : ((t ρ).bind f).wp R (ErrB W E B))
    (k : ∀ r v H1, St (YL Y L) H H1 → SR W Y B σ H1 r.1 L → Dms W (YL Y L) H1 v r.2 → (f r).wp R (ErrB W E B) → Q v H1) : ta σ H Q :=
  h Y B σ H ρ L Q s (M.wp_mono (fun r hr v H1 st s1 hv => k r v H1 st s1 hv hr) (fun _ _ h => h) _ ((M.wp_bind _).mp w))
end
section
variable {te tb : TE} {ta : TA} {a b m : XM} {t : Env → M (Env × List D)} {e : Env → M D} {g : Env → M (List D)}
end
end
end Mi

namespace Mi
open PySem L2 Cc
section
variable {K : Fg} {W : Wd K} {E : XK}
section
variable {Y Y' : Addr → Bool} {B : Bases} {σ : L2.St} {H H' : Hp} {ρ : Env} {L : List (Nat × Addr)}
theorem SR.sub (s : SR W Y' B σ H ρ L) (hs : ∀ a, Y a = true → Y' a = true) (hX : ∀ a, W.X a = true → Y a = true) : SR W Y B σ H ρ L where
  ok := ⟨s.ok.1, hX, fun a ha => s.ok.2.2 a (hs a ha)⟩
  bs := s.bs
  len := s.len
  fre := fun q hq => by
    obtain ⟨h1, h2, h3, h4⟩ := s.fre q hq
    refine ⟨h1, h2, ?_, h4⟩
    cases z : Y q.2 with
    | false => rfl
    | true => rw [hs _ z] at h3; cases h3
  nd := s.nd
  sl := fun j t ht => by
    have less : ∀ a, YL Y L a = true → YL Y' L a = true := fun a ha => by
      rcases YL_or ha with h | ⟨p, hp, rfl⟩
      · exact YL_y (hs a h)
      · exact YL_l hp
    have q := s.sl j t ht
    cases t with
    | no => trivial
    | dat d' => obtain ⟨w, h1, h2⟩ := q; exact ⟨w, h1, h2.less less⟩
    | own ds => obtain ⟨l, ys, h1, h2, h3, h4⟩ := q; exact ⟨l, ys, h1, h2, h3, h4.less less⟩
    | dkR _ => exact q.elim
    | dk ds => obtain ⟨l, ys, h1, h2, h3, h4⟩ := q; exact ⟨l, ys, h1, h2, h3, h4.less less⟩
    | dn w0 ks0 ds => obtain ⟨l, ys, h1, h2, h3, h4⟩ := q; exact ⟨l, ys, h1, h2, h3, DnQ.less h4 less⟩
    | slf k C ns ds => obtain ⟨x2, dx, fs, h1, hS2, h2, h3, h4, h5, h6⟩ := q; exact ⟨x2, dx, fs, h1, hS2, h2, h3, h4, h5, h6.less less⟩
    | row => exact q
end
end
end Mi

namespace Mi
open PySem L2 Cc
section
variable {K : Fg} {W : Wd K} {E : XK} {te : TE} {m : Env → M D}
end
section
variable {P : Program} {w : World} {K : Fg} {mg : Str → Option Value} {base : Heap} {W : Wd K}
end
end Mi

namespace Cc
open PySem L2 PyProof.Rows
section
variable {X : Cx} {CX : CXT} {n m : Nat} {mt : Str} {C : Addr} {ps : List Str} {sp : Sp} {E : XK} {o : Expr} {ta : TE} {pos apos : Pos}
end
end Cc
namespace Mi
open PySem L2 Cc
section
variable {K : Fg} {W : Wd K} {E : XK}
end
end Mi

namespace Mi
open PySem L2 Cc
def lcGo2 (p : Pat) (c : Env → M Bool) (mi1 : Env → M (List D)) (p1 : Pat) (c1 : Env → M Bool) (e : Env → M D) (vs1 : List Nat) (ρ : Env) : List D → M (List D)
  | [] => .ret []
  | d :: ds => match p d ρ with
    | none => .bad
    | some ρ1 => (c ρ1).bind fun k => if k then (mi1 ρ1).bind fun es => if es.length ≤ 1000 then (lcGo p1 c1 e (wipeE ρ1 vs1) es).bind fun xs => (lcGo2 p c mi1 p1 c1 e vs1 ρ ds).bind fun ys => .ret (xs ++ ys) else .bad else lcGo2 p c mi1 p1 c1 e vs1 ρ ds
def mLc2 (mi : Env → M (List D)) (p : Pat) (c : Env → M Bool) (mi1 : Env → M (List D)) (p1 : Pat) (c1 : Env → M Bool) (e : Env → M D) (vs vs1 : List Nat) : Env → M (List D) := fun ρ => (mi ρ).bind fun ds => if ds.length ≤ 10000 then lcGo2 p c mi1 p1 c1 e vs1 (wipeE ρ vs) ds else .bad
section
variable {K : Fg} {W : Wd K} {E : XK}
theorem gn_lc2 {wi wi1 : TI} {g g1 : TG} {tt tt1 : TT} {te : TE} {vs vs1 is is1 : List Nat} {mi mi1 : Env → M (List D)} {p p1 : Pat} {c c1 : Env → M Bool} {e : Env → M D} (hi : GI W E wi mi) (hp : GP K g p is) (hc : GT W E tt c) (hi1 : GI W E wi1 mi1) (hp1 : GP K g1 p1 is1) (hc1 : GT W E tt1 c1) (he : GE W E te e) (hv : ∀ i ∈ is, i ∈ vs := by decide) (hv1 : ∀ i ∈ is1, i ∈ vs1 := by decide) (hvv : ∀ i ∈ vs1, i ∈ vs := by decide) :
    GN W E (tLc2 wi g tt wi1 g1 tt1 te vs vs1) (mLc2 mi p c mi1 p1 c1 e vs vs1) := fun Y σ H ρ Q o r w =>
  hi.seq o r w (fun _ _ h => h) fun ds w1 J G Yw H2 e2 wk hG hY Dl hD => by
    split at w1
    case isFalse => exact w1.elim
    rename_i hz
    have o2 := o.ext e2
    have eD : Same H2 (upd H2 Dl (.lst [])) := Same.new hD
    have frD := W.new o2.1 hD
    have YD : Y Dl = false := o2.fresh hD
    have XDl : W.X Dl = false := o2.x YD
    have rr : EnvR W (mask W (also Y Dl) (upd H2 Dl (.lst []))) (wipe σ vs) (wipeE ρ vs) := env_wipe ((r.up o e2).same (mask_new o2 hD)) vs
    have Yd : ∀ {Z : Prop} {a : Addr}, also Y Dl a = true → (Y a = true → Z) → (a = Dl → Z) → Z := fun {Z a} h f k => by
      by_cases ea : a = Dl
      · exact k ea
      · exact f (by simpa [Mi.also, ea] using h)
    -- the outer walk
    let Pv : Nat → Hp → Prop := fun i H' => Ext W H2 H' ∧ Ok W (also Y Dl) H' ∧ EnvR W (mask W (also Y Dl) H') (wipe σ vs) (wipeE ρ vs) ∧ ∃ acc ds', H' Dl = some (.lst acc) ∧ ds'.length ≤ i * 1000 ∧ Dms W (also Y Dl) H' acc ds' ∧ (lcGo2 p c mi1 p1 c1 e vs1 (wipeE ρ vs) (ds.drop i)).wp (fun es => RetPn W Y H Q (ds' ++ es)) (ErrP W E H)
    have hG' : ∀ i H', Pv i H' → G H' := fun i H' q => hG H' (.ext q.1 o2.2.1)
    refine ⟨fun i m H' => m = ds.length - i ∧ i ≤ ds.length ∧ Pv i H', ⟨ds.length, by simp, Nat.zero_le _, .of o2.1 eD, o2.also hD, rr, [], [], upd_same, Nat.zero_le _, .nil, by simpa using w1⟩, ?_⟩
    rintro i m Ha ⟨rfl, hile, q⟩
    by_cases hlt : i < ds.length
    · refine .inr ⟨wk.goes i Ha hlt (hG' i Ha q), Pv (i + 1), fun H' p' => ⟨ds.length - (i + 1), by omega, rfl, hlt, p'⟩, fun x Hb y => ?_⟩
      have y := wk.yields i Ha x Hb hlt (hG' i Ha q) y
      obtain ⟨q1, q2, q3, acc, ds', q4, q5, q6, q7⟩ := q
      obtain ⟨eb, d, hd, hx⟩ := hY i Ha x Hb (also Y Dl) hlt (.ext q1 o2.2.1) q2 (fun a h => Yd h .inl fun z => by subst z; exact .inr hD) y
      have eb' : Ext W Ha Hb := .of q2.1 eb
      have ob := q2.ext eb'
      have e2b := q1.trans eb'
      have rb := q3.up q2 eb'
      have hdr : ds.drop i = d :: ds.drop (i + 1) := by
        obtain ⟨hl, hg⟩ := List.getElem?_eq_some_iff.mp hd
        rw [List.drop_eq_getElem_cons hl, hg]
      rw [hdr] at q7
      unfold lcGo2 at q7
      cases hpd : p d (wipeE ρ vs) with
      | none => rw [hpd] at q7; exact q7.elim
      | some ρ1 =>
        rw [hpd] at q7
        refine hp _ Hb x d (wipe σ vs) (wipeE ρ vs) ρ1 _ (mask_le (W := W) (Y := also Y Dl) (H := Hb)) hx hpd fun σ1 s1 => ⟨wipe_setR s1 hv |>.trans (wipe_wipe σ vs), ?_⟩
        have r1 := rb.sets s1
        have eHb := e2.trans e2b
        refine hc.seq (Er := ErrP W E H) ob r1 q7 (fun _ _ h => h.up eHb) fun k H3 e3 o3 r3 w3 => ?_
        have l3 : H3 Dl = some (.lst acc) := e3.1 _ _ (eb _ _ q4) XDl
        have d3 := (q6.up q2 eb').up ob e3
        have rb3 := rb.up ob e3
        cases k with
        | false =>
          refine (if_neg Bool.false_ne_true).mpr ⟨e2b.trans e3, o3, rb3, acc, ds', l3, by omega, d3, ?_⟩
          simpa using w3
        | true =>
          refine (if_pos rfl).mpr (hi1.seq (Er := ErrP W E H) o3 r3 (by simpa using w3) (fun _ _ h => h.up (eHb.trans e3)) fun es w4 J1 G1 Yw1 H4 e4 wk1 hG1 hY1 => ?_)
          split at w4
          case isFalse => exact w4.elim
          rename_i hes
          have o4 := o3.ext e4
          have r4 := r3.up o3 e4
          have e24 : Ext W H2 H4 := (e2b.trans e3).trans e4
          let Pv1 : Nat → Hp → Prop := fun j H' => Ext W H2 H' ∧ Ok W (also Y Dl) H' ∧ St (also Y Dl) H4 H' ∧ EnvR W (mask W (also Y Dl) H') (wipe σ vs) (wipeE ρ vs) ∧ EnvR W (mask W (also Y Dl) H') (wipe σ1 vs1) (wipeE ρ1 vs1) ∧ ∃ acc ds', H' Dl = some (.lst acc) ∧ ds'.length ≤ i * 1000 + j ∧ Dms W (also Y Dl) H' acc ds' ∧
            (lcGo p1 c1 e (wipeE ρ1 vs1) (es.drop j)).wp (fun xs => (lcGo2 p c mi1 p1 c1 e vs1 (wipeE ρ vs) (ds.drop (i + 1))).wp (fun ys => RetPn W Y H Q (ds' ++ (xs ++ ys))) (ErrP W E H)) (ErrP W E H)
          have hG1' : ∀ j H', Pv1 j H' → G1 H' := fun j H' q => hG1 H' q.2.2.1
          refine ⟨fun j m H' => m = es.length - j ∧ j ≤ es.length ∧ Pv1 j H', ⟨es.length, by simp, Nat.zero_le _, e24, o4, fun _ _ h _ => h, rb3.up o3 e4, env_wipe r4 vs1, acc, ds', e4.1 _ _ l3 XDl, by omega, d3.up o3 e4, ?_⟩, ?_⟩
          · rw [List.drop_zero]
            exact M.wp_mono (fun xs h => M.wp_mono (fun ys h => h) (fun _ _ h => h) _ ((M.wp_bind _).mp h)) (fun _ _ h => h) _ ((M.wp_bind _).mp w4)
          rintro j m Hc ⟨rfl, hjle, u⟩
          by_cases hjt : j < es.length
          · refine .inr ⟨wk1.goes j Hc hjt (hG1' j Hc u), Pv1 (j + 1), fun H' p' => ⟨es.length - (j + 1), by omega, rfl, hjt, p'⟩, fun x1 Hd y1 => ?_⟩
            have y1 := wk1.yields j Hc x1 Hd hjt (hG1' j Hc u) y1
            obtain ⟨u1, u2, u3, u4, u5, acc1, ds1, u6, u7, u8, u9⟩ := u
            obtain ⟨ed, d1, hd1, hx1⟩ := hY1 j Hc x1 Hd (also Y Dl) hjt u3 u2 (fun a h => .inl h) y1
            have ed' : Ext W Hc Hd := .of u2.1 ed
            have od := u2.ext ed'
            have hdr1 : es.drop j = d1 :: es.drop (j + 1) := by
              obtain ⟨hl, hg⟩ := List.getElem?_eq_some_iff.mp hd1
              rw [List.drop_eq_getElem_cons hl, hg]
            rw [hdr1] at u9
            unfold lcGo at u9
            cases hpd1 : p1 d1 (wipeE ρ1 vs1) with
            | none => rw [hpd1] at u9; exact u9.elim
            | some ρ2 =>
              rw [hpd1] at u9
              refine hp1 _ Hd x1 d1 (wipe σ1 vs1) (wipeE ρ1 vs1) ρ2 _ (mask_le (W := W) (Y := also Y Dl) (H := Hd)) hx1 hpd1 fun σ2 s2 => ⟨wipe_setR s2 hv1 |>.trans (wipe_wipe σ1 vs1), ?_⟩
              have r5 := (u5.up u2 ed').sets s2
              have eHd : Ext W H Hd := e2.trans (u1.trans ed')
              refine hc1.seq (Er := ErrP W E H) od r5 u9 (fun _ _ h => h.up eHd) fun k H5 e5 o5 r6 w5 => ?_
              have l5 : H5 Dl = some (.lst acc1) := e5.1 _ _ (ed _ _ u6) XDl
              have st5 : St (also Y Dl) H4 H5 := fun a o h z => e5.1 a o (ed a o (u3 a o h z)) (od.x z)
              cases k with
              | false =>
                refine (if_neg Bool.false_ne_true).mpr ⟨(u1.trans ed').trans e5, o5, st5, (u4.up u2 ed').up od e5, (u5.up u2 ed').up od e5, acc1, ds1, l5, by omega, (u8.up u2 ed').up od e5, ?_⟩
                simpa using w5
              | true =>
                refine (if_pos rfl).mpr (he.seq (Er := ErrP W E H) o5 r6 (by simpa using w5) (fun _ _ h => h.up (eHd.trans e5)) fun dv y' H6 e6 o6 r7 hy w6 => ?_)
                have l6 : H6 Dl = some (.lst acc1) := e6.1 _ _ l5 XDl
                have hds := ((u8.up u2 ed').up od e5).up o5 e6
                have lacc := u8.length
                have hi10 : i * 1000 ≤ 10000000 := by omega
                refine ⟨acc1, l6, by rw [sizeLine_eq]; omega, ?_⟩
                have mo : mask W (also Y Dl) (upd H6 Dl (.lst (acc1 ++ [y']))) = mask W (also Y Dl) H6 := mask_off (by simp [Mi.also])
                have I6 : W.I (upd H6 Dl (.lst (acc1 ++ [y']))) := W.off o6.1 frD l6 rfl
                have e26 := ((u1.trans ed').trans e5).trans e6
                refine ⟨⟨fun b u hb hx => ?_, I6⟩, ⟨I6, o6.2.1, fun a ha => ?_⟩, fun a o h z => ?_, by rw [mo]; exact ((u4.up u2 ed').up od e5).up o5 e6, by rw [mo]; exact ((u5.up u2 ed').up od e5).up o5 e6, acc1 ++ [y'], ds1 ++ [dv], upd_same, by simp; omega, by unfold Dms; rw [mo]; exact hds.app (.cons hy .nil), ?_⟩
                · rw [upd_ne (ne_of_none hb hD)]; exact e26.1 b u hb hx
                · by_cases ea : a = Dl
                  · subst ea; exact ⟨_, upd_same, rfl⟩
                  · rw [upd_ne ea]; exact o6.2.2 a ha
                · have : a ≠ Dl := by
                    rintro rfl
                    simp [Mi.also] at z
                  rw [upd_ne this]
                  exact e6.1 a o (st5 a o h z) (o5.x z)
                · exact M.wp_mono (fun xs h => by simpa using h) (fun _ _ h => h) _ ((M.wp_bind _).mp w6)
          · have ej : j = es.length := by omega
            subst ej
            refine .inl ⟨wk1.stops Hc (hG1' _ Hc u), ?_⟩
            obtain ⟨u1, u2, u3, u4, u5, acc1, ds1, u6, u7, u8, u9⟩ := u
            rw [List.drop_length] at u9
            refine ⟨u1, u2, u4, acc1, ds1, u6, by omega, u8, ?_⟩
            exact u9
    · have ei : i = ds.length := by omega
      subst ei
      refine .inl ⟨wk.stops Ha (hG' _ Ha q), ?_⟩
      obtain ⟨q1, q2, q3, acc, ds', q4, q5, q6, q7⟩ := q
      rw [List.drop_length] at q7
      have q7' : RetPn W Y H Q (ds' ++ []) := q7
      rw [List.append_nil] at q7'
      exact q7' Dl acc Ha (e2.trans q1) (e2.free o.1 hD) q4 q6
theorem ge_methMC {te : TE} {ta : TA} {a : Env → M D} {t : Env → M (List D)} {F : List D → M D} {p : List Str → Bool} {C : Addr} {m : Str} (hp : ∀ ns C', p ns = true → W.ct ns = some C' → C' = C) (ha : GE W E te a) (ht : GA W E ta t) : GE W E (tMeth C m (spM W F) [] Cc.E0 te ta) (mMeth p m (fun ds => (F ds).calm) a t) := fun Y σ H ρ Q o e w =>
  ha.seq o e w (fun _ _ h => h) fun d x H1 e1 o1 r1 hx w1 => by
    cases d with
    | ob C' ns ds =>
      dsimp only at w1
      split at w1
      · rename_i k
        simp only [Bool.and_eq_true] at k
        have hx' := hx
        obtain ⟨x, dx, fs, rfl, hx1, rfl, _⟩ := ob_at hp k.1 hx
        refine ⟨x, dx, fs, rfl, hx1, lookup_no k.2, ht.seq (Er := ErrP W E H) o1 r1 w1 (fun _ _ h => h.up e1) fun es vs H2 e2 o2 r2 hv w2 => ⟨Y, _, o2, by rw [List.append_nil]; exact .cons (hx'.up o1 e2) hv, M.wp_mono (fun d hd => hd.up (e1.trans e2)) (fun _ _ h => h.elim) _ (M.wp_calm (E' := fun _ _ => False) _ w2)⟩⟩
      · exact w1.elim
    | _ => exact w1.elim
end
end Mi

namespace Cc
open PySem PySem.Spec L2 PyProof.Rows
section
variable {X : Cx}
theorem ps_setDc {i : Nat} {y : Str} {py : Pos} {kx vx tg iter : Expr} {ifs : List Expr} {scope : Scope} {own : List (Str × Nat)} {pos spos : Pos} {wi : TI} {g : TG} {tt : TT} {tk tv : TE} (hc : X.calm = true) (hN : X.N.Nodup) (hy : X.N[i]? = some y) (hyl : X.env.scope.names.lookup y = some .local)
    (hsw : swapsWith (.DictComp kx vx [⟨tg, iter, ifs, 0⟩] scope pos) (some (.Name y py)) spos.line X.env = pure true) (hi : PI X tg iter wi) (ok : BlkOk X.N X.env.scope scope own)
    (hg : ∀ (s : Shared) (H : Hp) (C : Addr) (cl : List (Str × Addr)) (fp : List Addr), PG (X.blk s H scope (compEnvC scope cl C X.env) fp) tg g) (ht : ∀ (s : Shared) (H : Hp) (C : Addr) (cl : List (Str × Addr)) (fp : List Addr), PTs (X.blk s H scope (compEnvC scope cl C X.env) fp) ifs tt)
    (hk : ∀ (s : Shared) (H : Hp) (C : Addr) (cl : List (Str × Addr)) (fp : List Addr), PE (X.blk s H scope (compEnvC scope cl C X.env) fp) kx tk)
    (hv : ∀ (s : Shared) (H : Hp) (C : Addr) (cl : List (Str × Addr)) (fp : List Addr), PE (X.blk s H scope (compEnvC scope cl C X.env) fp) vx tv) (hs : ∀ x, foldedSetIterable iter X.env x = pure x := by intro _; rfl) :
    PS X (.Assign [.Name y py] (.DictComp kx vx [⟨tg, iter, ifs, 0⟩] scope pos) spos) (tAsg (tDc wi g tt tk tv (own.map (·.2))) (gName i)) := by
  refine ⟨fun pins s σ H D I h => ?_⟩
  rw [exec_Assign_Name_used _ _ _ _ hsw]
  refine wpAny_bind (wpAny_standAt (wpAny_bind ?_))
  show wpAny _ X.A (do let _ ← comprehension (.DictComp kx vx [⟨tg, iter, ifs, 0⟩] scope pos) scope X.env (firstIterPos [⟨tg, iter, ifs, 0⟩] pos) newDict false (eval iter X.env) (some (assign (.Name y py) X.env))) _ _ s
  have run := dc_core (Q := fun x H1 => gName i x σ H1 D.nx) (use := some (assign (.Name y py) X.env)) (Qf := fun _ s' => SP X pins D .next s') (pos := pos) (pos' := firstIterPos [⟨tg, iter, ifs, 0⟩] pos) hc hN I hi ok hg ht hk hv hs h fun L C s' m H' I' q hn f => by
    show wpAny _ _ (assign (.Name y py) X.env (.ref L)) _ _ _
    refine wpAny_assign_Name (store_ok2 (v := V.ref L) I' hN hy (.inl hyl) rfl (fun s2 I2 hst => ?_) (.inr hyl))
    obtain ⟨a, sb, ha⟩ := hst
    obtain ⟨f0, f1, f2, f3, f4, f5⟩ := f
    have ne : C ≠ a := ha.elim (fun z => z ▸ f1) fun z e => f4 y a z e.symm
    exact ⟨m, hn.sameBut sb ne, fun h3 sb3 => ⟨_, H', I2.turned (t' := s2.toks) (fun b o hb e => (sb3.2 b hb).trans e) f0 f1 f3 f4 f5, q⟩⟩
  exact wpAny_bind (thn run fun _ s' hq => wpAny_pure (wpAny_pure hq))
theorem sw_trueD {kx vx : Expr} {gs : List Comprehension} {scope : Scope} {pos py : Pos} {y : Str} {l : Nat} {env : Env} (hk : env.scope.kind = .function) (hy : env.scope.names.lookup y = some .local) (hl : (py.line == pos.line) = true)
    (ha : (scope.names.any fun (n, k) => n == y && (k == .local || k == .cell)) = false) : swapsWith (.DictComp kx vx gs scope pos) (some (.Name y py)) l env = pure true := by
  have ky : env.kindOf y = some .local := hy
  have hb : env.blockKind = .function := by
    unfold Env.blockKind
    rw [hk]
    rfl
  unfold swapsWith
  simp only [hb, ky, ha, Expr.pos, hl]
  rfl
end
end Cc

namespace Mi
open PySem L2 Cc
abbrev DK := List (Key × D)
theorem room1 {n : Nat} (h : n + 65 < cLine) : n + 1 < cLine := by omega
def keyD : D → Option Key
  | .int i => some (.inl i)
  | .str x => some (.inr x)
  | _ => none
def valD (kvs : DK) (k : Key) : Option D := (kvs.find? fun kv => decide (kv.1 = k)).map (·.2)
def putD (kvs : DK) (k : Key) (d : D) : DK := if (kvs.any fun kv => decide (kv.1 = k)) = true then kvs.map (fun kv => if kv.1 = k then (kv.1, d) else kv) else kvs ++ [(k, d)]
def dkAt (ρ : Env) (i : Nat) : M DK := match ρ[i]? with
  | some (.dkR kvs) => .ret kvs
  | _ => .bad
def mDGet (i : Nat) (a : Env → M D) : Env → M D := fun ρ => (dkAt ρ i).bind fun kvs => (a ρ).bind fun d => (M.ofO (keyD d)).bind fun k => M.ofO (valD kvs k)
def mDIn (i : Nat) (neg : Bool) (a : Env → M D) : Env → M D := fun ρ => (a ρ).bind fun d => (dkAt ρ i).bind fun kvs => (M.ofO (keyD d)).bind fun k => .ret (.bl (neg.xor (valD kvs k).isSome))
def dcGo (p : Pat) (c : Env → M Bool) (ek ev : Env → M D) (ρ : Env) : List D → DK → M DK
  | [], acc => .ret acc
  | d :: ds, acc => match p d ρ with
    | none => .bad
    | some ρ1 => (c ρ1).bind fun b => if b then (ek ρ1).bind fun y => (ev ρ1).bind fun z => (M.ofO (keyD y)).bind fun k => if acc.length < 100000 then dcGo p c ek ev ρ ds (putD acc k z) else .bad else dcGo p c ek ev ρ ds acc
def mDc (mi : Env → M (List D)) (p : Pat) (c : Env → M Bool) (ek ev : Env → M D) (vs : List Nat) : Env → M DK := fun ρ => (mi ρ).bind fun ds => dcGo p c ek ev (wipeE ρ vs) ds []
def sOwnK (i : Nat) (m : Env → M DK) : Env → M Fl := fun ρ => (m ρ).bind fun kvs => .ret (.nx (ρ.set i (.dk kvs)))
def sDPutM (i : Nat) (mk m : Env → M D) : Env → M Fl := fun ρ => match ρ[i]? with
  | some (.dk kvs) => (m (vB ρ)).bind fun d => (mk (vB ρ)).bind fun y => (M.ofO (keyD y)).bind fun k => if ok1 d = true ∧ kvs.length < 100000 then .ret (.nx (ρ.set i (.dk (putD kvs k d)))) else .bad
  | _ => .bad
section
variable {K : Fg} {W : Wd K} {E : XK} {Hm : Hp}
theorem key_v {v : V} {d : D} {k : Key} (h : Dn K Hm v d) (e : keyD d = some k) : v = kV k := by
  cases h with
  | int i => cases e; rfl
  | str x => cases e; rfl
  | _ => cases e
abbrev zipD (kvs : DK) (vs : List V) : List (Key × V) := (kvs.map (·.1)).zip vs
theorem val_some {k : Key} {d : D} : ∀ {kvs : DK} {vs : List V}, Dns K Hm vs (kvs.map (·.2)) → valD kvs k = some d → ∃ v, valV (zipD kvs vs) k = some v ∧ Dn K Hm v d
  | [], _, _, e => by cases e
  | (a, x) :: r, _, h, e => by
    cases h with
    | @cons v vs _ _ h1 h2 =>
      by_cases c : a = k
      · refine ⟨v, valV_pos (p := (a, v)) c, ?_⟩
        simp [valD, List.find?_cons, c] at e
        rw [← e]; exact h1
      · obtain ⟨w, q1, q2⟩ := val_some h2 (show valD r k = some d by simpa [valD, List.find?_cons, c] using e)
        exact ⟨w, (valV_neg (p := (a, v)) c).trans q1, q2⟩
theorem val_is {k : Key} : ∀ {kvs : DK} {vs : List V}, Dns K Hm vs (kvs.map (·.2)) → (valV (zipD kvs vs) k).isSome = (valD kvs k).isSome
  | [], _, h => by cases h; rfl
  | (a, x) :: r, _, h => by
    cases h with
    | @cons v vs _ _ h1 h2 =>
      by_cases c : a = k
      · have e1 : valV (zipD ((a, x) :: r) (v :: vs)) k = some v := valV_pos (p := (a, v)) c
        have e2 : valD ((a, x) :: r) k = some x := by simp [valD, List.find?_cons, c]
        rw [e1, e2]; rfl
      · have e1 : valV (zipD ((a, x) :: r) (v :: vs)) k = valV (zipD r vs) k := valV_neg (p := (a, v)) c
        have e2 : valD ((a, x) :: r) k = valD r k := by simp [valD, List.find?_cons, c]
        rw [e1, e2]; exact val_is h2
theorem any_is {k : Key} : ∀ {kvs : DK} {vs : List V}, Dns K Hm vs (kvs.map (·.2)) → ((zipD kvs vs).any fun kv => decide (kv.1 = k)) = kvs.any fun kv => decide (kv.1 = k)
  | [], _, h => by cases h; rfl
  | (a, x) :: r, _, h => by
    cases h with
    | @cons v vs _ _ h1 h2 =>
      show (decide (a = k) || (zipD r vs).any _) = (decide (a = k) || r.any _)
      rw [any_is h2]
theorem map_is {k : Key} {v0 : V} {d0 : D} (h0 : Dn K Hm v0 d0) : ∀ {kvs : DK} {vs : List V}, Dns K Hm vs (kvs.map (·.2)) → ∃ ws, (zipD kvs vs).map (fun kv => if kv.1 = k then (kv.1, v0) else kv) = zipD (kvs.map fun kv => if kv.1 = k then (kv.1, d0) else kv) ws ∧ Dns K Hm ws ((kvs.map fun kv => if kv.1 = k then (kv.1, d0) else kv).map (·.2))
  | [], _, h => by cases h; exact ⟨[], rfl, .nil⟩
  | (a, x) :: r, _, h => by
    cases h with
    | @cons v vs _ _ h1 h2 =>
      obtain ⟨ws, q1, q2⟩ := map_is h0 h2
      by_cases c : a = k
      · refine ⟨v0 :: ws, ?_, ?_⟩
        · simp only [zipD, List.map_cons, List.zip_cons_cons, if_pos c] at q1 ⊢
          rw [q1]
        · simp only [List.map_cons, if_pos c]
          exact .cons h0 q2
      · refine ⟨v :: ws, ?_, ?_⟩
        · simp only [zipD, List.map_cons, List.zip_cons_cons, if_neg c] at q1 ⊢
          rw [q1]
        · simp only [List.map_cons, if_neg c]
          exact .cons h1 q2
theorem put_is {k : Key} {v0 : V} {d0 : D} (h0 : Dn K Hm v0 d0) {kvs : DK} {vs : List V} (h : Dns K Hm vs (kvs.map (·.2))) : ∃ ws, putK (zipD kvs vs) k v0 = zipD (putD kvs k d0) ws ∧ Dns K Hm ws ((putD kvs k d0).map (·.2)) := by
  unfold putK putD
  rw [any_is h]
  by_cases c : (kvs.any fun kv => decide (kv.1 = k)) = true
  · rw [if_pos c, if_pos c]; exact map_is h0 h
  · rw [if_neg c, if_neg c]
    refine ⟨vs ++ [v0], ?_, by rw [List.map_append]; exact h.app (.cons h0 .nil)⟩
    have hl := h.length
    rw [List.length_map] at hl
    unfold zipD
    rw [List.map_append, List.zip_append (by simp [hl])]
    rfl
theorem dkAt_wp {ρ : Env} {i : Nat} {R : DK → Prop} {Er} (h : (dkAt ρ i).wp R Er) : ∃ kvs, ρ[i]? = some (.dkR kvs) ∧ R kvs := by
  unfold dkAt at h
  split at h
  · rename_i kvs e; exact ⟨kvs, e, h⟩
  · exact h.elim
theorem dk_len {kvs : DK} {vs : List V} (h : Dns K Hm vs (kvs.map (·.2))) : (zipD kvs vs).length = kvs.length := by
  have := h.length
  rw [List.length_map] at this
  simp [zipD, this]
theorem ge_dget {i : Nat} {te : TE} {a : Env → M D} (ha : GE W E te a) : GE W E (tDGet (tVar i) te) (mDGet i a) := fun Y σ H ρ Q o e w => by
  obtain ⟨kvs, hi, w1⟩ := dkAt_wp ((M.wp_bind _).mp w)
  obtain ⟨l, vs, h1, h2, h3⟩ := e.2.2.2 i kvs hi
  refine ⟨.ref l, h1, ha.seq o e w1 (fun _ _ h => h) fun d y H1 e1 o1 r1 hy w2 => ?_⟩
  obtain ⟨k, hk, w3⟩ := M.wp_ofO ((M.wp_bind _).mp w2)
  obtain ⟨z, hz, q⟩ := M.wp_ofO w3
  obtain ⟨l', vs', g1, g2, g3⟩ := r1.2.2.2 i kvs hi
  rw [h1] at g1
  cases g1
  obtain ⟨v, q1, q2⟩ := val_some g3 hz
  have := key_v hy hk
  subst this
  exact ⟨l, v, rfl, by rw [← q1]; exact DGet.k (mask_le _ _ g2), q v H1 e1 q2⟩
theorem ge_dnin {i : Nat} {te : TE} {a : Env → M D} (ha : GE W E te a) : GE W E (tDNotIn te (tVar i)) (mDIn i true a) := fun Y σ H ρ Q o e w =>
  ha.seq o e w (fun _ _ h => h) fun d y H1 e1 o1 r1 hy w2 => by
    obtain ⟨kvs, hi, w1⟩ := dkAt_wp ((M.wp_bind _).mp w2)
    obtain ⟨k, hk, w3⟩ := M.wp_ofO ((M.wp_bind _).mp w1)
    obtain ⟨l, vs, h1, h2, h3⟩ := r1.2.2.2 i kvs hi
    have := key_v hy hk
    subst this
    exact ⟨.ref l, h1, l, _, rfl, DGet.k (mask_le _ _ h2), by rw [val_is h3]; exact w3 _ H1 e1 (by simpa using Cc.Dn.bl _)⟩
theorem gs_dput {i : Nat} {tk te : TE} {mk m : Env → M D} (hk : GE W E tk mk) (h : GE W E te m) : GS W E (sDPut (tVar i) tk te) (sDPutM i mk m) := fun Y B σ H ρ Dn ⟨L, s⟩ w => by
  unfold sDPutM at w
  split at w
  case h_2 => exact w.elim
  rename_i kvs hi
  refine h.runB s w fun d v H1 s1 hv w1 => ?_
  obtain ⟨l, vs, h1, h2, h3, h4⟩ := s1.sl i _ hi
  refine ⟨.ref l, h1, hk.seq s1.ok s1.envB w1 (fun _ _ h => h.at' s1) fun y u H2 e2 o2 r2 hu w2 => ?_⟩
  have s2 := s1.up e2
  obtain ⟨k, hkk, w3⟩ := M.wp_ofO ((M.wp_bind _).mp w2)
  split at w3
  case isFalse => exact w3.elim
  rename_i ko
  obtain ⟨l', vs', g1, g2, g3, g4⟩ := s2.sl i _ hi
  rw [h1] at g1
  cases g1
  have ek := key_v hu hkk
  subst ek
  have hv2 := ok1_see s2 (hv.up s1.ok e2) ko.1
  obtain ⟨ws, p1, p2⟩ := put_is (k := k) hv2 g4
  have hl := dk_len g4
  refine ⟨l, _, rfl, DPut.k g3 (by rw [hl, sizeLine_eq]; omega), w3 σ _ ⟨L, s2.putO g2 g3 rfl rfl ⟨l, ws, h1, g2, by rw [upd_same, p1], ?_⟩⟩⟩
  unfold Dms
  rw [mask_off (YL_l g2)]
  exact p2
theorem SR.ownK {Y : Addr → Bool} {B : Bases} {σ : L2.St} {H H' : Hp} {ρ : Env} {L : List (Nat × Addr)} (s : SR W Y B σ H ρ L) (i : Nat) {p : Addr} {vs : List V} {kvs : DK} (e : Ext W H H') (hp : H p = none) (hx : H' p = some (.dK (zipD kvs vs))) (hd : Dms W (also (YL Y L) p) H' vs (kvs.map (·.2))) : SR W Y B (σ.set i (some (.ref p))) H' (ρ.set i (.dk kvs)) ((i, p) :: L) where
  ok := s.ok.ext e
  bs := fun k hk => ⟨(s.bs k hk).1, (s.bs k hk).2.trans (.ext e (s.bs k hk).1)⟩
  len := by simp [s.len]
  fre := fun q hq => by
    rcases List.mem_cons.mp hq with rfl | hq
    · refine ⟨fun k hk => ?_, W.new s.ok.1 hp, s.ok.fresh hp, _, hx, rfl⟩
      cases z : k.2 p with
      | true => exact .inr rfl
      | false =>
        refine .inl ?_
        cases y : k.1 p with
        | none => rfl
        | some o => rw [(s.bs k hk).2 p o y z] at hp; cases hp
    · obtain ⟨h1, h2, h3, ys, hy, ho⟩ := s.fre q hq
      exact ⟨h1, h2, h3, ys, e.1 _ _ hy (s.lx hq), ho⟩
  nd := by
    rw [List.map_cons, List.nodup_cons]
    refine ⟨fun z => ?_, s.nd⟩
    obtain ⟨q, hq, e⟩ := List.mem_map.mp z
    obtain ⟨_, _, _, ys, hy, _⟩ := s.fre q hq
    rw [show q.2 = p from e, hp] at hy
    cases hy
  sl := fun j t ht => by
    rw [YL_also]
    have hs : Same (mask W (YL Y L) H) (mask W (also (YL Y L) p) H') := mask_go (.ext e s.okL.2.1) fun a ha => by
      by_cases ea : a = p
      · subst ea; exact .inr hp
      · exact .inl (by simpa [also, ea] using ha)
    rcases getElem?_set' ht with ⟨rfl, hl, rfl⟩ | ⟨hne, h⟩
    · exact ⟨p, vs, by simp [s.len, hl], by simp, hx, hd⟩
    · have q := s.sl j t h
      have e' : (σ.set i (some (.ref p)))[j]? = σ[j]? := by simp [List.getElem?_set, hne]
      cases t with
      | no => trivial
      | dat d' => obtain ⟨w, h1, h2⟩ := q; exact ⟨w, by rw [e']; exact h1, Dn.up h2 hs⟩
      | own ds => obtain ⟨l, ys, h1, h2, h3, h4⟩ := q; exact ⟨l, ys, by rw [e']; exact h1, List.mem_cons_of_mem _ h2, e.1 _ _ h3 (s.lx h2), Dns.up h4 hs⟩
      | dk ds => obtain ⟨l, ys, h1, h2, h3, h4⟩ := q; exact ⟨l, ys, by rw [e']; exact h1, List.mem_cons_of_mem _ h2, e.1 _ _ h3 (s.lx h2), Dns.up h4 hs⟩
      | dn w0 ks0 ds => obtain ⟨l, ys, h1, h2, h3, h4⟩ := q; exact ⟨l, ys, by rw [e']; exact h1, List.mem_cons_of_mem _ h2, e.1 _ _ h3 (s.lx h2), DnQ.up h4 hs⟩
      | dkR _ => exact q.elim
      | slf k C ns ds => obtain ⟨x2, dx, fs, h1, hS, h2, h3, h4, h5, h6⟩ := q; exact ⟨x2, dx, fs, by rw [e']; exact h1, hS, List.mem_cons_of_mem _ h2, e.1 _ _ h3 (s.lx h2), h4, h5, Dns.up h6 hs⟩
      | row => exact e'.trans q
def RetPk (W : Wd K) (Y : Addr → Bool) (H : Hp) (Q : VK) : DK → Prop := fun kvs => ∀ p vs H', Ext W H H' → H p = none → H' p = some (.dK (zipD kvs vs)) → Dms W (also Y p) H' vs (kvs.map (·.2)) → Q (.ref p) H'
def GNK (W : Wd K) (E : XK) (te : TE) (m : Env → M DK) : Prop := ∀ Y σ H ρ Q, Ok W Y H → EnvR W (mask W Y H) σ ρ → (m ρ).wp (RetPk W Y H Q) (ErrP W E H) → te σ H Q
theorem gs_ownK {i : Nat} {te : TE} {m : Env → M DK} (h : GNK W E te m) : GS W E (tAsg te (gName i)) (sOwnK i m) := fun Y B σ H ρ Dn ⟨L, s⟩ w =>
  h _ σ H ρ _ s.okL s.envA (M.wp_mono (fun kvs (hd : FlP W Y B Dn (.nx (ρ.set i (.dk kvs)))) (p : Addr) (vs : List V) H' e hp hx hds => hd _ H' ⟨_, s.ownK i (p := p) e hp hx hds⟩) (fun _ _ h => h.at' s) _ ((M.wp_bind _).mp w))
theorem gk_dc {wi : TI} {g : TG} {tt : TT} {tk tv : TE} {vs is : List Nat} {mi : Env → M (List D)} {p : Pat} {c : Env → M Bool} {ek ev : Env → M D} (hi : GI W E wi mi) (hp : GP K g p is) (hc : GT W E tt c) (hk : GE W E tk ek) (he : GE W E tv ev) (hv : ∀ i ∈ is, i ∈ vs := by decide) : GNK W E (tDc wi g tt tk tv vs) (mDc mi p c ek ev vs) := fun Y σ H ρ Q o r w =>
  hi.seq o r w (fun _ _ h => h) fun ds w1 J G Yw H2 e2 wk hG hY Dl hD => by
    have o2 := o.ext e2
    have eD : Same H2 (upd H2 Dl (.dK [])) := Same.new hD
    have frD := W.new o2.1 hD
    have YD : Y Dl = false := o2.fresh hD
    have XDl : W.X Dl = false := o2.x YD
    have oD : Ok W (also Y Dl) (upd H2 Dl (.dK [])) := ⟨W.up o2.1 eD, fun a h => also_r a (o2.2.1 a h), fun a h => by
      by_cases ea : a = Dl
      · subst ea; exact ⟨_, upd_same, rfl⟩
      · obtain ⟨u, hu, iu⟩ := o2.2.2 a (by simpa [Mi.also, ea] using h)
        exact ⟨u, by rw [upd_ne ea]; exact hu, iu⟩⟩
    have mnew : Same (mask W Y H2) (mask W (also Y Dl) (upd H2 Dl (.dK []))) := mask_go (fun a o h _ => eD a o h) fun a ha => by
      by_cases ea : a = Dl
      · subst ea; exact .inr hD
      · exact .inl (by simpa [Mi.also, ea] using ha)
    have rr : EnvR W (mask W (also Y Dl) (upd H2 Dl (.dK []))) (wipe σ vs) (wipeE ρ vs) := env_wipe ((r.up o e2).same mnew) vs
    let Pv : Nat → Hp → Prop := fun i H' => Ext W H2 H' ∧ Ok W (also Y Dl) H' ∧ EnvR W (mask W (also Y Dl) H') (wipe σ vs) (wipeE ρ vs) ∧ ∃ acc xs, H' Dl = some (.dK (zipD acc xs)) ∧ Dms W (also Y Dl) H' xs (acc.map (·.2)) ∧ (dcGo p c ek ev (wipeE ρ vs) (ds.drop i) acc).wp (RetPk W Y H Q) (ErrP W E H)
    have hG' : ∀ i H', Pv i H' → G H' := fun i H' q => hG H' (.ext q.1 o2.2.1)
    refine ⟨fun i m H' => m = ds.length - i ∧ i ≤ ds.length ∧ Pv i H', ⟨ds.length, by simp, Nat.zero_le _, .of o2.1 eD, oD, rr, [], [], upd_same, .nil, by simpa using w1⟩, ?_⟩
    rintro i m Ha ⟨rfl, hile, q⟩
    by_cases hlt : i < ds.length
    · refine .inr ⟨wk.goes i Ha hlt (hG' i Ha q), Pv (i + 1), fun H' p' => ⟨ds.length - (i + 1), by omega, rfl, hlt, p'⟩, fun x Hb y => ?_⟩
      have y := wk.yields i Ha x Hb hlt (hG' i Ha q) y
      obtain ⟨q1, q2, q3, acc, xs, q4, q6, q7⟩ := q
      obtain ⟨eb, d, hd, hx⟩ := hY i Ha x Hb (also Y Dl) hlt (.ext q1 o2.2.1) q2 (fun a h => by
        by_cases ea : a = Dl
        · subst ea; exact .inr hD
        · exact .inl (by simpa [Mi.also, ea] using h)) y
      have eb' : Ext W Ha Hb := .of q2.1 eb
      have ob := q2.ext eb'
      have e2b := q1.trans eb'
      have rb := q3.up q2 eb'
      have hdr : ds.drop i = d :: ds.drop (i + 1) := by
        obtain ⟨hl, hg⟩ := List.getElem?_eq_some_iff.mp hd
        rw [List.drop_eq_getElem_cons hl, hg]
      rw [hdr] at q7
      unfold dcGo at q7
      cases hpd : p d (wipeE ρ vs) with
      | none => rw [hpd] at q7; exact q7.elim
      | some ρ1 =>
        rw [hpd] at q7
        refine hp _ Hb x d (wipe σ vs) (wipeE ρ vs) ρ1 _ (mask_le (W := W) (Y := also Y Dl) (H := Hb)) hx hpd fun σ1 s1 => ⟨wipe_setR s1 hv |>.trans (wipe_wipe σ vs), ?_⟩
        have r1 := rb.sets s1
        have eHb := e2.trans e2b
        refine hc.seq (Er := ErrP W E H) ob r1 q7 (fun _ _ h => h.up eHb) fun k H3 e3 o3 r3 w3 => ?_
        have l3 : H3 Dl = some (.dK (zipD acc xs)) := e3.1 _ _ (eb _ _ q4) XDl
        have d3 := (q6.up q2 eb').up ob e3
        have rb3 := rb.up ob e3
        cases k with
        | false =>
          refine (if_neg Bool.false_ne_true).mpr ⟨e2b.trans e3, o3, rb3, acc, xs, l3, d3, ?_⟩
          simpa using w3
        | true =>
          refine (if_pos rfl).mpr (hk.seq (Er := ErrP W E H) o3 r3 (by simpa using w3) (fun _ _ h => h.up (eHb.trans e3)) fun dy y' H4 e4 o4 r4 hy w4 => he.seq (Er := ErrP W E H) o4 r4 w4 (fun _ _ h => h.up ((eHb.trans e3).trans e4)) fun dz z' H5 e5 o5 r5 hz w5 => ?_)
          obtain ⟨k, hkk, w6⟩ := M.wp_ofO ((M.wp_bind _).mp w5)
          split at w6
          case isFalse => exact w6.elim
          rename_i hlen
          have ekk := key_v hy hkk
          subst ekk
          have l5 : H5 Dl = some (.dK (zipD acc xs)) := e5.1 _ _ (e4.1 _ _ l3 XDl) XDl
          have d5 := (d3.up o3 e4).up o4 e5
          obtain ⟨ws, p1, p2⟩ := put_is (k := k) hz d5
          have hl := dk_len d5
          refine ⟨_, k, rfl, l5, by rw [hl, sizeLine_eq]; omega, ?_⟩
          have mo : mask W (also Y Dl) (upd H5 Dl (.dK (putK (zipD acc xs) k z'))) = mask W (also Y Dl) H5 := mask_off (by simp [Mi.also])
          have I5 : W.I (upd H5 Dl (.dK (putK (zipD acc xs) k z'))) := W.off o5.1 frD l5 rfl
          have e25 := ((e2b.trans e3).trans e4).trans e5
          refine ⟨⟨fun b u hb hx => ?_, I5⟩, ⟨I5, o5.2.1, fun a ha => ?_⟩, by rw [mo]; exact (rb3.up o3 e4).up o4 e5, putD acc k dz, ws, by rw [upd_same, p1], by unfold Dms; rw [mo]; exact p2, w6⟩
          · rw [upd_ne (ne_of_none hb hD)]; exact e25.1 b u hb hx
          · by_cases ea : a = Dl
            · subst ea; exact ⟨_, upd_same, rfl⟩
            · rw [upd_ne ea]; exact o5.2.2 a ha
    · have ei : i = ds.length := by omega
      subst ei
      refine .inl ⟨wk.stops Ha (hG' _ Ha q), ?_⟩
      obtain ⟨q1, q2, q3, acc, xs, q4, q6, q7⟩ := q
      rw [List.drop_length] at q7
      have q7' : RetPk W Y H Q acc := q7
      exact q7' Dl xs Ha (e2.trans q1) (e2.free o.1 hD) q4 q6
end
end Mi

namespace Cc
open PySem PySem.Spec L2 PyProof.Rows
section
variable {X : Cx} {pins : List (Addr × Obj)} {σ : L2.St} {H : Hp} {s s' : Shared} {W : WX} {E : XK}
end
section
variable {X : Cx} {W : WX}
end
end Cc

namespace CcK
open PySem PySem.Spec L2 Cc PyProof.Rows PySem.W
section
variable {X : Cx} {pins : List (Addr × Obj)} {σ : L2.St} {s : Shared}
end
section
variable {X : Cx} {n m : Nat} {f : Addr} {fd : FuncData} {ps : List Str} {sp : Sp}
end
end CcK

namespace Mi
open PySem L2 Cc PySem.W
section
variable {K : Fg} {W : Wd K} {E : XK} {te : TE} {a : Env → M D}
end
end Mi

namespace Mi
open PySem L2 Cc PySem.W
section
variable {K : Fg} {W : Wd K} {E : XK} {ta tb te : TE} {a b m : Env → M D}
end
end Mi
namespace Mi
open PySem L2 Cc
end Mi

namespace Mi
open PySem L2 Cc PySem.W
section
variable {K : Fg} {W : Wd K} {E : XK} {te : TE} {m : Env → M D}
end
end Mi

namespace Cc
open PySem PySem.Spec PyProof.Rows
section
variable {prog : Program} {w : World} {A : Around} {R : Result → Shared → Prop} {I : Addr} {fp wr : List Addr} {G : Array GenState → Array GenState → Prop} {n : Nat} {P : Nat → Value → Prop} {St : Nat → Shared → Prop}
end
section
variable {prog : Program} {w : World} {A : Around} {E : Value → Shared → Prop} {s : Shared}
end
end Cc
namespace Cc
open PySem PySem.Spec L2 PyProof.Rows
end Cc

namespace Mi
open PySem L2 Cc PySem.W
def strsD : List D → Option (List Str)
  | [] => some []
  | .str x :: ds => (strsD ds).map (x :: ·)
  | _ :: _ => none
theorem strs_dns {K : Fg} {H : Hp} : ∀ {vs : List V} {ds : List D} {xs : List Str}, Dns K H vs ds → strsD ds = some xs → vs = xs.map V.str
  | _, _, xs, .nil, h => by
    cases h
    rfl
  | _, d :: ds, xs, .cons q t, h => by
    cases d with
    | str y =>
      cases q
      rw [strsD] at h
      obtain ⟨zs, h1, rfl⟩ := Option.map_eq_some_iff.mp h
      rw [strs_dns t h1]
      rfl
    | _ => cases h
section
variable {K : Fg} {W : Wd K} {E : XK} {ta : TE} {a : Env → M D}
end
end Mi

namespace Cc
open PySem PySem.Spec L2 PyProof.Rows
theorem reads_strs (h : Heap) : ∀ (xs : List Str) (us : List Value), Vals (xs.map V.str) us → ReadsAll h us (xs.map PyData.str) []
  | [], us, r => by
    cases r
    exact .nil
  | x :: xs, us, r => by
    rw [List.map_cons] at r
    cases r with
    | cons r t =>
      obtain ⟨k, rfl⟩ := r
      exact ReadsAll.cons (as := []) (.str x k) (reads_strs h xs _ t)
theorem depth_strs : ∀ xs : List Str, PyData.depthAll (xs.map PyData.str) = 0
  | [] => rfl
  | x :: xs => by simp [PyData.depthAll, PyData.depth, depth_strs xs]
theorem plain_strs : ∀ xs : List Str, PyData.plainAll (xs.map PyData.str) = true
  | [] => rfl
  | x :: xs => by
    have := plain_strs xs
    rw [List.map_cons]
    exact (by simpa [PyData.plainAll, PyData.plain] using this)
theorem place_strs {x : Str} : ∀ {xs : List Str}, x ∈ xs → SeqAt.dataPlace (xs.map PyData.str) (.str x) = some (xs.idxOf x)
  | [], h => by cases h
  | y :: xs, h => by
    unfold SeqAt.dataPlace
    rw [List.map_cons, List.findIdx?_cons]
    by_cases e : y = x
    · subst e
      simp [PyData.eqv]
    · have h' : x ∈ xs := by
        rcases List.mem_cons.mp h with h | h
        · exact absurd h.symm e
        · exact h
      have ih := place_strs h'
      unfold SeqAt.dataPlace at ih
      have e1 : PyData.eqv (.str y) (.str x) = false := by simp [PyData.eqv, e]
      have e2 : (y == x) = false := by simpa using e
      rw [e1, ih, List.idxOf_cons, e2]
      rfl
def rRemS : V → List V → Hp → VK → Prop := fun x xs H Q => ∃ (l : Addr) (ns : List Str) (k : Str), x = .ref l ∧ xs = [.str k] ∧ H l = some (.lst (ns.map V.str)) ∧ k ∈ ns ∧ Q .non (upd H l (.lst ((ns.map V.str).eraseIdx (ns.idxOf k))))
theorem mt_removeS {X : Cx} (hu : X.A.units + 64 < cLine) : MtM X "list.remove" rRemS := by
  intro pins s σ H x xs v us Q I rx rxs h
  obtain ⟨l, ns, k, rfl, rfl, hH, hk, q⟩ := h
  cases rx
  obtain ⟨u, rfl, ru⟩ := rxs.one
  obtain ⟨t, rfl⟩ := ru
  obtain ⟨z, its, n, r, hl, e⟩ := I.lstM hH
  have hd := depth_strs ns
  refine SeqAt.remove_list_data (d := .str k) (xs := ns.map PyData.str) (as := []) (bs := []) ⟨_, e, rfl, n, rfl⟩ (by simpa using reads_strs s.heap ns its r) (.str k t) (plain_strs ns) rfl (by rw [hd]; show X.A.units + 1 + min 0 _ < cLine; omega) (place_strs hk) (by rw [List.size_toArray]; rw [← hl]; exact z) ?_
  refine ⟨.non, _, I.lset (its' := its.eraseIdx (ns.idxOf k)) (t' := s.toks) hH e ?_ (r.eraseIdx _) ?_, rfl, q⟩
  · show its.toArray.eraseIdxIfInBounds _ = (its.eraseIdx _).toArray
    rw [List.eraseIdxIfInBounds_toArray]
  · rw [List.length_eraseIdx]
    split <;> omega
end Cc

namespace Mi
open PySem L2 Cc PySem.W
def sRemS (i : Nat) (m : Env → M D) : Env → M Fl := fun ρ => match ρ[i]? with
  | some (.own ds) => (m (vB ρ)).bind fun d => match d with
    | .str x => match strsD ds with
      | some xs => if x ∈ xs then .ret (.nx (ρ.set i (.own (ds.eraseIdx (xs.idxOf x))))) else .bad
      | none => .bad
    | _ => .bad
  | _ => .bad
section
variable {K : Fg} {W : Wd K} {E : XK} {te : TE} {m : Env → M D}
theorem gs_remS {i : Nat} (h : GE W E te m) : GS W E (tDrop (tBM K "list" rRemS (tVar i) (tCons te tNil))) (sRemS i m) := fun Y B σ H ρ Dn ⟨L, s⟩ w => by
  unfold sRemS at w
  split at w
  case h_2 => exact w.elim
  rename_i ds hi
  obtain ⟨l, xs, h1, h2, h3, h4⟩ := s.ownAt hi
  refine ⟨.ref l, h1, .inl ⟨rfl, xs, SqL.of h3⟩, h.runB s w fun d v H1 s1 hv w1 => ?_⟩
  obtain ⟨l', xs', g1, g2, g3, g4⟩ := s1.ownAt hi
  rw [h1] at g1
  cases g1
  cases d with
  | str x =>
    cases hv
    dsimp only at w1
    cases hz : strsD ds with
    | none => rw [hz] at w1; exact w1.elim
    | some ys =>
      rw [hz] at w1
      dsimp only at w1
      split at w1
      case isFalse => exact w1.elim
      rename_i hx
      have e := strs_dns g4 hz
      subst e
      exact ⟨l, ys, x, rfl, rfl, g3, hx, w1 σ _ ⟨L, s1.put hi h1 g2 g3 (Dns.erase _ g4)⟩⟩
  | _ => exact w1.elim
end
end Mi

namespace Cc
open PySem PySem.Spec L2 PyProof.Rows
section
variable {P : Program} {w : World} {H : Hp} {h : Heap}
end
abbrev dnP (xs : List Ent) (vs : List V) : List (NestedKey × V) := (xs.map (·.1)).zip vs
def KN (H : Hp) (kvs : List (NestedKey × V)) (xs : List Ent) : Prop :=
  Paired (fun (p : NestedKey × V) (q : Ent) => p.1 = q.1 ∧ (NkV H p.1 (.ref q.2.1) ∧ p.1.depth ≤ 8) ∧ RelV p.2 q.2.2) kvs xs
theorem DnE.len {H : Hp} {w : World} {es : Array DictEntry} {xs : List Ent} {vs : List V} (h : DnE H w es xs vs) : es.size = xs.length ∧ vs.length = xs.length := by
  refine ⟨?_, by have := h.val.length; simpa using this⟩
  have := congrArg List.length h.es
  simpa using this
theorem KN.back {H : Hp} {kvs : List (NestedKey × V)} {xs : List Ent} (r : KN H kvs xs) : (∀ x ∈ xs, NkV H x.1 (.ref x.2.1) ∧ x.1.depth ≤ 8) ∧ Vals (kvs.map (·.2)) (xs.map (·.2.2)) ∧ kvs = dnP xs (kvs.map (·.2)) := by
  induction r with
  | nil => exact ⟨fun x hx => (nomatch hx), .nil, rfl⟩
  | @cons p q ps qs h t ih =>
    obtain ⟨h1, h2, h3⟩ := h
    obtain ⟨i1, i2, i3⟩ := ih
    refine ⟨fun x hx => ?_, .cons h3 i2, ?_⟩
    · rcases List.mem_cons.mp hx with e | hx
      · subst e; rw [← h1]; exact h2
      · exact i1 x hx
    · show p :: ps = (q.1, p.2) :: dnP qs (ps.map (·.2))
      rw [← h1, ← i3]
theorem KN.val {H : Hp} {kvs : List (NestedKey × V)} {xs : List Ent} (r : KN H kvs xs) (k : NestedKey) : RelO (valV kvs k) ((atKey xs k).map (·.2)) := by
  induction r with
  | nil => exact True.intro
  | @cons p q ps qs h t ih =>
    obtain ⟨h1, _, h2⟩ := h
    by_cases e : p.1 = k
    · have e' : q.1 = k := h1.symm.trans e
      have b : atKey (q :: qs) k = some q.2 := by simp [atKey, List.find?_cons, e']
      rw [valV_pos e, b]
      exact h2
    · have e' : ¬ q.1 = k := fun z => e (h1.trans z)
      have b : atKey (q :: qs) k = atKey qs k := by simp [atKey, List.find?_cons, e']
      rw [valV_neg e, b]
      exact ih
theorem KN.keeps {H H' : Hp} {kvs : List (NestedKey × V)} {xs : List Ent} (r : KN H kvs xs) (e : ∀ b ys, PlT H b ys → PlT H' b ys) : KN H' kvs xs :=
  Paired.mapP r fun _ _ z => ⟨z.1, ⟨NkV.ext e _ _ z.2.1.1, z.2.1.2⟩, z.2.2⟩
theorem KN.put {H : Hp} {kvs : List (NestedKey × V)} {xs : List Ent} (r : KN H kvs xs) {k : NestedKey} {b : Addr} {y : V} {u : Value} (hb : NkV H k (.ref b)) (hd : k.depth ≤ 8) (ry : RelV y u) :
    KN H (putK kvs k y) (storedH xs k b u) := by
  have e : (kvs.any fun kv => decide (kv.1 = k)) = (atKey xs k).isSome := by
    rw [valV_any, (r.val k).isSome_eq, Option.isSome_map]
  unfold putK storedH
  rw [e]
  by_cases q : (atKey xs k).isSome = true
  · rw [if_pos q, if_pos q]
    clear e q
    induction r with
    | nil => exact .nil
    | @cons p z ps zs h t ih =>
      refine .cons ?_ ih
      obtain ⟨h1, h2, h3⟩ := h
      unfold putAt
      by_cases c : p.1 = k
      · have c' : z.1 = k := h1.symm.trans c
        dsimp only
        rw [if_pos c, if_pos c']
        exact ⟨h1, h2, ry⟩
      · have c' : ¬ z.1 = k := fun q => c (h1.trans q)
        dsimp only
        rw [if_neg c, if_neg c']
        exact ⟨h1, h2, h3⟩
  · rw [if_neg q, if_neg q]
    exact Paired.snoc r ⟨rfl, ⟨hb, hd⟩, ry⟩
section
variable {P : Program} {w : World} {H : Hp} {h : Heap} {a b : Addr} {k : NestedKey} {es : Array DictEntry} {ep : Nat} {xs : List Ent} {vs : List V}
end
section
variable {X : Cx}
end
section
variable {P : Program} {w : World} {K : PySem.W.Frag} {tg : Expr} {d : Addr} {es : Array DictEntry} {ep : Nat} {kv vs : List V}
end
section
variable {X : Cx} {tg e : Expr} {td : TE} {apos cpos : Pos}
end
end Cc

namespace Cc
open PySem PySem.Spec L2 PyProof.Rows
section
variable {X : Cx}
end
end Cc

namespace CcK
open PySem PySem.Spec L2 Cc PyProof.Rows PySem.W
section
variable {prog : Program} {w : World} {A : Around} {E : Value → Shared → Prop} {s : Shared} {T : String} {r d : Addr} {n : Nat} {P : Nat → Value → Prop} {OK : Heap → Prop}
end
section
variable {X : Cx} {n m : Nat} {f : Addr} {fd : FuncData} {ps : List Str} {sp : Sp}
end
end CcK

namespace CcK
open PySem PySem.Spec L2 Cc PyProof.Rows PySem.W
section
variable {X : Cx} {pins : List (Addr × Obj)} {σ : L2.St} {H : Hp} {s : Shared}
end
end CcK

namespace CcK
open PySem PySem.Spec L2 Cc PyProof.Rows PySem.W
section
variable {X : Cx} {pins : List (Addr × Obj)} {σ : L2.St} {H : Hp} {s : Shared}
end
end CcK

namespace CcK
open PySem PySem.Spec L2 Cc PyProof.Rows
section
variable {X : Cx}
end
end CcK

namespace Mi
open PySem L2 Cc CcK PySem.W
noncomputable section
abbrev DP := List (NestedKey × D)
def valP (kvs : DP) (k : NestedKey) : Option D := (kvs.find? fun kv => decide (kv.1 = k)).map (·.2)
def putP (kvs : DP) (k : NestedKey) (d : D) : DP := if (kvs.any fun kv => decide (kv.1 = k)) = true then kvs.map (fun kv => if kv.1 = k then (kv.1, d) else kv) else kvs ++ [(k, d)]
abbrev dctP (w : World) (kvs : DP) : D := .dct w (kvs.map (·.1)) (kvs.map (·.2))
section
variable {K : Fg} {W : Wd K} {E : XK} {Hm : Hp} {w : World}
def PR (K : Fg) (Hm : Hp) (l : List (NestedKey × V)) (m : DP) : Prop := Paired (fun (p : NestedKey × V) (q : NestedKey × D) => p.1 = q.1 ∧ Dn K Hm p.2 q.2) l m
theorem PR.of {ds : List D} : ∀ {ks : List NestedKey} {vs : List V}, Dns K Hm vs ds → PR K Hm (ks.zip vs) (ks.zip ds) := fun {ks vs} h => by
  induction ks generalizing vs ds with
  | nil => exact .nil
  | cons k ks ih =>
    cases h with
    | nil => exact .nil
    | cons h1 h2 => exact .cons ⟨rfl, h1⟩ (ih h2)
theorem PR.keys {l : List (NestedKey × V)} {m : DP} (h : PR K Hm l m) : l.map (·.1) = m.map (·.1) := by
  induction h with
  | nil => rfl
  | cons h1 _ ih => simp [h1.1, ih]
theorem PR.some {l : List (NestedKey × V)} {m : DP} (h : PR K Hm l m) {k : NestedKey} {d : D} (e : valP m k = some d) : ∃ v, valV l k = some v ∧ Dn K Hm v d := by
  induction h with
  | nil => cases e
  | @cons p q ps qs h1 t ih =>
    by_cases c : q.1 = k
    · refine ⟨p.2, valV_pos (h1.1.trans c), ?_⟩
      simp [valP, List.find?_cons, c] at e
      rw [← e]; exact h1.2
    · obtain ⟨v, q1, q2⟩ := ih (by simpa [valP, List.find?_cons, c] using e)
      exact ⟨v, (valV_neg (fun z => c (h1.1.symm.trans z))).trans q1, q2⟩
theorem PR.is {l : List (NestedKey × V)} {m : DP} (h : PR K Hm l m) (k : NestedKey) : (valV l k).isSome = (valP m k).isSome := by
  induction h with
  | nil => rfl
  | @cons p q ps qs h1 t ih =>
    by_cases c : q.1 = k
    · rw [valV_pos (h1.1.trans c)]
      simp [valP, List.find?_cons, c]
    · rw [valV_neg (fun z => c (h1.1.symm.trans z)), ih]
      simp [valP, List.find?_cons, c]
theorem PR.any {l : List (NestedKey × V)} {m : DP} (h : PR K Hm l m) (k : NestedKey) : (l.any fun kv => decide (kv.1 = k)) = m.any fun kv => decide (kv.1 = k) := by
  induction h with
  | nil => rfl
  | @cons p q ps qs h1 t ih => simp only [List.any_cons, h1.1, ih]
theorem PR.put {l : List (NestedKey × V)} {m : DP} (h : PR K Hm l m) {k : NestedKey} {v : V} {d : D} (hv : Dn K Hm v d) : PR K Hm (putK l k v) (putP m k d) := by
  unfold putK putP
  rw [h.any k]
  by_cases c : (m.any fun kv => decide (kv.1 = k)) = true
  · rw [if_pos c, if_pos c]
    clear c
    induction h with
    | nil => exact .nil
    | @cons p q ps qs h1 t ih =>
      refine .cons ?_ ih
      by_cases e : q.1 = k
      · dsimp only
        rw [if_pos e, if_pos (h1.1.trans e)]
        exact ⟨h1.1, hv⟩
      · dsimp only
        rw [if_neg e, if_neg (fun z => e (h1.1.symm.trans z))]
        exact h1
  · rw [if_neg c, if_neg c]
    exact Paired.snoc h ⟨rfl, hv⟩
theorem PR.up {l : List (NestedKey × V)} {m : DP} {Hm' : Hp} (h : PR K Hm l m) (e : Same Hm Hm') : PR K Hm' l m := Paired.mapP h fun p q z => ⟨z.1, z.2.up e⟩
def RetPd (W : Wd K) (w : World) (Y : Addr → Bool) (H : Hp) (Q : VK) : DP → Prop := fun kvs => ∀ p q H', Ext W H H' → H p = none → H' p = some (DnO p q.es q.ep) → DnQ K (mask W (also Y p) H') w (kvs.map (·.1)) (kvs.map (·.2)) q → Q (.ref p) H'
def GND (W : Wd K) (w : World) (E : XK) (te : TE) (m : Env → M DP) : Prop := ∀ Y σ H ρ Q, Ok W Y H → EnvR W (mask W Y H) σ ρ → (m ρ).wp (RetPd W w Y H Q) (ErrP W E H) → te σ H Q
def mDct (w : World) (m : Env → M DP) : Env → M D := fun ρ => (m ρ).bind fun kvs => .ret (dctP w kvs)
theorem GND.ge {te : TE} {m : Env → M DP} (h : GND W w E te m) : GE W E te (mDct w m) := fun Y σ H ρ Q o e q =>
  h Y σ H ρ Q o e (M.wp_mono (fun kvs hd p q' H' e' hp hx hq => by
    have hd' : RetP W Y H Q (dctP w kvs) := hd
    exact hd' _ H' e' (DnQ.dct (DnQ.less hq also_r) (mask_at hx (o.fresh hp) fun _ _ _ z => nomatch z))) (fun _ _ h => h) _ ((M.wp_bind _).mp q))
end
end
end Mi

namespace Mi
open PySem L2 Cc CcK PySem.W
noncomputable section
section
variable {K : Fg} {W : Wd K} {E : XK} {Hm : Hp} {w : World}
end
end
end Mi

namespace Mi
open PySem PySem.Spec L2 Cc CcK PySem.W PyProof.Rows
class PW where
  w : World
end Mi

namespace Mi
open PySem L2 Cc
section
variable {X : Cx}
end
end Mi

namespace CcK
open PySem PySem.Spec L2 Cc PyProof.Rows PySem.W
open Sem (wp)
section
variable {prog : Program} {w : World} {A : Around} {R : Result → Shared → Prop} {I : Addr} {fp wr : List Addr} {G : Array GenState → Array GenState → Prop} {n : Nat} {P : Nat → Value → Prop} {St : Nat → Shared → Prop} {bt : Nat → Nat → Bool} {T0 : Shared → Prop} {Tn : Nat → Value → Shared → Prop} {Tm : Nat → Value → Value → Shared → Prop} {q : Addr}
end
section
variable {prog : Program} {w : World} {A : Around} {E : Value → Shared → Prop} {s : Shared} {q : Addr}
end
end CcK

namespace CcK
open PySem PySem.Spec L2 Cc PyProof.Rows PySem.W
section
variable {X : Cx} {pins : List (Addr × Obj)} {σ : L2.St}
variable {n : Nat} {f : Addr} {fd : FuncData} {ps : List Str} {sp : Sp}
end
end CcK

namespace Mi
open PySem L2 Cc PySem.W
section
variable {K : Fg} {W : Wd K} {E : XK} {te tz : TE} {a b : Env → M D}
end
end Mi

namespace Mi
open PySem L2 Cc PySem.W
section
variable {K : Fg} {W : Wd K} {E : XK} {te : TE} {a : Env → M D}
end
end Mi

namespace Mi
open PySem L2 Cc PySem.W
section
variable {K : Fg} {W : Wd K} {E E' : XK} {ta : TA} {a : Env → M (List D)}
end
end Mi

namespace Mi
open PySem L2 Cc
section
variable {K : Fg} {W : Wd K} {E : XK} {te : TE} {a : Env → M D}
end
end Mi

namespace Cc
open PySem PySem.Spec PyProof.Rows L2 PpSet
section
variable {X : Cx}
end
end Cc

namespace Mi
open PySem L2 Cc
def insU (k : Int) : List Int → List Int
  | [] => [k]
  | x :: xs => if k < x then k :: x :: xs else if k = x then x :: xs else x :: insU k xs
theorem insU_mem {k j : Int} : ∀ {xs : List Int}, j ∈ insU k xs ↔ j = k ∨ j ∈ xs
  | [] => by simp [insU]
  | x :: xs => by
    unfold insU
    split
    · simp
    · split
      · rename_i h; subst h; simp
      · simp only [List.mem_cons, insU_mem (xs := xs)]
        exact ⟨fun h => by rcases h with h | h | h <;> simp [h], fun h => by rcases h with h | h | h <;> simp [h]⟩
theorem insU_same {k : Int} : ∀ {xs : List Int}, xs.Pairwise (· < ·) → k ∈ xs → insU k xs = xs
  | [], _, h => by cases h
  | x :: xs, h, m => by
    rw [List.pairwise_cons] at h
    unfold insU
    rcases List.mem_cons.mp m with rfl | m
    · rw [if_neg (Int.lt_irrefl _), if_pos rfl]
    · have := h.1 k m
      rw [if_neg (by omega), if_neg (by omega), insU_same h.2 m]
theorem insU_len {k : Int} : ∀ {xs : List Int}, k ∉ xs → (insU k xs).length = xs.length + 1
  | [], _ => rfl
  | x :: xs, m => by
    have h : ¬ k = x ∧ k ∉ xs := by simpa using m
    unfold insU
    split
    · rfl
    · rw [if_neg h.1]
      simp [insU_len h.2]
def SetL (w : World) (a : Addr) (acc : List Int) : HO := SetO w a (fun j => decide (j ∈ acc)) acc.length
section
variable {K : Fg} {W : Wd K} {E : XK} {J : It} {n : Nat} {G : Hp → Prop} {Y : Nat → Hp → V → Hp → Prop}
theorem SetO.congr {w : World} {a : Addr} {S S' : Int → Bool} {n n' : Nat} (h : ∀ j, S j = S' j) (hn : n = n') : SetO w a S n = SetO w a S' n' := by
  have e : S = S' := funext h
  rw [e, hn]
theorem SetL.add {w : World} {a : Addr} {acc : List Int} {c : Int} (hp : acc.Pairwise (· < ·)) : SetO w a (fun j => (fun j => decide (j ∈ acc)) j || decide (j = c)) (if (fun j => decide (j ∈ acc)) c = true then acc.length else acc.length + 1) = SetL w a (insU c acc) := by
  refine SetO.congr (fun j => ?_) ?_
  · by_cases h : j = c
    · simp [h, insU_mem]
    · simp [h, insU_mem]
  · by_cases h : c ∈ acc
    · rw [if_pos (by simpa using h), insU_same hp h]
    · rw [if_neg (by simpa using h), insU_len h]
end
end Mi

namespace Mi
open PySem L2 Cc
section
variable {K : Fg} {W : Wd K} {E : XK}
end
end Mi

namespace CcS
open PySem PySem.W PySem.Calls PyProof.Rows PySem.SeqAt
section
variable {prog : Program} {w : World} {A : Around} {E : Value → Shared → Prop} {s : Shared}
variable {β : Type} {vs : List Value} {bs : List β} {enc : β → PyData} {R : Value → β → Prop}
end
end CcS
namespace CcS
open PySem PySem.Spec L2 Cc PyProof.Rows PySem.W
section
variable {X : Cx}
end
end CcS

namespace Mi
open PySem L2 Cc PySem.W
section
variable {K : Fg} {W : Wd K} {E : XK}
end
end Mi

namespace Cc
open PySem PySem.Spec PyProof.Rows
section
variable {prog : Program} {w : World} {A : Around} {R : Result → Shared → Prop} {I : Addr} {fp wr : List Addr} {G : Array GenState → Array GenState → Prop} {n : Nat} {P : Nat → Value → Prop} {St : Nat → Shared → Prop}
end
section
variable {prog : Program} {w : World} {A : Around} {E : Value → Shared → Prop} {s : Shared}
end
end Cc
namespace Cc
open PySem PySem.Spec L2 PyProof.Rows
end Cc

namespace Mi
open PySem L2 Cc PySem.W
section
variable {K : Fg} {W : Wd K} {E : XK} {ta : TE} {a : Env → M D}
end
end Mi

namespace Mi
open PySem L2 Cc
def HeldV (P : Program) (w : World) (K : Fg) (mg : Str → Option Value) (base : Heap) (m : Nat) (S : Addr → Option Sp) : Prop := ∀ f sp, S f = some sp → ∃ (n : Nat) (fd : FuncData) (ps : List Str), n ≤ m ∧ FnOk P w K mg base (L2.CX P w) n f fd ps sp ∧ PySem.W.keepIn K (.ref f) = true ∧ L2.Binds K fd ps []
def tCallV (i : Nat) (S : Addr → Option Sp) (E : L2.St → XK) (t : TA) : TE := fun σ H Q => ∃ f sp, σ[i]? = some (some (.ref f)) ∧ S f = some sp ∧ t σ H fun vs H1 => sp vs H1 Q (E σ)
section
variable {X : Cx} {m i : Nat} {x : Str} {e : Expr} {es : List Expr} {t : TA} {p pos : Pos}
theorem pe_callV {S : Addr → Option Sp} {W : WX} (A : HeldV X.prog X.w X.K X.mg X.base m S) (hr : Room m X.A) (tk : Takes X W) (hN : X.N[i]? = some x) (hv : Vis X.env.scope x) (ha : PA X (e :: es) t)
    (hdb : (x == ("__debug__" : Str)) = false := by decide) (hcd : (x == ("__classdict__" : Str)) = false := by decide)
    (he : starEach (e :: es) X.env = (false, eval e X.env) :: starEach es X.env := by rfl) (hpl : (backTo pos (starEach es X.env)).any (·.1) = false := by rfl) : PE X (.Call (.Name x p) (e :: es) [] pos) (tCallV i S (WE W) t) := by
  refine ⟨fun pins s σ H Q I h => ?_⟩
  obtain ⟨f, sp, hs, hS, ht⟩ := h
  obtain ⟨n, fd, ps, hn, F, hk, hb⟩ := A f sp hS
  refine wpAny_Call_Name_kw (thn ((pe_var (pos := p) hN hv hdb hcd).run pins s σ H (fun v H1 => v = .ref f ∧ H1 = H) I ⟨.ref f, hs, rfl, rfl⟩) fun u s1 ⟨v, H1, I1, r1, q1⟩ => ?_)
  obtain ⟨rfl, rfl⟩ := q1
  cases r1
  refine PySem.W.callWith_K (h₀ := X.base) I.ok.mod.kin hk (thn (ha.run pos pins s1 σ _ _ I1 ht) fun us s2 ⟨vs, H2, I2, r, q⟩ => ⟨I2.kIn, ?_⟩) he hpl
  exact run_fnS F (hr.mono hn) hb (passAt tk σ) I2 r q
end
def fnAt (fs : List (Addr × (List D → M D))) (a : Addr) : Option (List D → M D) := match fs with
  | [] => none
  | q :: r => if a = q.1 then some q.2 else fnAt r a
def mCallV (i : Nat) (fs : List (Addr × (List D → M D))) (a : Env → M (List D)) : Env → M D := fun ρ => match look ρ i with
  | some (.adr f) => (match fnAt fs f with
    | some F => (a ρ).bind F
    | none => .bad)
  | _ => .bad
section
variable {K : Fg} {W : Wd K} {E : XK} {a : Env → M (List D)} {tl : TA}
def spV (W : Wd K) (fs : List (Addr × (List D → M D))) : Addr → Option Sp := fun f => (fnAt fs f).map (spM W)
theorem ge_adr {b : Addr} : GE W E (tC (.ref b)) (mC (.adr b)) := fun Y σ H ρ Q o e w => w _ H (.refl o.1) (.adr b)
theorem ge_callV {fs : List (Addr × (List D → M D))} {i : Nat} {X : WX} (hX : ∀ σ, WE X σ = E) (ha : GA W E tl a) : GE W E (tCallV i (spV W fs) (WE X) tl) (mCallV i fs a) := fun Y σ H ρ Q o e w => by
  unfold mCallV at w
  split at w
  case h_2 => exact w.elim
  rename_i f hf
  split at w
  case h_2 => exact w.elim
  rename_i F hF
  obtain ⟨v, h1, h2⟩ := e.2.1 i _ hf
  cases h2
  exact ⟨f, spM W F, h1, by unfold spV; rw [hF]; rfl, ha.seq o e w (fun _ _ h => h) fun ds xs H1 e1 o1 r1 hx w1 => ⟨Y, ds, o1, hx, by rw [hX]; exact wp_up w1 e1 fun d hd => hd.up e1⟩⟩
end
theorem heldV_nil {P : Program} {w : World} {K : Fg} {mg : Str → Option Value} {base : Heap} {m : Nat} {W : Wd K} : HeldV P w K mg base m (spV W []) := fun f sp h => by cases h
theorem heldV_cons {P : Program} {w : World} {K : Fg} {mg : Str → Option Value} {base : Heap} {m n : Nat} {W : Wd K} {fs : List (Addr × (List D → M D))} {b : Addr} {F : List D → M D} {x : Str} {ps : List Str} (hm : mg x = some (.ref b)) (C : Cal P w K mg base (L2.CX P w) n x ps (spM W F)) (hn : n ≤ m) (h : HeldV P w K mg base m (spV W fs)) : HeldV P w K mg base m (spV W ((b, F) :: fs)) := fun f sp e => by
  unfold spV fnAt at e
  by_cases hf : f = b
  · subst hf
    rw [if_pos rfl] at e
    cases e
    obtain ⟨g, fd, ok, h1, h2, h3⟩ := C
    rw [hm] at h1
    cases h1
    exact ⟨n, fd, ps, hn, ok, h2, h3⟩
  · rw [if_neg hf] at e
    exact h f sp e
end Mi

namespace My
open PySem L2 Cc
abbrev topS (i : Nat) : Stmt := PySem.Challenge.pw_coldcrates_k37_plans_rejected.main.body.getD i (.Pass ⟨0, 0, 0, 0⟩)
abbrev s_is_number : Stmt := topS 9
theorem sc_is_number : FnScope ["value", "low", "high"] ["value", "low", "high"] (defScope s_is_number) := ⟨rfl, rfl, rfl, by decide +kernel, rfl, by decide +kernel, by decide +kernel⟩
abbrev s_is_word : Stmt := topS 10
theorem sc_is_word : FnScope ["value", "letter"] ["value"] (defScope s_is_word) := ⟨rfl, rfl, rfl, by decide +kernel, rfl, by decide +kernel, by decide +kernel⟩
abbrev s_doors_fit : Stmt := topS 18
theorem sc_doors_fit : FnScope ["doors", "door"] ["doors"] (defScope s_doors_fit) := ⟨rfl, rfl, rfl, by decide +kernel, rfl, by decide +kernel, by decide +kernel⟩
abbrev s_is_door : Stmt := topS 19
theorem sc_is_door : FnScope ["value"] ["value"] (defScope s_is_door) := ⟨rfl, rfl, rfl, by decide +kernel, rfl, by decide +kernel, by decide +kernel⟩
abbrev s_crates_fit : Stmt := topS 20
theorem sc_crates_fit : FnScope ["crates", "size", "one", "other", "name"] ["crates", "size"] (defScope s_crates_fit) := ⟨rfl, rfl, rfl, by decide +kernel, rfl, by decide +kernel, by decide +kernel⟩
abbrev s_places_behind : Stmt := topS 21
theorem sc_places_behind : FnScope ["doors", "found", "begin", "door", "end"] ["doors"] (defScope s_places_behind) := ⟨rfl, rfl, rfl, by decide +kernel, rfl, by decide +kernel, by decide +kernel⟩
abbrev s_all_layouts : Stmt := topS 22
theorem sc_all_layouts : FnScope ["store"] ["store"] (defScope s_all_layouts) := ⟨rfl, rfl, rfl, by decide +kernel, rfl, by decide +kernel, by decide +kernel⟩
abbrev s_arrangements : Stmt := topS 23
theorem sc_arrangements : FnScope ["names", "free", "found", "at", "name", "others", "rest"] ["names", "free"] (defScope s_arrangements) := ⟨rfl, rfl, rfl, by decide +kernel, rfl, by decide +kernel, by decide +kernel⟩
abbrev s_check_place : Stmt := topS 24
theorem sc_check_place : FnScope ["store", "place"] ["store", "place"] (defScope s_check_place) := ⟨rfl, rfl, rfl, by decide +kernel, rfl, by decide +kernel, by decide +kernel⟩
abbrev s_warmth_of : Stmt := topS 25
theorem sc_warmth_of : FnScope ["store", "doors", "door"] ["store", "doors"] (defScope s_warmth_of) := ⟨rfl, rfl, rfl, by decide +kernel, rfl, by decide +kernel, by decide +kernel⟩
abbrev s_warmth_in_turn : Stmt := topS 26
theorem sc_warmth_in_turn : FnScope ["store", "doors", "opened", "at", "door"] ["store", "doors"] (defScope s_warmth_in_turn) := ⟨rfl, rfl, rfl, by decide +kernel, rfl, by decide +kernel, by decide +kernel⟩
abbrev s_check_plan : Stmt := topS 29
theorem sc_check_plan : FnScope ["store", "plan", "name", "expected", "at", "word"] ["store", "plan"] (defScope s_check_plan) := ⟨rfl, rfl, rfl, by decide +kernel, rfl, by decide +kernel, by decide +kernel⟩
abbrev s_least_plan : Stmt := topS 30
theorem sc_least_plan : FnScope ["store", "plan"] ["store", "plan"] (defScope s_least_plan) := ⟨rfl, rfl, rfl, by decide +kernel, rfl, by decide +kernel, by decide +kernel⟩
abbrev s_least_of : Stmt := topS 31
theorem sc_least_of : FnScope ["store", "ways", "places", "place"] ["store", "ways"] (defScope s_least_of) := ⟨rfl, rfl, rfl, by decide +kernel, rfl, by decide +kernel, by decide +kernel⟩
abbrev s_moving_places : Stmt := topS 32
theorem sc_moving_places : FnScope ["store", "plan", "ways", "word", "name", "places", "_", "lying", "place"] ["store", "plan"] (defScope s_moving_places) := ⟨rfl, rfl, rfl, by decide +kernel, rfl, by decide +kernel, by decide +kernel⟩
abbrev s_allowed : Stmt := topS 33
theorem sc_allowed : FnScope ["lying", "word", "name", "sought", "place", "other"] ["lying", "word", "name"] (defScope s_allowed) := ⟨rfl, rfl, rfl, by decide +kernel, rfl, by decide +kernel, by decide +kernel⟩
abbrev s_replaced : Stmt := topS 34
theorem sc_replaced : FnScope ["lying", "place", "name"] ["lying", "place", "name"] (defScope s_replaced) := ⟨rfl, rfl, rfl, by decide +kernel, rfl, by decide +kernel, by decide +kernel⟩
abbrev s_least_fixed : Stmt := topS 35
theorem sc_least_fixed : FnScope ["store", "plan", "ways", "layout", "_", "name"] ["store", "plan"] (defScope s_least_fixed) := ⟨rfl, rfl, rfl, by decide +kernel, rfl, by decide +kernel, by decide +kernel⟩
abbrev s_worth_moving : Stmt := topS 36
theorem sc_worth_moving : FnScope ["store", "plan"] ["store", "plan"] (defScope s_worth_moving) := ⟨rfl, rfl, rfl, by decide +kernel, rfl, by decide +kernel, by decide +kernel⟩
abbrev s__law_taken : Stmt := topS 38
theorem sc__law_taken : FnScope ["_law_row", "_law_many", "_law_found", "_law_cell"] ["_law_row", "_law_many"] (defScope s__law_taken) := ⟨rfl, rfl, rfl, by decide +kernel, rfl, by decide +kernel, by decide +kernel⟩
abbrev s__law_told : Stmt := topS 39
theorem sc__law_told : FnScope ["_law_work", "e"] ["_law_work"] (defScope s__law_told) := ⟨rfl, rfl, rfl, by decide +kernel, rfl, by decide +kernel, by decide +kernel⟩
abbrev s_law : Stmt := topS 40
theorem sc_law : FnScope ["_law_script", "_law_row", "_law_turn", "_law_there", "_law_due", "_law_k", "_law_name", "_law_word", "_law_other", "_law_plan", "_law_store", "_law_work"] ["_law_script"] (defScope s_law) := ⟨rfl, rfl, rfl, by decide +kernel, rfl, by decide +kernel, by decide +kernel⟩
abbrev s_InvalidStore___init__ : Stmt := inClass (topS 3) 0
abbrev s_InvalidPlan___init__ : Stmt := inClass (topS 5) 0
abbrev s_Store___init__ : Stmt := inClass (topS 17) 0
theorem sc_Store___init__ : FnScope ["self", "doors", "crates", "places"] ["self", "doors", "crates"] (defScope s_Store___init__) := ⟨rfl, rfl, rfl, by decide +kernel, rfl, by decide +kernel, by decide +kernel⟩
abbrev s_Store_doors : Stmt := inClass (topS 17) 3
theorem sc_Store_doors : FnScope ["self"] ["self"] (defScope s_Store_doors) := ⟨rfl, rfl, rfl, by decide +kernel, rfl, by decide +kernel, by decide +kernel⟩
abbrev s_Store_crates : Stmt := inClass (topS 17) 4
theorem sc_Store_crates : FnScope ["self"] ["self"] (defScope s_Store_crates) := ⟨rfl, rfl, rfl, by decide +kernel, rfl, by decide +kernel, by decide +kernel⟩
abbrev s_Store_size : Stmt := inClass (topS 17) 5
theorem sc_Store_size : FnScope ["self"] ["self"] (defScope s_Store_size) := ⟨rfl, rfl, rfl, by decide +kernel, rfl, by decide +kernel, by decide +kernel⟩
abbrev s_Store_door_of : Stmt := inClass (topS 17) 6
theorem sc_Store_door_of : FnScope ["self", "place", "door"] ["self", "place"] (defScope s_Store_door_of) := ⟨rfl, rfl, rfl, by decide +kernel, rfl, by decide +kernel, by decide +kernel⟩
end My

namespace My
open PySem L2 RZ Cc Mi
def errNames : List Str := ["InvalidPlan", "InvalidStore", "UnknownPlace"]
abbrev storeNs : List Str := ["_places", "_size", "_doors", "_crates"]
def stP (ns : List Str) : Bool := !ns.isEmpty && ns.isPrefixOf storeNs
structure Tx (P : Program) (w : World) (K : Fg) (mg : Str → Option Value) (C : Addr) (W : Wd K) (ea fI : Str → Addr) : Prop where
  b_all : mg "all" = none
  b_bool : mg "bool" = none
  b_enumerate : mg "enumerate" = none
  b_int : mg "int" = none
  b_isinstance : mg "isinstance" = none
  b_len : mg "len" = none
  b_min : mg "min" = none
  b_range : mg "range" = none
  b_str : mg "str" = none
  b_sum : mg "sum" = none
  b_tuple : mg "tuple" = none
  b_zip : mg "zip" = none
  m_LETTERS : Cst mg "LETTERS" (.str "abcdefghijklmnopqrstuvwxyz")
  m_LONGEST_WORD : Cst mg "LONGEST_WORD" (.int 8)
  m_MOST_BEHIND : Cst mg "MOST_BEHIND" (.int 4)
  m_MOST_CRATES : Cst mg "MOST_CRATES" (.int 5)
  m_MOST_DOORS : Cst mg "MOST_DOORS" (.int 4)
  m_MOST_IN_PLAN : Cst mg "MOST_IN_PLAN" (.int 8)
  m_MOST_PLACES : Cst mg "MOST_PLACES" (.int 6)
  m_MOST_WARMTH : Cst mg "MOST_WARMTH" (.int 99)
  cls : Cls K C
  hp : ∀ ns C', stP ns = true → W.ct ns = some C' → C' = C
  hcp : ∀ ns, stP ns = true → W.ct ns = some C
  cls0 : W.cls 0 = C
  g_Store : Cst mg "Store" (.ref C)
  isi : IsiC K C
  n_places : NoAttr K C "_places"
  n_size : NoAttr K C "_size"
  n_doors : NoAttr K C "_doors"
  n_crates : NoAttr K C "_crates"
  x_InvalidPlan : ErrF P w K mg "InvalidPlan" (ea "InvalidPlan") (fI "InvalidPlan") "index"
  ea_InvalidPlan : W.ea "InvalidPlan" = some (ea "InvalidPlan")
  ef_InvalidPlan : W.ef "InvalidPlan" = (["index"] : List Str)
  x_InvalidStore : ErrF P w K mg "InvalidStore" (ea "InvalidStore") (fI "InvalidStore") "part"
  ea_InvalidStore : W.ea "InvalidStore" = some (ea "InvalidStore")
  ef_InvalidStore : W.ef "InvalidStore" = (["part"] : List Str)
  x_UnknownPlace : ErrT K mg "UnknownPlace" (ea "UnknownPlace")
  ea_UnknownPlace : W.ea "UnknownPlace" = some (ea "UnknownPlace")
  fv_least_fixed : mg "least_fixed" = some (.ref (ea "least_fixed"))
  fc_least_fixed : Cst mg "least_fixed" (.ref (ea "least_fixed"))
  fv_least_plan : mg "least_plan" = some (.ref (ea "least_plan"))
  fc_least_plan : Cst mg "least_plan" (.ref (ea "least_plan"))
  fv_worth_moving : mg "worth_moving" = some (.ref (ea "worth_moving"))
  fc_worth_moving : Cst mg "worth_moving" (.ref (ea "worth_moving"))
  h_InvalidPlan : mg "InvalidPlan" = some (.ref (ea "InvalidPlan"))
  xm_InvalidPlan : ∀ c ∈ errNames, ∀ A, W.ea c = some A → PySem.W.exmOne K (.ref A) (.ref (ea "InvalidPlan")) = some (hitC "InvalidPlan" c)
  xr_InvalidPlan : XfC K (ea "InvalidPlan")
  xn_InvalidPlan_index : PySem.W.findIn K (.ref (ea "InvalidPlan")) "index" = some none
section
variable {P : Program} {w : World} {K : Fg} {mg : Str → Option Value} {base : Heap} {C : Addr} {W : Wd K} {ea fI : Str → Addr}
def m_is_number : List D → M D := defM 3 3
    (sRet (mAnd (mIsT "int" (mVar 0)) (mAnd (mNot (mIsT "bool" (mVar 0))) (mChain fLe fLe (mVar 1) (mVar 0) (mVar 2)))))
theorem ok_is_number {f : Addr} {fd : FuncData} (F : Fun K "is_number" "is_number" s_is_number f fd) (T : Tx P w K mg C W ea fI)  : FnOk P w K mg base CX0 1 f fd ["value", "low", "high"] (spC W m_is_number) :=
  ok_defC F sc_is_number (by decide) fun cdv A outer s H E hr => ⟨_, (pss_one (ps_ret (pe_and (pe_callB (isiK K) (by rfl) T.b_isinstance (by decide +kernel) (pa_cons (pv 0) (pa_cons (pe_ty (T := "int") T.b_int) pa_nil))) (pe_and (pe_not (pe_callB (isiK K) (by rfl) T.b_isinstance (by decide +kernel) (pa_cons (pv 0) (pa_cons (pe_ty (T := "bool") T.b_bool) pa_nil)))) (pe_one (pe_chain op_le op_le (pv 1) (pv 0) (pv 2))))))),
    (gs_ret (ge_and (ge_isT ge_var) (ge_and (ge_not (ge_isT ge_var)) (ge_chain ge_var ge_var r2_B ge_var r2_B))))⟩
def m_is_word : List D → M D := defM 2 1
    (sSeq (sIf (cOr (cNot (cOf (mIsT "str" (mVar 0)))) (cNot (cOf (mChain fLe fLe (mC (.int 1)) (mCB fLen (mCons (mVar 0) mNil)) (mC (.int 8)))))) (sRet (mC (.bl false))) sNext)
    (sRet (mCB fAll (mCons (mNew (mLc (iS (mVar 0)) (pName 1) cYes (mOp (fInS false) (mVar 1) (mC (.str "abcdefghijklmnopqrstuvwxyz"))) [1])) mNil))))
theorem ok_is_word {f : Addr} {fd : FuncData} (F : Fun K "is_word" "is_word" s_is_word f fd) (T : Tx P w K mg C W ea fI)  : FnOk P w K mg base CX0 1 f fd ["value"] (spC W m_is_word) :=
  ok_defC F sc_is_word (by decide) fun cdv A outer s H E hr => ⟨_, (pss_cons (ps_if (PW.pt (pw_or (pt_not (pt_val (pe_callB (isiK K) (by rfl) T.b_isinstance (by decide +kernel) (pa_cons (pv 0) (pa_cons (pe_ty (T := "str") T.b_str) pa_nil))))) (pw_or1 (pt_not (pt_chain op_le op_le pe_int (pe_callB (lenK K) (by rfl) T.b_len (by decide +kernel) (pa_cons (pv 0) pa_nil)) (pe_gc T.m_LONGEST_WORD)))))) (pss_one (ps_ret pe_bl)) pss_nil)
      (pss_one (ps_ret (pe_callB (allK K) (by rfl) T.b_all (by decide +kernel) (pa_cons (pe_lc (own := [("letter", 1)]) (g := gName 1) rfl sc_is_word.nd (pi_str (pv 0)) (blkOk_by (own := [("letter", 1)]) (N := ["value", "letter"]) (sc := defScope s_is_word) (by decide +kernel)) (fun _ _ _ _ _ => (pg_name (i := 1) sc_is_word.nd rfl (Or.inl rfl))) (fun _ _ _ _ _ => pts_nil) (fun _ _ _ _ _ => (pe_cmpR op_in_sign (pv 1) (pe_gc T.m_LETTERS) rfl))) pa_nil))))),
    (gs_seq (gs_if (gt_or (gt_not (gt_ofB (ge_isT ge_var))) (gt_not (gt_of (ge_chain ge_int (ge_cb (ga_cons ge_var ga_nil) rc_len) r2_B ge_int r2_B)))) (gs_ret ge_bl) gs_next)
      (gs_ret (ge_cb (ga_cons (GN.ge (gn_lc (gi_str ge_var) gp_name gt_yes (ge_op ge_var ge_str r2_inS))) ga_nil) rc_all)))⟩
def m_is_door : List D → M D := defM 1 1
    (sSeq (sIf (cOr (cNot (cOf (mIsT "tuple" (mVar 0)))) (cOf (mOp fNe (mCB fLen (mCons (mVar 0) mNil)) (mC (.int 2))))) (sRet (mC (.bl false))) sNext)
    (sRet (mAnd (mCall (fun ds => (m_is_number ds).calm) (mCons (mOp fIx (mVar 0) (mC (.int 0))) (mCons (mC (.int 1)) (mCons (mC (.int 99)) mNil)))) (mCall (fun ds => (m_is_number ds).calm) (mCons (mOp fIx (mVar 0) (mC (.int 1))) (mCons (mC (.int 1)) (mCons (mC (.int 4)) mNil)))))))
theorem ok_is_door {f : Addr} {fd : FuncData} (F : Fun K "is_door" "is_door" s_is_door f fd) (T : Tx P w K mg C W ea fI) (C_is_number : Cal P w K mg base CX0 1 "is_number" ["value", "low", "high"] (spC W m_is_number)) : FnOk P w K mg base CX0 2 f fd ["value"] (spC W m_is_door) :=
  ok_defC F sc_is_door (by decide) fun cdv A outer s H E hr => ⟨_, (pss_cons (ps_if (PW.pt (pw_or (pt_not (pt_val (pe_callB (isiK K) (by rfl) T.b_isinstance (by decide +kernel) (pa_cons (pv 0) (pa_cons (pe_ty (T := "tuple") T.b_tuple) pa_nil))))) (pw_or1 (pt_cmpR (neK K hr.units) (pe_callB (lenK K) (by rfl) T.b_len (by decide +kernel) (pa_cons (pv 0) pa_nil)) pe_int (nomark _))))) (pss_one (ps_ret pe_bl)) pss_nil)
      (pss_one (ps_ret (pe_and (pe_cal (E := Cc.E0) C_is_number hr pass0 (pa_cons (pe_ix (ixA K) (pv 0) pe_int (fun _ _ => rfl)) (pa_cons pe_int (pa_cons (pe_gc T.m_MOST_WARMTH) pa_nil)))) (pe_one (pe_cal (E := Cc.E0) C_is_number hr pass0 (pa_cons (pe_ix (ixA K) (pv 0) pe_int (fun _ _ => rfl)) (pa_cons pe_int (pa_cons (pe_gc T.m_MOST_BEHIND) pa_nil))))))))),
    (gs_seq (gs_if (gt_or (gt_not (gt_ofB (ge_isT ge_var))) (gt_of (ge_op (ge_cb (ga_cons ge_var ga_nil) rc_len) ge_int r2_ne))) (gs_ret ge_bl) gs_next)
      (gs_ret (ge_and (ge_call (ga_cons (ge_op ge_var ge_int r2_ix) (ga_cons ge_int (ga_cons ge_int ga_nil)))) (ge_call (ga_cons (ge_op ge_var ge_int r2_ix) (ga_cons ge_int (ga_cons ge_int ga_nil)))))))⟩
def m_doors_fit : List D → M D := defM 2 1
    (sSeq (sIf (cOr (cNot (cOf (mIsT "tuple" (mVar 0)))) (cNot (cOf (mChain fLe fLe (mC (.int 1)) (mCB fLen (mCons (mVar 0) mNil)) (mC (.int 4)))))) (sRet (mC (.bl false))) sNext)
    (sSeq (sIf (cNot (cOf (mCB fAll (mCons (mNew (mLc (iT (mVar 0)) (pName 1) cYes (mCall (fun ds => (m_is_door ds).calm) (mCons (mVar 1) mNil)) [1])) mNil)))) (sRet (mC (.bl false))) sNext)
    (sRet (mOp fLe (mCB fSum (mCons (mNew (mLc (iT (mVar 0)) (pName 1) cYes (mOp fIx (mVar 1) (mC (.int 1))) [1])) mNil)) (mC (.int 6))))))
theorem ok_doors_fit {f : Addr} {fd : FuncData} (F : Fun K "doors_fit" "doors_fit" s_doors_fit f fd) (T : Tx P w K mg C W ea fI) (C_is_door : Cal P w K mg base CX0 2 "is_door" ["value"] (spC W m_is_door)) : FnOk P w K mg base CX0 3 f fd ["doors"] (spC W m_doors_fit) :=
  ok_defC F sc_doors_fit (by decide) fun cdv A outer s H E hr => ⟨_, (pss_cons (ps_if (PW.pt (pw_or (pt_not (pt_val (pe_callB (isiK K) (by rfl) T.b_isinstance (by decide +kernel) (pa_cons (pv 0) (pa_cons (pe_ty (T := "tuple") T.b_tuple) pa_nil))))) (pw_or1 (pt_not (pt_chain op_le op_le pe_int (pe_callB (lenK K) (by rfl) T.b_len (by decide +kernel) (pa_cons (pv 0) pa_nil)) (pe_gc T.m_MOST_DOORS)))))) (pss_one (ps_ret pe_bl)) pss_nil)
      (pss_cons (ps_if (pt_not (pt_val (pe_callB (allK K) (by rfl) T.b_all (by decide +kernel) (pa_cons (pe_lc (own := [("door", 1)]) (g := gName 1) rfl sc_doors_fit.nd (pi_tK K (pv 0)) (blkOk_by (own := [("door", 1)]) (N := ["doors", "door"]) (sc := defScope s_doors_fit) (by decide +kernel)) (fun _ _ _ _ _ => (pg_name (i := 1) sc_doors_fit.nd rfl (Or.inl rfl))) (fun _ _ _ _ _ => pts_nil) (fun _ _ _ _ _ => (pe_cal (E := Cc.E0) C_is_door hr pass0 (pa_cons (pv 1) pa_nil)))) pa_nil)))) (pss_one (ps_ret pe_bl)) pss_nil)
      (pss_one (ps_ret (pe_cmpR op_le (pe_callB (sumK K) (by rfl) T.b_sum (by decide +kernel) (pa_cons (pe_lc (own := [("door", 1)]) (g := gName 1) rfl sc_doors_fit.nd (pi_tK K (pv 0)) (blkOk_by (own := [("door", 1)]) (N := ["doors", "door"]) (sc := defScope s_doors_fit) (by decide +kernel)) (fun _ _ _ _ _ => (pg_name (i := 1) sc_doors_fit.nd rfl (Or.inl rfl))) (fun _ _ _ _ _ => pts_nil) (fun _ _ _ _ _ => (pe_ix (ixA K) (pv 1) pe_int (fun _ _ => rfl)))) pa_nil)) (pe_gc T.m_MOST_PLACES) (nomark _)))))),
    (gs_seq (gs_if (gt_or (gt_not (gt_ofB (ge_isT ge_var))) (gt_not (gt_of (ge_chain ge_int (ge_cb (ga_cons ge_var ga_nil) rc_len) r2_B ge_int r2_B)))) (gs_ret ge_bl) gs_next)
      (gs_seq (gs_if (gt_not (gt_ofB (ge_cb (ga_cons (GN.ge (gn_lc (gi_tup ge_var) gp_name gt_yes (ge_call (ga_cons ge_var ga_nil)))) ga_nil) rc_all))) (gs_ret ge_bl) gs_next)
      (gs_ret (ge_op (ge_cb (ga_cons (GN.ge (gn_lc (gi_tup ge_var) gp_name gt_yes (ge_op ge_var ge_int r2_ix))) ga_nil) rc_sum) ge_int r2_B))))⟩
def m_crates_fit : List D → M D := defM 5 2
    (sSeq (sIf (cOr (cNot (cOf (mIsT "tuple" (mVar 0)))) (cNot (cOf (mChain fLe fLe (mC (.int 1)) (mCB fLen (mCons (mVar 0) mNil)) (mCB fMin2 (mCons (mC (.int 5)) (mCons (mVar 1) mNil))))))) (sRet (mC (.bl false))) sNext)
    (sSeq (sIf (cNot (cOf (mCB fAll (mCons (mNew (mLc (iT (mVar 0)) (pName 4) cYes (mCall (fun ds => (m_is_word ds).calm) (mCons (mVar 4) mNil)) [4])) mNil)))) (sRet (mC (.bl false))) sNext)
    (sRet (mCB fAll (mCons (mNew (mLc (iZp (mVar 0) (mSlT (mVar 0) (oSome (mC (.int 1))) oNone)) (pTup [(pName 2), (pName 3)]) cYes (mOp fLtS (mVar 2) (mVar 3)) [2, 3])) mNil)))))
theorem ok_crates_fit {f : Addr} {fd : FuncData} (F : Fun K "crates_fit" "crates_fit" s_crates_fit f fd) (T : Tx P w K mg C W ea fI) (C_is_word : Cal P w K mg base CX0 1 "is_word" ["value"] (spC W m_is_word)) : FnOk P w K mg base CX0 2 f fd ["crates", "size"] (spC W m_crates_fit) :=
  ok_defC F sc_crates_fit (by decide) fun cdv A outer s H E hr => ⟨_, (pss_cons (ps_if (PW.pt (pw_or (pt_not (pt_val (pe_callB (isiK K) (by rfl) T.b_isinstance (by decide +kernel) (pa_cons (pv 0) (pa_cons (pe_ty (T := "tuple") T.b_tuple) pa_nil))))) (pw_or1 (pt_not (pt_chain op_le op_le pe_int (pe_callB (lenK K) (by rfl) T.b_len (by decide +kernel) (pa_cons (pv 0) pa_nil)) (pe_callB (call_min2 rfl) (by rfl) T.b_min (by decide +kernel) (pa_cons (pe_gc T.m_MOST_CRATES) (pa_cons (pv 1) pa_nil)))))))) (pss_one (ps_ret pe_bl)) pss_nil)
      (pss_cons (ps_if (pt_not (pt_val (pe_callB (allK K) (by rfl) T.b_all (by decide +kernel) (pa_cons (pe_lc (own := [("name", 4)]) (g := gName 4) rfl sc_crates_fit.nd (pi_tK K (pv 0)) (blkOk_by (own := [("name", 4)]) (N := ["crates", "size", "one", "other", "name"]) (sc := defScope s_crates_fit) (by decide +kernel)) (fun _ _ _ _ _ => (pg_name (i := 4) sc_crates_fit.nd rfl (Or.inl rfl))) (fun _ _ _ _ _ => pts_nil) (fun _ _ _ _ _ => (pe_cal (E := Cc.E0) C_is_word hr pass0 (pa_cons (pv 4) pa_nil)))) pa_nil)))) (pss_one (ps_ret pe_bl)) pss_nil)
      (pss_one (ps_ret (pe_callB (allK K) (by rfl) T.b_all (by decide +kernel) (pa_cons (pe_lc (own := [("one", 2), ("other", 3)]) rfl sc_crates_fit.nd (pi_zK K T.b_zip (pa_cons (pv 0) (pa_cons (pe_slice sl_tupP (pv 0) (po_some pe_int) po_none) pa_nil))) (blkOk_by (own := [("one", 2), ("other", 3)]) (N := ["crates", "size", "one", "other", "name"]) (sc := defScope s_crates_fit) (by decide +kernel)) (fun _ _ _ _ _ => (pg_tK K (n := 2) rfl (pgs_cons (pg_name (i := 2) sc_crates_fit.nd rfl (Or.inl rfl)) (pgs_cons (pg_name (i := 3) sc_crates_fit.nd rfl (Or.inl rfl)) pgs_nil)))) (fun _ _ _ _ _ => pts_nil) (fun _ _ _ _ _ => (pe_cmpR op_lt_str (pv 2) (pv 3) (nomark _)))) pa_nil)))))),
    (gs_seq (gs_if (gt_or (gt_not (gt_ofB (ge_isT ge_var))) (gt_not (gt_of (ge_chain ge_int (ge_cb (ga_cons ge_var ga_nil) rc_len) r2_B (ge_cb (ga_cons ge_int (ga_cons ge_var ga_nil)) rc_min2) r2_B)))) (gs_ret ge_bl) gs_next)
      (gs_seq (gs_if (gt_not (gt_ofB (ge_cb (ga_cons (GN.ge (gn_lc (gi_tup ge_var) gp_name gt_yes (ge_call (ga_cons ge_var ga_nil)))) ga_nil) rc_all))) (gs_ret ge_bl) gs_next)
      (gs_ret (ge_cb (ga_cons (GN.ge (gn_lc (gi_zip ge_var (ge_slT ge_var (go_some ge_int) go_none)) (gp_tup (gps_cons gp_name (gps_cons gp_name gps_nil))) gt_yes (ge_op ge_var ge_var r2_S))) ga_nil) rc_all))))⟩
def m_places_behind : List D → M D := defM 5 1
    (sSeq (sOwn 1 (mLst mNil))
    (sSeq (sAsg 2 (mC (.int 0)))
    (sSeq (sFor (iT (mVar 0)) (pName 3) (sSeq (sAsg 4 (mOp fAdd (mVar 2) (mOp fIx (mVar 3) (mC (.int 1)))))
    (sSeq (sApp 1 (mPt (rg2 (mVar 2) (mVar 4))))
    (sAsg 2 (mVar 4)))))
    (sRet (mCB fTup (mCons (mVar 1) mNil))))))
theorem ok_places_behind {f : Addr} {fd : FuncData} (F : Fun K "places_behind" "places_behind" s_places_behind f fd) (T : Tx P w K mg C W ea fI)  : FnOk P w K mg base CX0 1 f fd ["doors"] (spC W m_places_behind) :=
  ok_defC F sc_places_behind (by decide) fun cdv A outer s H E hr => ⟨_, (pss_cons (ps_set (i := 1) sc_places_behind.nd rfl (Or.inl rfl) (pe_lst pa_nil))
      (pss_cons (ps_set (i := 2) sc_places_behind.nd rfl (Or.inl rfl) pe_int)
      (pss_cons (ps_for PassesOwn.never rfl (pi_tK K (pv 0)) (pg_name (i := 3) sc_places_behind.nd rfl (Or.inl rfl)) (pss_cons (ps_set (i := 4) sc_places_behind.nd rfl (Or.inl rfl) (pe_op op_add (pv 2) (pe_ix (ixA K) (pv 3) pe_int (fun _ _ => rfl))))
      (pss_cons (ps_expr (pe_bm PySem.F.plainAttrs_list PySem.F.slot_list_append PySem.F.type_list_append mt_append (pv 1) (pa_cons (pe_tupRgP rfl (by rfl) T.b_tuple (prg_2 (by rfl) T.b_range (pv 2) (pv 4))) pa_nil)))
      (pss_one (ps_set (i := 2) sc_places_behind.nd rfl (Or.inl rfl) (pv 4))))))
      (pss_one (ps_ret (pe_callTy (tupPK K) (by rfl) T.b_tuple (by decide +kernel) (pa_cons (pv 1) pa_nil))))))),
    (gs_seq (gs_own (gn_lst ga_nil))
      (gs_seq (gs_asg ge_int)
      (gs_seq (gs_for (gi_tup ge_var) gp_name (gs_seq (gs_asg (ge_op ge_var (ge_op ge_var ge_int r2_ix) r2_add))
      (gs_seq (gs_app (ge_tupRg2 ge_var ge_var))
      (gs_asg ge_var))))
      (gs_ret (ge_cb (ga_cons ge_var ga_nil) rc_tup)))))⟩
def m_Store_crates : List D → M D := defM 1 1
    (sRet (mFld stP "_crates" (mVar 0)))
theorem ok_Store_crates {f : Addr} {fd : FuncData} (F : Fun K "crates" "Store.crates" s_Store_crates f fd) (T : Tx P w K mg C W ea fI)  : FnOk P w K mg base CX0 1 f fd ["self"] (spC W m_Store_crates) :=
  ok_defC F sc_Store_crates (by decide) fun cdv A outer s H E hr => ⟨_, (pss_one (ps_ret (pe_fK K (pv 0)))),
    (gs_ret (ge_fld T.hp T.cls T.n_crates ge_var))⟩
def m_Store_size : List D → M D := defM 1 1
    (sRet (mFld stP "_size" (mVar 0)))
theorem ok_Store_size {f : Addr} {fd : FuncData} (F : Fun K "size" "Store.size" s_Store_size f fd) (T : Tx P w K mg C W ea fI)  : FnOk P w K mg base CX0 1 f fd ["self"] (spC W m_Store_size) :=
  ok_defC F sc_Store_size (by decide) fun cdv A outer s H E hr => ⟨_, (pss_one (ps_ret (pe_fK K (pv 0)))),
    (gs_ret (ge_fld T.hp T.cls T.n_size ge_var))⟩
def m_arrangements : Nat → List D → M D
  | 0 => fun _ => .bad
  | fuel + 1 => defM 7 2
    (sSeq (sIf (cAnd (cOf (mOp fEq (mCB fLen (mCons (mVar 0) mNil)) (mC (.int 0)))) (cOf (mOp fEq (mVar 1) (mC (.int 0))))) (sRet (mNew (mLst (mCons (mTup mNil) mNil)))) sNext)
    (sSeq (sOwn 2 (mLst mNil))
    (sSeq (sIf (cOf (mOp fGt (mVar 1) (mC (.int 0)))) (sExt 2 (mNew (mLc (iL (mCall (fun ds => (m_arrangements fuel ds).calm) (mCons (mVar 0) (mCons (mOp fSub (mVar 1) (mC (.int 1))) mNil)))) (pName 6) cYes (mOp fCatT (mTup (mCons (mC .non) mNil)) (mVar 6)) [6]))) sNext)
    (sSeq (sFor (iEnT (mVar 0)) (pTup [(pName 3), (pName 4)]) (sSeq (sAsg 5 (mOp fCatT (mSlT (mVar 0) oNone (oSome (mVar 3))) (mSlT (mVar 0) (oSome (mOp fAdd (mVar 3) (mC (.int 1)))) oNone)))
    (sExt 2 (mNew (mLc (iL (mCall (fun ds => (m_arrangements fuel ds).calm) (mCons (mVar 5) (mCons (mVar 1) mNil)))) (pName 6) cYes (mOp fCatT (mTup (mCons (mVar 4) mNil)) (mVar 6)) [6])))))
    (sRet (mVar 2))))))
theorem ok_arrangements {f : Addr} {fd : FuncData} (F : Fun K "arrangements" "arrangements" s_arrangements f fd) (T : Tx P w K mg C W ea fI)  (hg : mg "arrangements" = some (.ref f)) (hk : PySem.W.keepIn K (.ref f) = true) (hb : L2.Binds K fd ["names", "free"] []) : ∀ fuel : Nat, FnOk P w K mg base CX0 (fuel + 1) f fd ["names", "free"] (spC W (m_arrangements fuel))
  | 0 => F.ok sc_arrangements (fun vs H Q E h => by obtain ⟨Y, ds, o, hd, w⟩ := h; exact w.elim) (fun cdv A outer s H vs Q E hr h => by obtain ⟨Y, ds, o, hd, w⟩ := h; exact w.elim)
  | fuel + 1 =>
    have C_arrangements : Cal P w K mg base CX0 (fuel + 1) "arrangements" ["names", "free"] (spC W (m_arrangements fuel)) := ⟨_, _, ok_arrangements F T  hg hk hb fuel, hg, hk, hb⟩
    ok_defC F sc_arrangements (by decide) fun cdv A outer s H E hr => ⟨_, (pss_cons (ps_if (PW.pt (pw_and (pt_cmpR (eqK K hr.units) (pe_callB (lenK K) (by rfl) T.b_len (by decide +kernel) (pa_cons (pv 0) pa_nil)) pe_int (nomark _)) (pw_and1 (pt_cmpR (eqK K hr.units) (pv 1) pe_int (nomark _))))) (pss_one (ps_ret (pe_lst (pa_cons (pe_tupP pa_nil) pa_nil)))) pss_nil)
      (pss_cons (ps_set (i := 2) sc_arrangements.nd rfl (Or.inl rfl) (pe_lst pa_nil))
      (pss_cons (ps_if (pt_cmpR op_gt (pv 1) pe_int (nomark _)) (pss_one (ps_expr (pe_bm PySem.F.plainAttrs_list PySem.F.slot_list_extend PySem.F.type_list_extend mt_extend (pv 2) (pa_cons (pe_lc (own := [("rest", 6)]) (g := gName 6) rfl sc_arrangements.nd (pi_lK K (pe_cal (E := Cc.E0) C_arrangements hr pass0 (pa_cons (pv 0) (pa_cons (pe_op op_sub (pv 1) pe_int) pa_nil)) (hn := Nat.le_refl _))) (blkOk_by (own := [("rest", 6)]) (N := ["names", "free", "found", "at", "name", "others", "rest"]) (sc := defScope s_arrangements) (by decide +kernel)) (fun _ _ _ _ _ => (pg_name (i := 6) sc_arrangements.nd rfl (Or.inl rfl))) (fun _ _ _ _ _ => pts_nil) (fun _ _ _ _ _ => (pe_op op_catP (pe_tupP (pa_cons pe_non pa_nil)) (pv 6)))) pa_nil)))) pss_nil)
      (pss_cons (ps_for PassesOwn.never rfl (CcE.pi_enumT K T.b_enumerate (pa_cons (pv 0) pa_nil)) (pg_tK K (n := 2) rfl (pgs_cons (pg_name (i := 3) sc_arrangements.nd rfl (Or.inl rfl)) (pgs_cons (pg_name (i := 4) sc_arrangements.nd rfl (Or.inr rfl)) pgs_nil))) (pss_cons (ps_set (i := 5) sc_arrangements.nd rfl (Or.inl rfl) (pe_op op_catP (pe_slice sl_tupP (pv 0) po_none (po_some (pv 3))) (pe_slice sl_tupP (pv 0) (po_some (pe_op op_add (pv 3) pe_int)) po_none)))
      (pss_one (ps_expr (pe_bm PySem.F.plainAttrs_list PySem.F.slot_list_extend PySem.F.type_list_extend mt_extend (pv 2) (pa_cons (pe_lc (own := [("rest", 6)]) (g := gName 6) rfl sc_arrangements.nd (pi_lK K (pe_cal (E := Cc.E0) C_arrangements hr pass0 (pa_cons (pv 5) (pa_cons (pv 1) pa_nil)) (hn := Nat.le_refl _))) (blkOk_by (own := [("rest", 6)]) (N := ["names", "free", "found", "at", "name", "others", "rest"]) (sc := defScope s_arrangements) (by decide +kernel)) (fun _ _ _ _ _ => (pg_name (i := 6) sc_arrangements.nd rfl (Or.inl rfl))) (fun _ _ _ _ _ => pts_nil) (fun _ _ _ _ _ => (pe_op op_catP (pe_tupP (pa_cons (pv 4) pa_nil)) (pv 6)))) pa_nil))))))
      (pss_one (ps_ret (pv 2))))))),
    (gs_seq (gs_if (gt_and (gt_of (ge_op (ge_cb (ga_cons ge_var ga_nil) rc_len) ge_int r2_eq)) (gt_of (ge_op ge_var ge_int r2_eq))) (gs_ret (GN.ge (gn_lst (ga_cons (ge_tup ga_nil) ga_nil)))) gs_next)
      (gs_seq (gs_own (gn_lst ga_nil))
      (gs_seq (gs_if (gt_of (ge_op ge_var ge_int r2_B)) (gs_ext (GN.ge (gn_lc (gi_list (ge_call (ga_cons ge_var (ga_cons (ge_op ge_var ge_int r2_sub) ga_nil)))) gp_name gt_yes (ge_op (ge_tup (ga_cons ge_non ga_nil)) ge_var r2_catT)))) gs_next)
      (gs_seq (gs_for (gi_enT ge_var) (gp_tup (gps_cons gp_name (gps_cons gp_name gps_nil))) (gs_seq (gs_asg (ge_op (ge_slT ge_var go_none (go_some ge_var)) (ge_slT ge_var (go_some (ge_op ge_var ge_int r2_add)) go_none) r2_catT))
      (gs_ext (GN.ge (gn_lc (gi_list (ge_call (ga_cons ge_var (ga_cons ge_var ga_nil)))) gp_name gt_yes (ge_op (ge_tup (ga_cons ge_var ga_nil)) ge_var r2_catT))))))
      (gs_ret ge_var)))))⟩
def m_all_layouts : List D → M D := defM 1 1
    (sRet (mCall (fun ds => (m_arrangements 13 ds).calm) (mCons (mProp stP m_Store_crates (mVar 0)) (mCons (mOp fSub (mProp stP m_Store_size (mVar 0)) (mCB fLen (mCons (mProp stP m_Store_crates (mVar 0)) mNil))) mNil))))
theorem ok_all_layouts {f : Addr} {fd : FuncData} (F : Fun K "all_layouts" "all_layouts" s_all_layouts f fd) (T : Tx P w K mg C W ea fI) (M_crates : CPrp P w K mg base CX0 1 C "crates" (spC W m_Store_crates)) (M_size : CPrp P w K mg base CX0 1 C "size" (spC W m_Store_size)) (C_arrangements : Cal P w K mg base CX0 14 "arrangements" ["names", "free"] (spC W (m_arrangements 13))) : FnOk P w K mg base CX0 15 f fd ["store"] (spC W m_all_layouts) :=
  ok_defC F sc_all_layouts (by decide) fun cdv A outer s H E hr => ⟨_, (pss_one (ps_ret (pe_cal (E := Cc.E0) C_arrangements hr pass0 (pa_cons (pe_prp (E := Cc.E0) M_crates hr pass0 (pv 0)) (pa_cons (pe_op op_sub (pe_prp (E := Cc.E0) M_size hr pass0 (pv 0)) (pe_callB (lenK K) (by rfl) T.b_len (by decide +kernel) (pa_cons (pe_prp (E := Cc.E0) M_crates hr pass0 (pv 0)) pa_nil))) pa_nil))))),
    (gs_ret (ge_call (ga_cons (ge_prop T.hp ge_var) (ga_cons (ge_op (ge_prop T.hp ge_var) (ge_cb (ga_cons (ge_prop T.hp ge_var) ga_nil) rc_len) r2_sub) ga_nil))))⟩
def m_check_place : List D → M D := defM 2 2
    (sIf (cNot (cOf (mCall (fun ds => (m_is_number ds).calm) (mCons (mVar 1) (mCons (mC (.int 0)) (mCons (mOp fSub (mProp stP m_Store_size (mVar 0)) (mC (.int 1))) mNil)))))) (sErr "UnknownPlace") sNext)
theorem ok_check_place {f : Addr} {fd : FuncData} (F : Fun K "check_place" "check_place" s_check_place f fd) (T : Tx P w K mg C W ea fI) (M_size : CPrp P w K mg base CX0 1 C "size" (spC W m_Store_size)) (C_is_number : Cal P w K mg base CX0 1 "is_number" ["value", "low", "high"] (spC W m_is_number)) : FnOk P w K mg base (L2.CX P w) 3 f fd ["store", "place"] (spM W m_check_place) :=
  ok_defM F sc_check_place (by decide) fun cdv A outer s H E hr => ⟨_, (pss_one (ps_if (pt_not (pt_val (pe_cal (E := Cc.E0) C_is_number hr pass0 (pa_cons (pv 1) (pa_cons pe_int (pa_cons (pe_op op_sub (pe_prp (E := Cc.E0) M_size hr pass0 (pv 0)) pe_int) pa_nil)))))) (pss_one (ps_raiseT rfl (takes_of rfl rfl rfl rfl) T.x_UnknownPlace)) pss_nil)),
    (gs_if (gt_not (gt_ofB (ge_call (ga_cons ge_var (ga_cons ge_int (ga_cons (ge_op (ge_prop T.hp ge_var) ge_int r2_sub) ga_nil)))))) (gs_err T.ea_UnknownPlace fun _ _ _ _ h => h) gs_next)⟩
def m_Store_doors : List D → M D := defM 1 1
    (sRet (mFld stP "_doors" (mVar 0)))
theorem ok_Store_doors {f : Addr} {fd : FuncData} (F : Fun K "doors" "Store.doors" s_Store_doors f fd) (T : Tx P w K mg C W ea fI)  : FnOk P w K mg base CX0 1 f fd ["self"] (spC W m_Store_doors) :=
  ok_defC F sc_Store_doors (by decide) fun cdv A outer s H E hr => ⟨_, (pss_one (ps_ret (pe_fK K (pv 0)))),
    (gs_ret (ge_fld T.hp T.cls T.n_doors ge_var))⟩
def m_warmth_of : List D → M D := defM 3 2
    (sRet (mCB fSum (mCons (mNew (mLc (iL (mVar 1)) (pName 2) cYes (mOp fIx (mOp fIx (mProp stP m_Store_doors (mVar 0)) (mVar 2)) (mC (.int 0))) [2])) mNil)))
theorem ok_warmth_of {f : Addr} {fd : FuncData} (F : Fun K "warmth_of" "warmth_of" s_warmth_of f fd) (T : Tx P w K mg C W ea fI) (M_doors : CPrp P w K mg base CX0 1 C "doors" (spC W m_Store_doors)) : FnOk P w K mg base CX0 3 f fd ["store", "doors"] (spC W m_warmth_of) :=
  ok_defC F sc_warmth_of (by decide) fun cdv A outer s H E hr => ⟨_, (pss_one (ps_ret (pe_callB (sumK K) (by rfl) T.b_sum (by decide +kernel) (pa_cons (pe_lc (own := [("door", 2)]) (g := gName 2) rfl sc_warmth_of.nd (pi_lK K (pv 1)) (blkOk_by (own := [("door", 2)]) (N := ["store", "doors", "door"]) (sc := defScope s_warmth_of) (by decide +kernel)) (fun _ _ _ _ _ => (pg_name (i := 2) sc_warmth_of.nd rfl (Or.inl rfl))) (fun _ _ _ _ _ => pts_nil) (fun _ _ _ _ _ => (pe_ix (ixA K) (pe_ix (ixA K) (pe_prp (E := Cc.E0) M_doors hr pass0 (pv 0)) (pv 2) (fun _ _ => rfl)) pe_int (fun _ _ => rfl)))) pa_nil)))),
    (gs_ret (ge_cb (ga_cons (GN.ge (gn_lc (gi_list ge_var) gp_name gt_yes (ge_op (ge_op (ge_prop T.hp ge_var) ge_var r2_ix) ge_int r2_ix))) ga_nil) rc_sum))⟩
def m_warmth_in_turn : List D → M D := defM 5 2
    (sSeq (sAsg 2 (mNew (mLc (iEnL (mVar 1)) (pTup [(pName 3), (pName 4)]) (cOr (cOf (mOp fEq (mVar 3) (mC (.int 0)))) (cOf (mOp fNe (mOp fIx (mVar 1) (mOp fSub (mVar 3) (mC (.int 1)))) (mVar 4)))) (mVar 4) [3, 4])))
    (sRet (mCall (fun ds => (m_warmth_of ds).calm) (mCons (mVar 0) (mCons (mVar 2) mNil)))))
theorem ok_warmth_in_turn {f : Addr} {fd : FuncData} (F : Fun K "warmth_in_turn" "warmth_in_turn" s_warmth_in_turn f fd) (T : Tx P w K mg C W ea fI) (C_warmth_of : Cal P w K mg base CX0 3 "warmth_of" ["store", "doors"] (spC W m_warmth_of)) : FnOk P w K mg base CX0 4 f fd ["store", "doors"] (spC W m_warmth_in_turn) :=
  ok_defC F sc_warmth_in_turn (by decide) fun cdv A outer s H E hr => ⟨_, (pss_cons (ps_setLc (i := 2) (own := [("at", 3), ("door", 4)]) rfl sc_warmth_in_turn.nd rfl rfl (sw_true rfl rfl rfl (by decide +kernel)) (pi_enK K T.b_enumerate (pa_cons (pv 1) pa_nil)) (blkOk_by (own := [("at", 3), ("door", 4)]) (N := ["store", "doors", "opened", "at", "door"]) (sc := defScope s_warmth_in_turn) (by decide +kernel)) (fun _ _ _ _ _ => (pg_tK K (n := 2) rfl (pgs_cons (pg_name (i := 3) sc_warmth_in_turn.nd rfl (Or.inl rfl)) (pgs_cons (pg_name (i := 4) sc_warmth_in_turn.nd rfl (Or.inl rfl)) pgs_nil)))) (fun _ _ _ _ _ => (pts_one (PW.pt (pw_or (pt_cmpR (eqK K hr.units) (pv 3) pe_int (nomark _)) (pw_or1 (pt_cmpR (neK K hr.units) (pe_ix (ixA K) (pv 1) (pe_op op_sub (pv 3) pe_int) (fun _ _ => rfl)) (pv 4) (nomark _))))))) (fun _ _ _ _ _ => (pv 4)))
      (pss_one (ps_ret (pe_cal (E := Cc.E0) C_warmth_of hr pass0 (pa_cons (pv 0) (pa_cons (pv 2) pa_nil)))))),
    (gs_seq (gs_asg (GN.ge (gn_lc (gi_enL ge_var) (gp_tup (gps_cons gp_name (gps_cons gp_name gps_nil))) (gt_or (gt_of (ge_op ge_var ge_int r2_eq)) (gt_of (ge_op (ge_op ge_var (ge_op ge_var ge_int r2_sub) r2_ix) ge_var r2_ne))) ge_var)))
      (gs_ret (ge_call (ga_cons ge_var (ga_cons ge_var ga_nil)))))⟩
def m_check_plan : List D → M D := defM 6 2
    (sSeq (sOwnK 3 (mDc (iT (mProp stP m_Store_crates (mVar 0))) (pName 2) cYes (mVar 2) (mC (.str "in")) [2]))
    (sFor (iEnT (mVar 1)) (pTup [(pName 4), (pTup [(pName 5), (pName 2)])]) (sSeq (sIf (cOr (cOf (mOp fGe (mVar 4) (mC (.int 8)))) (cOr (cOf (mDIn 3 true (mVar 2))) (cOf (mOp fNe (mVar 5) (mDGet 3 (mVar 2)))))) (sErrF "InvalidPlan" (mVar 4)) sNext)
    (sDPutM 3 (mVar 2) (mIf (cOf (mOp fEq (mVar 5) (mC (.str "in")))) (mC (.str "out")) (mC (.str "in")))))))
theorem ok_check_plan {f : Addr} {fd : FuncData} (F : Fun K "check_plan" "check_plan" s_check_plan f fd) (T : Tx P w K mg C W ea fI) (M_crates : CPrp P w K mg base CX0 1 C "crates" (spC W m_Store_crates)) : FnOk P w K mg base (L2.CX P w) 3 f fd ["store", "plan"] (spM W m_check_plan) :=
  ok_defM F sc_check_plan (by decide) fun cdv A outer s H E hr => ⟨_, (pss_cons (ps_setDc (i := 3) (own := [("name", 2)]) (g := gName 2) rfl sc_check_plan.nd rfl rfl (sw_trueD rfl rfl rfl (by decide +kernel)) (pi_tK K (pe_prp (E := Cc.E0) M_crates hr pass0 (pv 0))) (blkOk_by (own := [("name", 2)]) (N := ["store", "plan", "name", "expected", "at", "word"]) (sc := defScope s_check_plan) (by decide +kernel)) (fun _ _ _ _ _ => (pg_name (i := 2) sc_check_plan.nd rfl (Or.inl rfl))) (fun _ _ _ _ _ => pts_nil) (fun _ _ _ _ _ => (pv 2)) (fun _ _ _ _ _ => pe_str))
      (pss_one (ps_for (passes_of rfl) rfl (CcE.pi_enumT K T.b_enumerate (pa_cons (pv 1) pa_nil)) (pg_tK K (n := 2) rfl (pgs_cons (pg_name (i := 4) sc_check_plan.nd rfl (Or.inl rfl)) (pgs_cons (pg_tK K (n := 2) rfl (pgs_cons (pg_name (i := 5) sc_check_plan.nd rfl (Or.inl rfl)) (pgs_cons (pg_name (i := 2) sc_check_plan.nd rfl (Or.inl rfl)) pgs_nil))) pgs_nil))) (pss_cons (ps_if (PW.pt (pw_or (pt_cmpR op_ge (pv 4) (pe_gc T.m_MOST_IN_PLAN) (nomark _)) (pw_or (pt_cmp (pc_dnotin (room1 hr.units65) (pv 2) (pv 3))) (pw_or1 (pt_cmpR (neK K hr.units) (pv 5) (pe_dget (room1 hr.units65) (pv 3) (pv 2) (fun _ _ => rfl)) (nomark _)))))) (pss_one (ps_raiseF rfl (takes_of rfl rfl rfl rfl) T.x_InvalidPlan hr (by decide) (pa_cons (pv 4) pa_nil))) pss_nil)
      (pss_one (ps_dput (room1 hr.units65) (pv 3) (pv 2) (pe_ifExp (pt_cmpR (eqK K hr.units) (pv 5) pe_str (nomark _)) pe_str pe_str) rfl)))))),
    (gs_seq (gs_ownK (gk_dc (gi_tup (ge_prop T.hp ge_var)) gp_name gt_yes ge_var ge_str))
      (gs_for (gi_enT ge_var) (gp_tup (gps_cons gp_name (gps_cons (gp_tup (gps_cons gp_name (gps_cons gp_name gps_nil))) gps_nil))) (gs_seq (gs_if (gt_or (gt_of (ge_op ge_var ge_int r2_B)) (gt_or (gt_of (ge_dnin (i := 3) ge_var)) (gt_of (ge_op ge_var (ge_dget (i := 3) ge_var) r2_ne)))) (gs_errF T.ea_InvalidPlan T.ef_InvalidPlan (fun _ _ _ _ h => h) ge_var) gs_next)
      (gs_dput (i := 3) ge_var (ge_if (gt_of (ge_op ge_var ge_str r2_eq)) ge_str ge_str)))))⟩
def m_Store_door_of : List D → M D := defM 3 2
    (sSeq (sExpr (mCall m_check_place (mCons (mVar 0) (mCons (mVar 1) mNil))))
    (sSeq (sAsg 2 (mC (.int 0)))
    (sSeq (whGo (cOf (mOp (fIn true) (mVar 1) (mOp fIx (mFld stP "_places" (mVar 0)) (mVar 2)))) (sAug 2 (fun i j => i + j) (mC (.int 1))) 1000)
    (sRet (mVar 2)))))
theorem ok_Store_door_of {f : Addr} {fd : FuncData} (F : Fun K "door_of" "Store.door_of" s_Store_door_of f fd) (T : Tx P w K mg C W ea fI) (C_check_place : Cal P w K mg base (L2.CX P w) 3 "check_place" ["store", "place"] (spM W m_check_place)) : FnOk P w K mg base (L2.CX P w) 4 f fd ["self", "place"] (spM W m_Store_door_of) :=
  ok_defM F sc_Store_door_of (by decide) fun cdv A outer s H E hr => ⟨_, (pss_cons (ps_expr (pe_calS C_check_place hr (takes_of rfl rfl rfl rfl) (pa_cons (pv 0) (pa_cons (pv 1) pa_nil))))
      (pss_cons (ps_set (i := 2) sc_Store_door_of.nd rfl (Or.inl rfl) pe_int)
      (pss_cons (ps_while (passes_of rfl) (pt_cmpR (niK K) (pv 1) (pe_ix (ixA K) (pe_fK K (pv 0)) (pv 2) (fun _ _ => rfl)) rfl) (pss_one (ps_aug (i := 2) sc_Store_door_of.nd rfl (Or.inl rfl) pe_int ip_add)))
      (pss_one (ps_ret (pv 2)))))),
    (gs_seq (gs_expr (ge_calS (fun _ => rfl) (ga_cons ge_var (ga_cons ge_var ga_nil))))
      (gs_seq (gs_asg ge_int)
      (gs_seq (gs_while (n := 1000) (gt_of (ge_op ge_var (ge_op (ge_fld T.hp T.cls T.n_places ge_var) ge_var r2_ix) r2_in)) (gs_aug ge_int))
      (gs_ret ge_var))))⟩
def m_least_of : List D → M D := defM 4 2
    (sRet (mCB fMin (mCons (mNew (mLc (iL (mVar 1)) (pName 2) cYes (mTup (mCons (mCall (fun ds => (m_warmth_in_turn ds).calm) (mCons (mVar 0) (mCons (mNew (mLc (iT (mVar 2)) (pName 3) cYes (mMeth stP "door_of" (fun ds => (m_Store_door_of ds).calm) (mVar 0) (mCons (mVar 3) mNil)) [3])) mNil))) (mCons (mVar 2) mNil))) [2])) mNil)))
theorem ok_least_of {f : Addr} {fd : FuncData} (F : Fun K "least_of" "least_of" s_least_of f fd) (T : Tx P w K mg C W ea fI) (M_door_of : CMet P w K mg base (L2.CX P w) 4 C "door_of" ["self", "place"] (spM W m_Store_door_of)) (C_warmth_in_turn : Cal P w K mg base CX0 4 "warmth_in_turn" ["store", "doors"] (spC W m_warmth_in_turn)) : FnOk P w K mg base (L2.CX P w) 5 f fd ["store", "ways"] (spM W m_least_of) :=
  ok_defM F sc_least_of (by decide) fun cdv A outer s H E hr => ⟨_, (pss_one (ps_ret (pe_callB (minL (K := K) hr.units65) (by rfl) T.b_min (by decide +kernel) (pa_cons (pe_lc (own := [("places", 2)]) (g := gName 2) rfl sc_least_of.nd (pi_lK K (pv 1)) (blkOk_by (own := [("places", 2)]) (N := ["store", "ways", "places", "place"]) (sc := defScope s_least_of) (by decide +kernel)) (fun _ _ _ _ _ => (pg_name (i := 2) sc_least_of.nd rfl (Or.inl rfl))) (fun _ _ _ _ _ => pts_nil) (fun _ _ _ _ _ => (pe_tupP (pa_cons (pe_cal (E := Cc.E0) C_warmth_in_turn hr pass0 (pa_cons (pv 0) (pa_cons (pe_lc (own := [("place", 3)]) (g := gName 3) rfl sc_least_of.nd (pi_tK K (pv 2)) (blkOk_by (own := [("place", 3)]) (N := ["store", "ways", "places", "place"]) (sc := relS _ (defScope s_least_of)) (by decide +kernel)) (fun _ _ _ _ _ => (pg_name (i := 3) sc_least_of.nd rfl (Or.inl rfl))) (fun _ _ _ _ _ => pts_nil) (fun _ _ _ _ _ => (pe_met (E := Cc.E0) M_door_of hr passN (pv 0) (pa_cons (pv 3) pa_nil)))) pa_nil))) (pa_cons (pv 2) pa_nil))))) pa_nil)))),
    (gs_ret (ge_cb (ga_cons (GN.ge (gn_lc (gi_list ge_var) gp_name gt_yes (ge_tup (ga_cons (ge_call (ga_cons ge_var (ga_cons (GN.ge (gn_lc (gi_tup ge_var) gp_name gt_yes (ge_methMC T.hp ge_var (ga_cons ge_var ga_nil)))) ga_nil))) (ga_cons ge_var ga_nil))))) ga_nil) rc_min))⟩
def m_allowed : List D → M D := defM 6 3
    (sSeq (sAsg 3 (mIf (cOf (mOp fEq (mVar 1) (mC (.str "in")))) (mC .non) (mVar 2)))
    (sRet (mNew (mLc (iEnT (mVar 0)) (pTup [(pName 4), (pName 5)]) (cOf (mOp fEq (mVar 5) (mVar 3))) (mVar 4) [4, 5]))))
theorem ok_allowed {f : Addr} {fd : FuncData} (F : Fun K "allowed" "allowed" s_allowed f fd) (T : Tx P w K mg C W ea fI)  : FnOk P w K mg base CX0 1 f fd ["lying", "word", "name"] (spC W m_allowed) :=
  ok_defC F sc_allowed (by decide) fun cdv A outer s H E hr => ⟨_, (pss_cons (ps_set (i := 3) sc_allowed.nd rfl (Or.inr rfl) (pe_ifExp (pt_cmpR (eqK K hr.units) (pv 1) pe_str (nomark _)) pe_non (pv 2)))
      (pss_one (ps_ret (pe_lc (own := [("place", 4), ("other", 5)]) rfl sc_allowed.nd (CcE.pi_enumT K T.b_enumerate (pa_cons (pv 0) pa_nil)) (blkOk_by (own := [("place", 4), ("other", 5)]) (N := ["lying", "word", "name", "sought", "place", "other"]) (sc := defScope s_allowed) (by decide +kernel)) (fun _ _ _ _ _ => (pg_tK K (n := 2) rfl (pgs_cons (pg_name (i := 4) sc_allowed.nd rfl (Or.inl rfl)) (pgs_cons (pg_name (i := 5) sc_allowed.nd rfl (Or.inl rfl)) pgs_nil)))) (fun _ _ _ _ _ => (pts_one (pt_cmpR (eqK K hr.units) (pv 5) (pv 3) (nomark _)))) (fun _ _ _ _ _ => (pv 4)))))),
    (gs_seq (gs_asg (ge_if (gt_of (ge_op ge_var ge_str r2_eq)) ge_non ge_var))
      (gs_ret (GN.ge (gn_lc (gi_enT ge_var) (gp_tup (gps_cons gp_name (gps_cons gp_name gps_nil))) (gt_of (ge_op ge_var ge_var r2_eq)) ge_var))))⟩
def m_replaced : List D → M D := defM 3 3
    (sRet (mOp fCatT (mOp fCatT (mSlT (mVar 0) oNone (oSome (mVar 1))) (mTup (mCons (mVar 2) mNil))) (mSlT (mVar 0) (oSome (mOp fAdd (mVar 1) (mC (.int 1)))) oNone)))
theorem ok_replaced {f : Addr} {fd : FuncData} (F : Fun K "replaced" "replaced" s_replaced f fd) (T : Tx P w K mg C W ea fI)  : FnOk P w K mg base CX0 1 f fd ["lying", "place", "name"] (spC W m_replaced) :=
  ok_defC F sc_replaced (by decide) fun cdv A outer s H E hr => ⟨_, (pss_one (ps_ret (pe_op op_catP (pe_op op_catP (pe_slice sl_tupP (pv 0) po_none (po_some (pv 1))) (pe_tupP (pa_cons (pv 2) pa_nil))) (pe_slice sl_tupP (pv 0) (po_some (pe_op op_add (pv 1) pe_int)) po_none)))),
    (gs_ret (ge_op (ge_op (ge_slT ge_var go_none (go_some ge_var)) (ge_tup (ga_cons ge_var ga_nil)) r2_catT) (ge_slT ge_var (go_some (ge_op ge_var ge_int r2_add)) go_none) r2_catT))⟩
def m_moving_places : List D → M D := defM 9 2
    (sSeq (sAsg 2 (mNew (mLst (mCons (mTup (mCons (mTup mNil) (mCons (mOp fRepT (mTup (mCons (mC .non) mNil)) (mProp stP m_Store_size (mVar 0))) mNil))) mNil))))
    (sSeq (sFor (iT (mVar 1)) (pTup [(pName 3), (pName 4)]) (sAsg 2 (mNew (mLc2 (iL (mVar 2)) (pTup [(pName 5), (pName 7)]) cYes (iL (mCall (fun ds => (m_allowed ds).calm) (mCons (mVar 7) (mCons (mVar 3) (mCons (mVar 4) mNil))))) (pName 8) cYes (mTup (mCons (mOp fCatT (mVar 5) (mTup (mCons (mVar 8) mNil))) (mCons (mCall (fun ds => (m_replaced ds).calm) (mCons (mVar 7) (mCons (mVar 8) (mCons (mIf (cOf (mOp fEq (mVar 3) (mC (.str "in")))) (mVar 4) (mC .non)) mNil)))) mNil))) [5, 7, 8] [8]))))
    (sRet (mNew (mLc (iL (mVar 2)) (pTup [(pName 5), (pName 6)]) cYes (mVar 5) [5, 6])))))
theorem ok_moving_places {f : Addr} {fd : FuncData} (F : Fun K "moving_places" "moving_places" s_moving_places f fd) (T : Tx P w K mg C W ea fI) (M_size : CPrp P w K mg base CX0 1 C "size" (spC W m_Store_size)) (C_allowed : Cal P w K mg base CX0 1 "allowed" ["lying", "word", "name"] (spC W m_allowed)) (C_replaced : Cal P w K mg base CX0 1 "replaced" ["lying", "place", "name"] (spC W m_replaced)) : FnOk P w K mg base CX0 3 f fd ["store", "plan"] (spC W m_moving_places) :=
  ok_defC F sc_moving_places (by decide) fun cdv A outer s H E hr => ⟨_, (pss_cons (ps_set (i := 2) sc_moving_places.nd rfl (Or.inl rfl) (pe_lst (pa_cons (pe_tupP (pa_cons (pe_tupP pa_nil) (pa_cons (pe_op op_repP (pe_tupP (pa_cons pe_non pa_nil)) (pe_prp (E := Cc.E0) M_size hr pass0 (pv 0))) pa_nil))) pa_nil)))
      (pss_cons (ps_for PassesOwn.never rfl (pi_tK K (pv 1)) (pg_tK K (n := 2) rfl (pgs_cons (pg_name (i := 3) sc_moving_places.nd rfl (Or.inr rfl)) (pgs_cons (pg_name (i := 4) sc_moving_places.nd rfl (Or.inr rfl)) pgs_nil))) (pss_one (ps_setLc2 (i := 2) (own := [("places", 5), ("lying", 7), ("place", 8)]) (vs1 := [8]) (g1 := gName 8) rfl sc_moving_places.nd rfl rfl (sw_true rfl rfl rfl (by decide +kernel)) (pi_lK K (pv 2)) (blkOk_by (own := [("places", 5), ("lying", 7), ("place", 8)]) (N := ["store", "plan", "ways", "word", "name", "places", "_", "lying", "place"]) (sc := defScope s_moving_places) (by decide +kernel)) (by decide) (fun _ _ _ _ _ => (pg_tK K (n := 2) rfl (pgs_cons (pg_name (i := 5) sc_moving_places.nd rfl (Or.inl rfl)) (pgs_cons (pg_name (i := 7) sc_moving_places.nd rfl (Or.inl rfl)) pgs_nil)))) (fun _ _ _ _ _ => pts_nil) (fun _ _ _ _ _ => (pi_lK K (pe_cal (E := Cc.E0) C_allowed hr pass0 (pa_cons (pv 7) (pa_cons (pv 3) (pa_cons (pv 4) pa_nil)))))) (fun _ _ _ _ _ => (pg_name (i := 8) sc_moving_places.nd rfl (Or.inl rfl))) (fun _ _ _ _ _ => pts_nil) (fun _ _ _ _ _ => (pe_tupP (pa_cons (pe_op op_catP (pv 5) (pe_tupP (pa_cons (pv 8) pa_nil))) (pa_cons (pe_cal (E := Cc.E0) C_replaced hr pass0 (pa_cons (pv 7) (pa_cons (pv 8) (pa_cons (pe_ifExp (pt_cmpR (eqK K hr.units) (pv 3) pe_str (nomark _)) (pv 4) pe_non) pa_nil)))) pa_nil)))))))
      (pss_one (ps_ret (pe_lc (own := [("places", 5), ("_", 6)]) rfl sc_moving_places.nd (pi_lK K (pv 2)) (blkOk_by (own := [("places", 5), ("_", 6)]) (N := ["store", "plan", "ways", "word", "name", "places", "_", "lying", "place"]) (sc := defScope s_moving_places) (by decide +kernel)) (fun _ _ _ _ _ => (pg_tK K (n := 2) rfl (pgs_cons (pg_name (i := 5) sc_moving_places.nd rfl (Or.inl rfl)) (pgs_cons (pg_name (i := 6) sc_moving_places.nd rfl (Or.inl rfl)) pgs_nil)))) (fun _ _ _ _ _ => pts_nil) (fun _ _ _ _ _ => (pv 5))))))),
    (gs_seq (gs_asg (GN.ge (gn_lst (ga_cons (ge_tup (ga_cons (ge_tup ga_nil) (ga_cons (ge_op (ge_tup (ga_cons ge_non ga_nil)) (ge_prop T.hp ge_var) r2_repT) ga_nil))) ga_nil))))
      (gs_seq (gs_for (gi_tup ge_var) (gp_tup (gps_cons gp_name (gps_cons gp_name gps_nil))) (gs_asg (GN.ge (gn_lc2 (gi_list ge_var) (gp_tup (gps_cons gp_name (gps_cons gp_name gps_nil))) gt_yes (gi_list (ge_call (ga_cons ge_var (ga_cons ge_var (ga_cons ge_var ga_nil))))) gp_name gt_yes (ge_tup (ga_cons (ge_op ge_var (ge_tup (ga_cons ge_var ga_nil)) r2_catT) (ga_cons (ge_call (ga_cons ge_var (ga_cons ge_var (ga_cons (ge_if (gt_of (ge_op ge_var ge_str r2_eq)) ge_var ge_non) ga_nil)))) ga_nil)))))))
      (gs_ret (GN.ge (gn_lc (gi_list ge_var) (gp_tup (gps_cons gp_name (gps_cons gp_name gps_nil))) gt_yes ge_var)))))⟩
def m_least_plan : List D → M D := defM 2 2
    (sSeq (sExpr (mCall m_check_plan (mCons (mVar 0) (mCons (mVar 1) mNil))))
    (sRet (mCall m_least_of (mCons (mVar 0) (mCons (mCall (fun ds => (m_moving_places ds).calm) (mCons (mVar 0) (mCons (mVar 1) mNil))) mNil)))))
theorem ok_least_plan {f : Addr} {fd : FuncData} (F : Fun K "least_plan" "least_plan" s_least_plan f fd) (T : Tx P w K mg C W ea fI) (C_check_plan : Cal P w K mg base (L2.CX P w) 3 "check_plan" ["store", "plan"] (spM W m_check_plan)) (C_least_of : Cal P w K mg base (L2.CX P w) 5 "least_of" ["store", "ways"] (spM W m_least_of)) (C_moving_places : Cal P w K mg base CX0 3 "moving_places" ["store", "plan"] (spC W m_moving_places)) : FnOk P w K mg base (L2.CX P w) 6 f fd ["store", "plan"] (spM W m_least_plan) :=
  ok_defM F sc_least_plan (by decide) fun cdv A outer s H E hr => ⟨_, (pss_cons (ps_expr (pe_calS C_check_plan hr (takes_of rfl rfl rfl rfl) (pa_cons (pv 0) (pa_cons (pv 1) pa_nil))))
      (pss_one (ps_ret (pe_calS C_least_of hr (takes_of rfl rfl rfl rfl) (pa_cons (pv 0) (pa_cons (pe_cal (E := Cc.E0) C_moving_places hr pass0 (pa_cons (pv 0) (pa_cons (pv 1) pa_nil))) pa_nil)))))),
    (gs_seq (gs_expr (ge_calS (fun _ => rfl) (ga_cons ge_var (ga_cons ge_var ga_nil))))
      (gs_ret (ge_calS (fun _ => rfl) (ga_cons ge_var (ga_cons (ge_call (ga_cons ge_var (ga_cons ge_var ga_nil))) ga_nil)))))⟩
def m_least_fixed : List D → M D := defM 6 2
    (sSeq (sExpr (mCall m_check_plan (mCons (mVar 0) (mCons (mVar 1) mNil))))
    (sSeq (sAsg 2 (mNew (mLc (iL (mCall (fun ds => (m_all_layouts ds).calm) (mCons (mVar 0) mNil))) (pName 3) cYes (mCB fTup (mCons (mNew (mLc (iT (mVar 1)) (pTup [(pName 4), (pName 5)]) cYes (mTIdx (mVar 3) (mVar 5)) [4, 5])) mNil)) [3])))
    (sRet (mCall m_least_of (mCons (mVar 0) (mCons (mVar 2) mNil))))))
theorem ok_least_fixed {f : Addr} {fd : FuncData} (F : Fun K "least_fixed" "least_fixed" s_least_fixed f fd) (T : Tx P w K mg C W ea fI) (C_all_layouts : Cal P w K mg base CX0 15 "all_layouts" ["store"] (spC W m_all_layouts)) (C_check_plan : Cal P w K mg base (L2.CX P w) 3 "check_plan" ["store", "plan"] (spM W m_check_plan)) (C_least_of : Cal P w K mg base (L2.CX P w) 5 "least_of" ["store", "ways"] (spM W m_least_of)) : FnOk P w K mg base (L2.CX P w) 16 f fd ["store", "plan"] (spM W m_least_fixed) :=
  ok_defM F sc_least_fixed (by decide) fun cdv A outer s H E hr => ⟨_, (pss_cons (ps_expr (pe_calS C_check_plan hr (takes_of rfl rfl rfl rfl) (pa_cons (pv 0) (pa_cons (pv 1) pa_nil))))
      (pss_cons (ps_setLc (i := 2) (own := [("layout", 3)]) (g := gName 3) rfl sc_least_fixed.nd rfl rfl (sw_true rfl rfl rfl (by decide +kernel)) (pi_lK K (pe_cal (E := Cc.E0) C_all_layouts hr pass0 (pa_cons (pv 0) pa_nil))) (blkOk_by (own := [("layout", 3)]) (N := ["store", "plan", "ways", "layout", "_", "name"]) (sc := defScope s_least_fixed) (by decide +kernel)) (fun _ _ _ _ _ => (pg_name (i := 3) sc_least_fixed.nd rfl (Or.inr rfl))) (fun _ _ _ _ _ => pts_nil) (fun _ _ _ _ _ => (pe_callTy (tupPK K) (by rfl) T.b_tuple (by decide +kernel) (pa_cons (pe_lc (own := [("_", 4), ("name", 5)]) rfl sc_least_fixed.nd (pi_tK K (pv 1)) (blkOk_by (own := [("_", 4), ("name", 5)]) (N := ["store", "plan", "ways", "layout", "_", "name"]) (sc := relS _ (defScope s_least_fixed)) (by decide +kernel)) (fun _ _ _ _ _ => (pg_tK K (n := 2) rfl (pgs_cons (pg_name (i := 4) sc_least_fixed.nd rfl (Or.inl rfl)) (pgs_cons (pg_name (i := 5) sc_least_fixed.nd rfl (Or.inl rfl)) pgs_nil)))) (fun _ _ _ _ _ => pts_nil) (fun _ _ _ _ _ => (pe_bmP PySem.F.slot_tuple_index PySem.F.type_tuple_index (mt_idxT (K := K)) (pv 3) (pa_cons (pv 5) pa_nil)))) pa_nil))))
      (pss_one (ps_ret (pe_calS C_least_of hr (takes_of rfl rfl rfl rfl) (pa_cons (pv 0) (pa_cons (pv 2) pa_nil))))))),
    (gs_seq (gs_expr (ge_calS (fun _ => rfl) (ga_cons ge_var (ga_cons ge_var ga_nil))))
      (gs_seq (gs_asg (GN.ge (gn_lc (gi_list (ge_call (ga_cons ge_var ga_nil))) gp_name gt_yes (ge_cb (ga_cons (GN.ge (gn_lc (gi_tup ge_var) (gp_tup (gps_cons gp_name (gps_cons gp_name gps_nil))) gt_yes (ge_tidx ge_var ge_var))) ga_nil) rc_tup))))
      (gs_ret (ge_calS (fun _ => rfl) (ga_cons ge_var (ga_cons ge_var ga_nil))))))⟩
def m_worth_moving : List D → M D := defM 2 2
    (sRet (mOp fSub (mOp fIx (mCall m_least_fixed (mCons (mVar 0) (mCons (mVar 1) mNil))) (mC (.int 0))) (mOp fIx (mCall m_least_plan (mCons (mVar 0) (mCons (mVar 1) mNil))) (mC (.int 0)))))
theorem ok_worth_moving {f : Addr} {fd : FuncData} (F : Fun K "worth_moving" "worth_moving" s_worth_moving f fd) (T : Tx P w K mg C W ea fI) (C_least_fixed : Cal P w K mg base (L2.CX P w) 16 "least_fixed" ["store", "plan"] (spM W m_least_fixed)) (C_least_plan : Cal P w K mg base (L2.CX P w) 6 "least_plan" ["store", "plan"] (spM W m_least_plan)) : FnOk P w K mg base (L2.CX P w) 17 f fd ["store", "plan"] (spM W m_worth_moving) :=
  ok_defM F sc_worth_moving (by decide) fun cdv A outer s H E hr => ⟨_, (pss_one (ps_ret (pe_op op_sub (pe_ix (ixA K) (pe_calS C_least_fixed hr (takes_of rfl rfl rfl rfl) (pa_cons (pv 0) (pa_cons (pv 1) pa_nil))) pe_int (fun _ _ => rfl)) (pe_ix (ixA K) (pe_calS C_least_plan hr (takes_of rfl rfl rfl rfl) (pa_cons (pv 0) (pa_cons (pv 1) pa_nil))) pe_int (fun _ _ => rfl))))),
    (gs_ret (ge_op (ge_op (ge_calS (fun _ => rfl) (ga_cons ge_var (ga_cons ge_var ga_nil))) ge_int r2_ix) (ge_op (ge_calS (fun _ => rfl) (ga_cons ge_var (ga_cons ge_var ga_nil))) ge_int r2_ix) r2_sub))⟩
def m_Store___init__ (C : Addr) : List D → M D := defI 0 C 4 3
    (sSeq (sIf (cNot (cOf (mCall (fun ds => (m_doors_fit ds).calm) (mCons (mVar 1) mNil)))) (sErrF "InvalidStore" (mC (.str "doors"))) sNext)
    (sSeq (sFldS 0 0 stP "_places" (mCall (fun ds => (m_places_behind ds).calm) (mCons (mVar 1) mNil)))
    (sSeq (sFldS 0 0 stP "_size" (mCB fSum (mCons (mNew (mLc (iT (mFld stP "_places" (mVar 0))) (pName 3) cYes (mCB fLen (mCons (mVar 3) mNil)) [3])) mNil)))
    (sSeq (sIf (cNot (cOf (mCall (fun ds => (m_crates_fit ds).calm) (mCons (mVar 2) (mCons (mFld stP "_size" (mVar 0)) mNil))))) (sErrF "InvalidStore" (mC (.str "crates"))) sNext)
    (sSeq (sFldS 0 0 stP "_doors" (mVar 1))
    (sFldS 0 0 stP "_crates" (mVar 2)))))))
theorem ok_Store___init__ {f : Addr} {fd : FuncData} (F : Fun K "__init__" "Store.__init__" s_Store___init__ f fd) (T : Tx P w K mg C W ea fI) (C_crates_fit : Cal P w K mg base CX0 2 "crates_fit" ["crates", "size"] (spC W m_crates_fit)) (C_doors_fit : Cal P w K mg base CX0 3 "doors_fit" ["doors"] (spC W m_doors_fit)) (C_places_behind : Cal P w K mg base CX0 1 "places_behind" ["doors"] (spC W m_places_behind)) : FnOk P w K mg base (L2.CX P w) 4 f fd ["self", "doors", "crates"] (spI W C (m_Store___init__ C)) :=
  ok_defI F sc_Store___init__ (by decide) T.cls0 fun cdv A outer s H E hr => ⟨_, (pss_cons (ps_if (pt_not (pt_val (pe_cal (E := Cc.E0) C_doors_fit hr pass0 (pa_cons (pv 1) pa_nil)))) (pss_one (ps_raiseF rfl (takes_of rfl rfl rfl rfl) T.x_InvalidStore hr (by decide) (pa_cons pe_str pa_nil))) pss_nil)
      (pss_cons (ps_fld (pv 0) (pe_cal (E := Cc.E0) C_places_behind hr pass0 (pa_cons (pv 1) pa_nil)) rfl)
      (pss_cons (ps_fld (pv 0) (pe_callB (sumK K) (by rfl) T.b_sum (by decide +kernel) (pa_cons (pe_lc (own := [("places", 3)]) (g := gName 3) rfl sc_Store___init__.nd (pi_tK K (pe_fK K (pv 0))) (blkOk_by (own := [("places", 3)]) (N := ["self", "doors", "crates", "places"]) (sc := defScope s_Store___init__) (by decide +kernel)) (fun _ _ _ _ _ => (pg_name (i := 3) sc_Store___init__.nd rfl (Or.inl rfl))) (fun _ _ _ _ _ => pts_nil) (fun _ _ _ _ _ => (pe_callB (lenK K) (by rfl) T.b_len (by decide +kernel) (pa_cons (pv 3) pa_nil)))) pa_nil)) rfl)
      (pss_cons (ps_if (pt_not (pt_val (pe_cal (E := Cc.E0) C_crates_fit hr pass0 (pa_cons (pv 2) (pa_cons (pe_fK K (pv 0)) pa_nil))))) (pss_one (ps_raiseF rfl (takes_of rfl rfl rfl rfl) T.x_InvalidStore hr (by decide) (pa_cons pe_str pa_nil))) pss_nil)
      (pss_cons (ps_fld (pv 0) (pv 1) rfl)
      (pss_one (ps_fld (pv 0) (pv 2) rfl))))))),
    (gs_seq (gs_if (gt_not (gt_ofB (ge_call (ga_cons ge_var ga_nil)))) (gs_errF T.ea_InvalidStore T.ef_InvalidStore (fun _ _ _ _ h => h) ge_str) gs_next)
      (gs_seq (gs_fld T.hcp T.cls0 T.cls T.n_places (ge_call (ga_cons ge_var ga_nil)))
      (gs_seq (gs_fld T.hcp T.cls0 T.cls T.n_size (ge_cb (ga_cons (GN.ge (gn_lc (gi_tup (ge_fld T.hp T.cls T.n_places ge_var)) gp_name gt_yes (ge_cb (ga_cons ge_var ga_nil) rc_len))) ga_nil) rc_sum))
      (gs_seq (gs_if (gt_not (gt_ofB (ge_call (ga_cons ge_var (ga_cons (ge_fld T.hp T.cls T.n_size ge_var) ga_nil))))) (gs_errF T.ea_InvalidStore T.ef_InvalidStore (fun _ _ _ _ h => h) ge_str) gs_next)
      (gs_seq (gs_fld T.hcp T.cls0 T.cls T.n_doors ge_var)
      (gs_fld T.hcp T.cls0 T.cls T.n_crates ge_var))))))⟩
end
end My

namespace My
open PySem L2 RZ Cc Mi
section
variable {P : Program} {w : World} {K : Fg} {mg : Str → Option Value} {base : Heap} {C : Addr} {W : Wd K} {ea fI : Str → Addr}
def m__law_told : M D → M D := defL 2 (fun m => (sSeq (sTry 2 errNames (sAct m) [("InvalidPlan", (some 1), fun p => (sRet (mXf 1 0 p)))])
    (sRet (mC .non))))
theorem gv__law_told {X : Cx} {g : Addr} {cdg : Value} {q : Str} (T : Tx P w K mg C W ea fI) (hK : X.K = K) (hm : X.mg = mg) : LamX.GivesTo X ["_law_work", "e"] "_law_told" (defScope s__law_told) g cdg (defBody s__law_told) "_law_work" q (TTw W m__law_told) := by
  subst hK hm
  exact gives_of (N := ["_law_work", "e"]) (by decide) fun f c' s H tl act => ⟨_, (pss_cons (ps_tryN rfl rfl LamX.takes0 (fun E pn xe tk => (pss_one (ps_expr (act _ pn xe E _ _ tk (fun _ _ _ _ h => h))))) (ClausesOk.named (i := 1) ⟨rfl, by decide, .inl T.h_InvalidPlan⟩ sc__law_told.nd rfl rfl (fun a oe cls d pn hz hf => (pss_one (ps_ret (pe_xg hz hf (pv 1))))) ClausesOk.nil))
      (pss_one (ps_ret pe_non))),
    fun Y0 m A => (gs_seq (gs_try (fun _ _ _ _ h => h) (fun E' => (gs_act A)) (ClR.cons T.xm_InvalidPlan (fun a A c' o p vs hE hc => (gs_ret (ge_xg (j := 0) hE hc T.ea_InvalidPlan T.ef_InvalidPlan T.xr_InvalidPlan T.xn_InvalidPlan_index))) ClR.nil))
      (gs_ret ge_non))⟩
def b_law (C : Addr) (A_least_fixed : Addr) (A_least_plan : Addr) (A_worth_moving : Addr) : Mi.Env → M Fl :=
    (sSeq (sAsg 10 (mCall (m_Store___init__ C) (mCons (mTup (mCons (mTup (mCons (mC (.int 5)) (mCons (mC (.int 1)) mNil))) (mCons (mTup (mCons (mC (.int 3)) (mCons (mC (.int 2)) mNil))) mNil))) (mCons (mTup (mCons (mC (.str "fig")) (mCons (mC (.str "plum")) mNil))) mNil))))
    (sSeq (sFor (rg1 (mC (.int 8))) (pName 2) (sSeq (sTupX [3, 9, 4] [.n (mLst mNil), .n (mLst mNil), .d (mC .non)])
    (sSeq (sFor (rg1 (mDraw 1 (mC (.int 11)))) (pName 5) (sSeq (sAsg 6 (mOp fIx (mNew (mLst (mCons (mC (.str "fig")) (mCons (mC (.str "plum")) mNil)))) (mDraw 1 (mC (.int 2)))))
    (sSeq (sAsgB 7 (mIf (cOf (mOp (fIn false) (mVar 6) (mVar 3))) (mC (.str "out")) (mC (.str "in"))))
    (sSeq (sIf (cOf (mOp fEq (mDraw 1 (mC (.int 10))) (mC (.int 0)))) (sSeq (sAsg 8 (mIf (cOf (mOp fEq (mVar 7) (mC (.str "in")))) (mC (.str "out")) (mC (.str "in"))))
    (sSeq (sPat (pTup [(pName 7), (pName 6)]) (mOp fIx (mNew (mLst (mCons (mTup (mCons (mC (.str "in")) (mCons (mC (.str "kiwi")) mNil))) (mCons (mTup (mCons (mC (.str "in")) (mCons (mC (.str "")) mNil))) (mCons (mTup (mCons (mC (.str "put")) (mCons (mVar 6) mNil))) (mCons (mTup (mCons (mVar 8) (mCons (mVar 6) mNil))) mNil)))))) (mDraw 1 (mC (.int 4)))))
    (sAsg 4 (mIf (cOf (mOp fIsN (mVar 4) (mC .non))) (mVar 5) (mVar 4))))) sNext)
    (sSeq (sAsg 4 (mIf (cAnd (cOf (mOp fIsN (mVar 4) (mC .non))) (cOf (mOp fEq (mVar 5) (mC (.int 8))))) (mVar 5) (mVar 4)))
    (sSeq (sApp 9 (mTup (mCons (mVar 7) (mCons (mVar 6) mNil))))
    (sSeq (sIf (cAnd (cOf (mOp fIsN (mVar 4) (mC .non))) (cOf (mOp fEq (mVar 7) (mC (.str "in"))))) (sApp 3 (mVar 6)) sNext)
    (sIf (cAnd (cOf (mOp fIsN (mVar 4) (mC .non))) (cOf (mOp fEq (mVar 7) (mC (.str "out"))))) (sRemS 3 (mVar 6)) sNext))))))))
    (sFor (iT (mTup (mCons (mC (.adr A_least_plan)) (mCons (mC (.adr A_least_fixed)) (mCons (mC (.adr A_worth_moving)) mNil))))) (pName 11) (sIf (cOf (mOp fNe (fun ρ => (m__law_told ((mCallV 11 [(A_least_plan, m_least_plan), (A_least_fixed, m_least_fixed), (A_worth_moving, m_worth_moving)] (mCons (mVar 10) (mCons (mCB fTup (mCons (mVar 9) mNil)) mNil))) ρ)).calm) (mVar 4))) (sRet (mC (.bl false))) sNext)))))
    (sRet (mC (.bl true)))))
def m_law (C : Addr) (A_least_fixed : Addr) (A_least_plan : Addr) (A_worth_moving : Addr) : M D := lawM 12 (b_law C A_least_fixed A_least_plan A_worth_moving)
theorem ok_law {ct : List Str → Option Addr} {cls : Nat → Addr} {ea' : Str → Option Addr} {ef : Str → List Str} {f : Addr} {c0 P0 : Addr} {oc dc pm ctv kV : Value} {od an : Option Addr} {sl : Array (Option Value)} (lk : K.lookup f = some ⟨oc, od, .func (PySem.W.fnOf "law" "law" (defArgs s_law) (defBody s_law) (defScope s_law) .none kV dc pm an (.ref c0) ctv), sl⟩) (hcd : PySem.W.codeIn K (.ref c0) "law" = true) (tb : LamX.TabB base mg c0 P0) {g__law_told : Addr} {cd__law_told : Value} (G__law_told : ∀ X : Cx, X.K = K → X.mg = mg → Taker X "_law_told" "_law_work" ["_law_work", "e"] g__law_told (defBody s__law_told) (defScope s__law_told) cd__law_told) (T : ∀ (S : Addr × List Int) (r : Addr), Tx P w K mg C (lamB K ct cls ea' ef S r P0 qLam) ea fI) (C_Store : ∀ (S : Addr × List Int) (r : Addr), CMk P w K mg base (L2.CX P w) 4 "Store" C ["self", "doors", "crates"] (spI (lamB K ct cls ea' ef S r P0 qLam) C (m_Store___init__ C))) (C__law_taken : ∀ (S : Addr × List Int) (r : Addr), Cal P w K mg base CX0 1 "_law_taken" ["_law_row", "_law_many"] (spTaken K)) (C_least_fixed : ∀ (S : Addr × List Int) (r : Addr), Cal P w K mg base (L2.CX P w) 16 "least_fixed" ["store", "plan"] (spM (lamB K ct cls ea' ef S r P0 qLam) m_least_fixed)) (C_least_plan : ∀ (S : Addr × List Int) (r : Addr), Cal P w K mg base (L2.CX P w) 6 "least_plan" ["store", "plan"] (spM (lamB K ct cls ea' ef S r P0 qLam) m_least_plan)) (C_worth_moving : ∀ (S : Addr × List Int) (r : Addr), Cal P w K mg base (L2.CX P w) 17 "worth_moving" ["store", "plan"] (spM (lamB K ct cls ea' ef S r P0 qLam) m_worth_moving)) (hw : Wp (m_law C (ea "least_fixed") (ea "least_plan") (ea "worth_moving")) (fun d => d = .bl true) (fun _ _ => False)) : FnOk P w K mg base CX0 20 f (PySem.W.fnOf "law" "law" (defArgs s_law) (defBody s_law) (defScope s_law) .none kV dc pm an (.ref c0) ctv) ["_law_script"] (spLawP K P0) :=
  Mi.ok_lawL (ct := ct) (cls := cls) (ea := ea') (ef := ef) lk hcd sc_law (by decide) (fun A outer s H E hr => ⟨_, pss_cons (ps_set (i := 1) sc_law.nd rfl (Or.inl rfl) (pe_lst (pa_cons (pv 0) (pa_cons pe_int (pa_cons pe_int (pa_cons pe_int pa_nil)))))) (pss_any fun i => (pss_cons (ps_set (i := 10) sc_law.nd rfl (Or.inr rfl) (pe_mk (C_Store i.1 i.2) hr (passes_call LamX.takes0 fun _ _ _ _ h => h) (pa_cons (pe_tupP (pa_cons (pe_tupP (pa_cons pe_int (pa_cons pe_int pa_nil))) (pa_cons (pe_tupP (pa_cons pe_int (pa_cons pe_int pa_nil))) pa_nil))) (pa_cons (pe_tupP (pa_cons pe_str (pa_cons pe_str pa_nil))) pa_nil))))
      (pss_cons (ps_for PassesOwn.never rfl (pi_range1 (by rfl) (T i.1 i.2).b_range (pa_cons pe_int pa_nil)) (pg_name (i := 2) sc_law.nd rfl (Or.inl rfl)) (pss_cons (ps_asg (pe_tupP (pa_cons (pe_lst pa_nil) (pa_cons (pe_lst pa_nil) (pa_cons pe_non pa_nil)))) (pg_tK K (n := 3) rfl (pgs_cons (pg_name (i := 3) sc_law.nd rfl (Or.inl rfl)) (pgs_cons (pg_name (i := 9) sc_law.nd rfl (Or.inr rfl)) (pgs_cons (pg_name (i := 4) sc_law.nd rfl (Or.inl rfl)) pgs_nil)))))
      (pss_cons (ps_for PassesOwn.never rfl (pi_range1 (by rfl) (T i.1 i.2).b_range (pa_cons (pe_cal (E := Cc.E0) (C__law_taken i.1 i.2) hr pass0 (pa_cons (pv 1) (pa_cons pe_int pa_nil))) pa_nil)) (pg_name (i := 5) sc_law.nd rfl (Or.inl rfl)) (pss_cons (ps_set (i := 6) sc_law.nd rfl (Or.inl rfl) (pe_ix (ixA K) (pe_lst (pa_cons pe_str (pa_cons pe_str pa_nil))) (pe_cal (E := Cc.E0) (C__law_taken i.1 i.2) hr pass0 (pa_cons (pv 1) (pa_cons pe_int pa_nil))) (fun _ _ => rfl)))
      (pss_cons (ps_set (i := 7) sc_law.nd rfl (Or.inl rfl) (pe_ifExp (pt_cmpR (inK K) (pv 6) (pv 3) rfl) pe_str pe_str))
      (pss_cons (ps_if (pt_cmpR (eqK K hr.units) (pe_cal (E := Cc.E0) (C__law_taken i.1 i.2) hr pass0 (pa_cons (pv 1) (pa_cons pe_int pa_nil))) pe_int (nomark _)) (pss_cons (ps_set (i := 8) sc_law.nd rfl (Or.inl rfl) (pe_ifExp (pt_cmpR (eqK K hr.units) (pv 7) pe_str (nomark _)) pe_str pe_str))
      (pss_cons (ps_asg (pe_ix (ixA K) (pe_lst (pa_cons (pe_tupP (pa_cons pe_str (pa_cons pe_str pa_nil))) (pa_cons (pe_tupP (pa_cons pe_str (pa_cons pe_str pa_nil))) (pa_cons (pe_tupP (pa_cons pe_str (pa_cons (pv 6) pa_nil))) (pa_cons (pe_tupP (pa_cons (pv 8) (pa_cons (pv 6) pa_nil))) pa_nil))))) (pe_cal (E := Cc.E0) (C__law_taken i.1 i.2) hr pass0 (pa_cons (pv 1) (pa_cons pe_int pa_nil))) (fun _ _ => rfl)) (pg_tK K (n := 2) rfl (pgs_cons (pg_name (i := 7) sc_law.nd rfl (Or.inl rfl)) (pgs_cons (pg_name (i := 6) sc_law.nd rfl (Or.inl rfl)) pgs_nil))))
      (pss_one (ps_set (i := 4) sc_law.nd rfl (Or.inl rfl) (pe_ifExp (pt_cmpR op_isN (pv 4) pe_non (nomark _)) (pv 5) (pv 4)))))) pss_nil)
      (pss_cons (ps_set (i := 4) sc_law.nd rfl (Or.inl rfl) (pe_ifExp (PW.pt (pw_and (pt_cmpR op_isN (pv 4) pe_non (nomark _)) (pw_and1 (pt_cmpR (eqK K hr.units) (pv 5) pe_int (nomark _))))) (pv 5) (pv 4)))
      (pss_cons (ps_expr (pe_bm PySem.F.plainAttrs_list PySem.F.slot_list_append PySem.F.type_list_append mt_append (pv 9) (pa_cons (pe_tupP (pa_cons (pv 7) (pa_cons (pv 6) pa_nil))) pa_nil)))
      (pss_cons (ps_if (PW.pt (pw_and (pt_cmpR op_isN (pv 4) pe_non (nomark _)) (pw_and1 (pt_cmpR (eqK K hr.units) (pv 7) pe_str (nomark _))))) (pss_one (ps_expr (pe_bm PySem.F.plainAttrs_list PySem.F.slot_list_append PySem.F.type_list_append mt_append (pv 3) (pa_cons (pv 6) pa_nil)))) pss_nil)
      (pss_one (ps_if (PW.pt (pw_and (pt_cmpR op_isN (pv 4) pe_non (nomark _)) (pw_and1 (pt_cmpR (eqK K hr.units) (pv 7) pe_str (nomark _))))) (pss_one (ps_expr (pe_bm PySem.F.plainAttrs_list PySem.F.slot_list_remove PySem.F.type_list_remove (mt_removeS (Nat.lt_of_succ_lt hr.units65)) (pv 3) (pa_cons (pv 6) pa_nil)))) pss_nil)))))))))
      (pss_one (ps_for PassesOwn.never rfl (pi_tK K (pe_tupP (pa_cons (pe_gc (T i.1 i.2).fc_least_plan) (pa_cons (pe_gc (T i.1 i.2).fc_least_fixed) (pa_cons (pe_gc (T i.1 i.2).fc_worth_moving) pa_nil))))) (pg_name (i := 11) sc_law.nd rfl (Or.inr rfl)) (pss_one (ps_if (pt_cmpR (neK K hr.units) (pe_lamS (T := [(P0, qLam)]) (P := P0) (k := 17) (G__law_told _ rfl rfl) sc__law_told (gv__law_told (T i.1 i.2) rfl rfl) tb rfl (List.mem_singleton.mpr rfl) (fun p hp _ => by rw [List.mem_singleton.mp hp]; rfl) hr (fun A outer s H E f c' hr => (pe_callV (i := 11) (heldV_cons (T i.1 i.2).fv_least_plan (C_least_plan i.1 i.2) (by decide) (heldV_cons (T i.1 i.2).fv_least_fixed (C_least_fixed i.1 i.2) (by decide) (heldV_cons (T i.1 i.2).fv_worth_moving (C_worth_moving i.1 i.2) (by decide) heldV_nil))) hr (takes_of rfl rfl rfl rfl) rfl (by first | exact .inl rfl | exact .inr (.inl rfl) | exact .inr (.inr rfl)) (pa_cons (pv 10) (pa_cons (pe_callTy (tupPK K) (by rfl) (T i.1 i.2).b_tuple (by decide +kernel) (pa_cons (pv 9) pa_nil)) pa_nil)))) (LamX.lamS_by (show LamX.lamSB (defScope s_law) _ = true by decide +kernel))) (pv 4) (nomark _)) (pss_one (ps_ret pe_bl)) pss_nil)))))))
      (pss_one (ps_ret pe_bl))))),
    fun i => (gs_seq (gs_asg (ge_make (ga_cons (ge_tup (ga_cons (ge_tup (ga_cons ge_int (ga_cons ge_int ga_nil))) (ga_cons (ge_tup (ga_cons ge_int (ga_cons ge_int ga_nil))) ga_nil))) (ga_cons (ge_tup (ga_cons ge_str (ga_cons ge_str ga_nil))) ga_nil))))
      (gs_seq (gs_for (gi_range1 ge_int) gp_name (gs_seq (gs_tupX (is := [3, 9, 4]) (GX.n (gn_lst ga_nil) (GX.n (gn_lst ga_nil) (GX.d ge_non GX.nil))))
      (gs_seq (gs_for (gi_range1 (ge_draw lamB_ok ge_int)) gp_name (gs_seq (gs_asg (ge_op (GN.ge (gn_lst (ga_cons ge_str (ga_cons ge_str ga_nil)))) (ge_draw lamB_ok ge_int) r2_ix))
      (gs_seq (gs_asgB (ge_if (gt_of (ge_op ge_var ge_var r2_in)) ge_str ge_str))
      (gs_seq (gs_if (gt_of (ge_op (ge_draw lamB_ok ge_int) ge_int r2_eq)) (gs_seq (gs_asg (ge_if (gt_of (ge_op ge_var ge_str r2_eq)) ge_str ge_str))
      (gs_seq (gs_pat (ge_op (GN.ge (gn_lst (ga_cons (ge_tup (ga_cons ge_str (ga_cons ge_str ga_nil))) (ga_cons (ge_tup (ga_cons ge_str (ga_cons ge_str ga_nil))) (ga_cons (ge_tup (ga_cons ge_str (ga_cons ge_var ga_nil))) (ga_cons (ge_tup (ga_cons ge_var (ga_cons ge_var ga_nil))) ga_nil)))))) (ge_draw lamB_ok ge_int) r2_ix) (gp_tup (gps_cons gp_name (gps_cons gp_name gps_nil))))
      (gs_asg (ge_if (gt_of (ge_op ge_var ge_non r2_isN)) ge_var ge_var)))) gs_next)
      (gs_seq (gs_asg (ge_if (gt_and (gt_of (ge_op ge_var ge_non r2_isN)) (gt_of (ge_op ge_var ge_int r2_eq))) ge_var ge_var))
      (gs_seq (gs_app (ge_tup (ga_cons ge_var (ga_cons ge_var ga_nil))))
      (gs_seq (gs_if (gt_and (gt_of (ge_op ge_var ge_non r2_isN)) (gt_of (ge_op ge_var ge_str r2_eq))) (gs_app ge_var) gs_next)
      (gs_if (gt_and (gt_of (ge_op ge_var ge_non r2_isN)) (gt_of (ge_op ge_var ge_str r2_eq))) (gs_remS ge_var) gs_next))))))))
      (gs_for (gi_tup (ge_tup (ga_cons ge_adr (ga_cons ge_adr (ga_cons ge_adr ga_nil))))) gp_name (gs_if (gt_of (ge_op (ge_lam lamB_tab lamB_ext (fun E' => (ge_callV (fun _ => rfl) (ga_cons ge_var (ga_cons (ge_cb (ga_cons ge_var ga_nil) rc_tup) ga_nil))))) ge_var r2_ne)) (gs_ret ge_bl) gs_next)))))
      (gs_ret ge_bl)))⟩) hw.out
end
end My

namespace Wm
def wl (l : List (Int × Int)) (j : Nat) : Int := (l.getD j (0, 0)).1
def rise (l : List (Int × Int)) (ws : List Int) : Option Nat → List Int
  | none => ws
  | some j => ws.set j (ws.getD j 0 + wl l j)
def cool (c : Int) (ws : List Int) : List Int := ws.map fun w => max 0 (w - c)
def hour (l : List (Int × Int)) (c : Int) (ws : List Int) (o : Option Nat) : List Int := cool c (rise l ws o)
def run (l : List (Int × Int)) (c : Int) (hs : List (Option Nat)) (ws : List Int) : List Int := hs.foldl (hour l c) ws
abbrev cold (l : List (Int × Int)) : List Int := List.replicate l.length 0
def hgt (l : List (Int × Int)) (ws : List Int) : Option Nat → Int
  | none => 0
  | some j => (rise l ws (some j)).getD j 0
def far (l : List (Int × Int)) (c : Int) (day : List (Option Nat)) (days : Int) : List Int :=
  if days = 0 then cold l else List.zipWith (fun e t => e + (days - 1) * (t - e)) (run l c day (cold l)) (run l c day (run l c day (cold l)))
def add (l : List (Int × Int)) (c : Int) (d : Nat) (o : Option Nat) : Int := (if o = some d then wl l d else 0) - c
def one (l : List (Int × Int)) (c : Int) (d : Nat) (x : Int) (o : Option Nat) : Int := max 0 (x + add l c d o)
def runD (l : List (Int × Int)) (c : Int) (d : Nat) (hs : List (Option Nat)) (x : Int) : Int := hs.foldl (one l c d) x
def low (l : List (Int × Int)) (c : Int) (d : Nat) : List (Option Nat) → Int → Int := runD l c d
section
variable {l : List (Int × Int)} {c : Int} {d : Nat}
end
def days (l : List (Int × Int)) (c : Int) (day : List (Option Nat)) : Nat → List Int
  | 0 => cold l
  | q + 1 => run l c day (days l c day q)
def seq (day : List (Option Nat)) (m : Nat) : List (Option Nat) := (List.range m).map fun h => day.getD (h % day.length) none
end Wm

namespace Wm
open Cc (minP ltP)
section
variable {l : List (Int × Int)} {c : Int} {day : List (Option Nat)}
def hv (l : List (Int × Int)) (c : Int) (day : List (Option Nat)) (m : Nat) : Int := hgt l (run l c (seq day m) (cold l)) (day.getD (m % day.length) none)
theorem hv_none {m : Nat} (ho : day.getD (m % day.length) none = none) : hv l c day m = 0 := by
  unfold hv
  rw [ho]
  rfl
end
section
variable {l : List (Int × Int)} {c : Int} {day : List (Option Nat)} {lim : Int}
def Hot (l : List (Int × Int)) (c : Int) (day : List (Option Nat)) (lim : Int) (m : Nat) : Prop := ∃ j, day.getD (m % day.length) none = some j ∧ hv l c day m > lim
end
end Wm

namespace Wm
open Cc (minP ltP)
section
variable {l : List (Int × Int)} {c : Int} {day : List (Option Nat)} {lim : Int}
def minO : List (Int × Int) → Option (Int × Int)
  | [] => none
  | p :: ps => some (minP p ps)
def FirstB (l : List (Int × Int)) (c : Int) (day : List (Option Nat)) (lim : Int) (N : Nat) : Option (Int × Int) → Prop
  | none => ∀ m < N, ¬ Hot l c day lim m
  | some p => ∃ m j : Nat, p = ((m : Int), (j : Int)) ∧ day.getD (m % day.length) none = some j ∧ hv l c day m > lim ∧ ∀ m' < m, ¬ Hot l c day lim m'
theorem FirstB.step {N : Nat} {b : Option (Int × Int)} (h0 : 0 ≤ lim) (h : FirstB l c day lim N b) (hn : b = none → hv l c day N ≤ lim) : FirstB l c day lim (N + 1) b := by
  cases b with
  | some p => exact h
  | none =>
    intro m hm hot
    rcases Nat.lt_or_ge m N with h1 | h1
    · exact h m h1 hot
    · have : m = N := by omega
      subst this
      obtain ⟨j, _, h2⟩ := hot
      have := hn rfl
      omega
theorem FirstB.new {N : Nat} (h0 : 0 ≤ lim) (h : FirstB l c day lim N none) (hn : hv l c day N > lim) : ∃ j, day.getD (N % day.length) none = some j ∧ FirstB l c day lim (N + 1) (some ((N : Int), (j : Int))) := by
  cases ho : day.getD (N % day.length) none with
  | none =>
    have := hv_none (l := l) (c := c) ho
    omega
  | some j => exact ⟨j, rfl, N, j, rfl, ho, hn, fun m' hm' => h m' hm'⟩
end
end Wm

namespace Wm
end Wm

namespace Wm
section
variable {l : List (Int × Int)} {c lim : Int} {day : List (Option Nat)}
end
end Wm

namespace Wm
section
variable {l : List (Int × Int)} {c lim : Int} {day : List (Option Nat)}
end
end Wm

namespace My
open PySem L2 Cc Mi Wm
def dT (p : Int × Int) : D := .ptup [.int p.1, .int p.2]
def dsT (l : List (Int × Int)) : D := .ptup (l.map dT)
def oD : Option Nat → D
  | none => .non
  | some j => .int (j : Nat)
abbrev stT (C : Addr) (l : List (Int × Int)) (a b c : D) : D := .ob C storeNs [a, b, dsT l, c]
theorem st_p : stP storeNs = true := by decide
theorem st_d {a b c d : D} : fAt storeNs [a, b, d, c] "_doors" = some d := rfl
theorem f_i {g : Int → Int → D} {i j : Int} : fI g (.int i) (.int j) = some (g i j) := rfl
theorem at_nat {ds : List D} {j : Nat} {d : D} (h : ds[j]? = some d) : atI ds (.ofNat j) = some d := by
  obtain ⟨hj, he⟩ := List.getElem?_eq_some_iff.mp h
  unfold atI ixN
  simp [hj, he]
theorem f_ixP {ds : List D} {j : Nat} {d : D} (h : ds[j]? = some d) : fIx (.ptup ds) (.int (j : Nat)) = some d := at_nat h
theorem f_ixD {l : List (Int × Int)} {j : Nat} (h : j < l.length) : fIx (dsT l) (.int (j : Nat)) = some (dT l[j]) := f_ixP (by simp [h])
theorem f_ix0 {p : Int × Int} : fIx (dT p) (.int 0) = some (.int p.1) := f_ixP (j := 0) rfl
theorem f_ixL {ds : List D} {j : Nat} {d : D} (h : ds[j]? = some d) : fIx (.lst ds) (.int (j : Nat)) = some d := at_nat h
section
variable {C : Addr} {l : List (Int × Int)} {a b c : D}
theorem x_doors : m_Store_doors [stT C l a b c] = .ret (dsT l) := by
  simp -implicitDefEqProofs only [defM, defR, lawM, fin, sSeq, sExpr, sAsg, sAsgB, sPat, sPatB, sOwn, sOwnB, sPar, sPar3, sRet, sRetN, sIf, sFor, sForB, sApp, sAppB, sExt, sExtB, sSet, sFz, sNext, sBreak, sCont, sAug, sAugL, sErrF, sErr, sParX, sParX3, agGo, Fl.next, Fl.turn, vB, ok1, okL, mVar, mC, mOp, mUn, mNil, mCons, mCB, mCBn, mCall, mTup, mLst, mNew, asB, cOf, cAnd, cOr, cNot, cYes, mAnd, mOr, mNot, mIf, mChain, oNone, asI, oSome, mOpN, mPt, iL, iT, mFld, mProp, mLenI, mSlT, mSlL, pName, pGo, pTup, pLst, wipeE, mIsT, mCallR, mDraw, isRow, look, M.bind_ret, M.bind_err, M.bind_bad, M.bind_draw, M.ofO_some, M.ofO_none, M.calm_ret, M.calm_bad, M.calm_draw, M.bind_assoc, M.wp_ret, List.length_cons, List.length_nil, List.map_cons, List.map_nil, List.replicate_zero, List.replicate_succ, List.cons_append, List.nil_append, List.set_cons_zero, List.set_cons_succ, List.getElem?_cons_zero, List.getElem?_cons_succ, Nat.reduceAdd, Nat.reduceSub, Nat.reduceLeDiff, Nat.reduceEqDiff, if_true, if_false, ite_true, ite_false, reduceIte, Bool.not_true, Bool.not_false, Bool.false_eq_true, m_Store_doors, st_p, st_d]
end
end My

namespace My
open PySem L2 Cc Mi Wm
section
variable {C : Addr} {l : List (Int × Int)} {a b c : D}
theorem f_eqI {i j : Int} : fEq (.int i) (.int j) = some (.bl (i == j)) := by
  unfold fEq D.eqv
  simp [D.pl, D.shp, D.py, PyData.eqv]
  exact ⟨rfl, rfl⟩
theorem f_neI {i j : Int} : fNe (.int i) (.int j) = some (.bl (!(i == j))) := by
  unfold fNe D.eqv
  simp [D.pl, D.shp, D.py, PyData.eqv]
  exact ⟨rfl, rfl⟩
theorem end_list {α : Type} (f : α → D) (xs : List α) : enD (xs.map f) = ((List.range xs.length).map fun i => (i, (xs.map f).getD i .non)).map fun p => D.tup [.int (p.1 : Nat), p.2] := by
  unfold enD
  rw [List.length_map, List.map_map]
  rfl
end
end My

namespace My
open PySem L2 Cc Mi Wm
section
variable {C : Addr} {l : List (Int × Int)} {a b c : D}
end
end My

namespace My
open PySem L2 Cc Mi Wm
abbrev jD (js : List Nat) : List D := js.map fun (j : Nat) => D.int (j : Int)
section
variable {C : Addr} {l : List (Int × Int)} {a b c : D}
end
end My

namespace Arr
variable {α : Type} [DecidableEq α]
def step (S : List α) (F : Nat) (p : List (Option α)) : List (List (Option α)) := (if p.count none < F then [p ++ [none]] else []) ++ (S.filter fun x => decide (some x ∉ p)).map fun x => p ++ [some x]
end Arr

namespace Arr
variable {α : Type} [DecidableEq α]
def nm (q : List (Option α)) : List α := q.filterMap id
end Arr

namespace My
open PySem L2 Cc Mi Wm
def oF {α : Type} (f : α → D) : Option α → D
  | none => .non
  | some x => f x
def rowF {α : Type} (f : α → D) (q : List (Option α)) : D := .ptup (q.map (oF f))
theorem f_catT {ds es : List D} (h : ds.length + es.length ≤ 100000) : fCatT (.ptup ds) (.ptup es) = some (.ptup (ds ++ es)) := if_pos h
end My

namespace My
open PySem L2 Cc Mi Wm
def rowP (p : Int × List Nat) : D := .ptup [.int p.1, .ptup (jD p.2)]
theorem min_rows {n : Nat} (p : Int × List Nat) (ps : List (Int × List Nat)) (hn : ∀ q ∈ p :: ps, q.2.length = n) : Mi.minO ((p :: ps).map rowP) = some (rowP (minT p ps)) := by
  have e0 : ∀ js : List Nat, cans (jD js) = true := fun js => by
    induction js with
    | nil => rfl
    | cons q qs ih => simp [cans, can, ih]
  have e0' : ∀ q : Int × List Nat, can (rowP q) = true := fun q => by simp [rowP, can, cans, e0]
  have e1 : ∀ qs : List (Int × List Nat), cans (qs.map rowP) = true := fun qs => by
    induction qs with
    | nil => rfl
    | cons q qs ih => simp [cans, e0', ih]
  have e2 : ∀ qs : List (Int × List Nat), D.pys (qs.map rowP) = qs.map fun q => (rowD q).py := fun qs => by
    rw [D.pys_map, List.map_map]; rfl
  have e3 : alikeB (D.pys ((p :: ps).map rowP)) = true := by
    rw [e2]
    have := alike_rows hn
    simp only [alikeB, Bool.and_eq_true, List.all_eq_true]
    refine ⟨fun x hx y hy => this.1 x hx y hy, fun x hx => ?_⟩
    obtain ⟨q, _, rfl⟩ := List.mem_map.mp hx
    rfl
  have e4 : PyData.depthAll (D.pys ((p :: ps).map rowP)) ≤ 60 := by
    rw [e2]
    exact Nat.le_trans (depth_rows (p :: ps)) (by decide)
  have e5 := e1 (p :: ps)
  rw [List.map_cons] at *
  unfold Mi.minO
  dsimp only
  rw [e5, e3, decide_eq_true e4]
  have e6 : PySem.W.minD (rowP p).py (D.pys (ps.map rowP)) = (rowP (minT p ps)).py := by
    rw [e2]; exact minD_rows ps p
  rw [e6, unpy_py _ (e0' _)]
  rfl
section
variable {C : Addr} {l : List (Int × Int)} {a b c : D}
end
end My

namespace My
open PySem L2 Cc Mi Wm
section
variable {C : Addr} {l : List (Int × Int)} {a b c : D}
theorem sum_map (ns : List Int) : fSum [.lst (ns.map D.int)] = some (.int ns.sum) := by
  show (match intsO (ns.map D.int) with | some ns => some (D.int ns.sum) | none => none) = _
  rw [intsO_map]
theorem n1 : stP ["_places"] = true := by decide
theorem n2 : stP ["_places", "_size"] = true := by decide
end
end My

namespace Mi
open PySem L2 Cc
mutual
def datOk : Nat → D → Bool
  | _, .non => true
  | _, .bl _ => true
  | _, .int _ => true
  | _, .str x => PyData.strOk x
  | n + 1, .lst ds => datOks n ds
  | n + 1, .tup ds => datOks n ds
  | n + 1, .ptup ds => datOks n ds
  | _, _ => false
def datOks : Nat → List D → Bool
  | _, [] => true
  | n, d :: ds => datOk n d && datOks n ds
end
mutual
theorem datOk_all : ∀ (n : Nat) (d : D), datOk n d = true → d.pl = true ∧ d.py.canLay0 = true ∧ d.py.depth ≤ n
  | n, .non, _ => ⟨rfl, rfl, Nat.zero_le _⟩
  | n, .bl _, _ => ⟨rfl, rfl, Nat.zero_le _⟩
  | n, .int _, _ => ⟨rfl, rfl, Nat.zero_le _⟩
  | n, .str x, h => ⟨rfl, by simpa [datOk, D.py, PyData.canLay0] using h, Nat.zero_le _⟩
  | n, .ob _ _ _, h => by cases n <;> simp [datOk] at h
  | n, .adr _, h => by cases n <;> simp [datOk] at h
  | n, .dct _ _ _, h => by cases n <;> simp [datOk] at h
  | n, .dks _ _, h => by cases n <;> simp [datOk] at h
  | 0, .lst _, h => by simp [datOk] at h
  | 0, .tup _, h => by simp [datOk] at h
  | 0, .ptup _, h => by simp [datOk] at h
  | n + 1, .lst ds, h => by
    obtain ⟨h1, h2, h3⟩ := datOks_all n ds (by simpa [datOk] using h)
    exact ⟨by simpa [D.pl] using h1, by simpa [D.py, PyData.canLay0] using h2, by simp only [D.py, PyData.depth]; omega⟩
  | n + 1, .tup ds, h => by
    obtain ⟨h1, h2, h3⟩ := datOks_all n ds (by simpa [datOk] using h)
    exact ⟨by simpa [D.pl] using h1, by simpa [D.py, PyData.canLay0] using h2, by simp only [D.py, PyData.depth]; omega⟩
  | n + 1, .ptup ds, h => by
    obtain ⟨h1, h2, h3⟩ := datOks_all n ds (by simpa [datOk] using h)
    exact ⟨by simpa [D.pl] using h1, by simpa [D.py, PyData.canLay0] using h2, by simp only [D.py, PyData.depth]; omega⟩
theorem datOks_all : ∀ (n : Nat) (ds : List D), datOks n ds = true → D.pls ds = true ∧ PyData.canLayAll0 (D.pys ds) = true ∧ PyData.depthAll (D.pys ds) ≤ n
  | n, [], _ => ⟨rfl, rfl, Nat.zero_le _⟩
  | n, d :: ds, h => by
    have h' : datOk n d = true ∧ datOks n ds = true := by simpa [datOks] using h
    obtain ⟨a1, a2, a3⟩ := datOk_all n d h'.1
    obtain ⟨b1, b2, b3⟩ := datOks_all n ds h'.2
    exact ⟨by simp [D.pls, a1, b1], by simp [D.pys, PyData.canLayAll0, a2, b2], by simp only [D.pys, PyData.depthAll]; omega⟩
end
theorem dat_pl {n : Nat} {d : D} (h : datOk n d = true) : d.pl = true := (datOk_all n d h).1
theorem dat_shp {n : Nat} {d : D} (h : datOk n d = true) (hn : n ≤ 64) : d.shp = true := by
  obtain ⟨_, h2, h3⟩ := datOk_all n d h
  have : d.py.depth ≤ 64 := by omega
  simp only [D.shp, SeqAt.shaped, h2, decide_eq_true this, Bool.and_self]
theorem dat_same {n : Nat} {d : D} (h : datOk n d = true) : d.eqv d = true := SeqAt.eqv_refl _ (datOk_all n d h).2.1
theorem f_neD {n : Nat} {d e : D} (h : datOk n d = true) (h' : datOk n e = true) (hn : n ≤ 64) : fNe d e = some (.bl (!d.eqv e)) := by
  unfold fNe
  rw [if_pos (by simp only [dat_pl h, dat_pl h', dat_shp h hn, dat_shp h' hn, Bool.and_self])]
theorem f_neSame {n : Nat} {d : D} (h : datOk n d = true) (hn : n ≤ 64) : fNe d d = some (.bl false) := by rw [f_neD h h hn, dat_same h]; rfl
end Mi

namespace My
open PySem L2 Cc Mi Wm
def names5 : List Str := ["fig", "jam", "kiwi", "lime", "plum"]
def nms (c : Nat) : List Str := names5.take c
section
variable {C : Addr} {l : List (Int × Int)} {c most crates : Nat} {Er : Str → List D → Prop}
end
end My

namespace My
open PySem L2 Cc Mi Wm
abbrev Row := List (Option Str)
abbrev rw (q : Row) : D := rowF D.str q
def rwV : Option Str → V
  | none => .non
  | some x => .str x
theorem row_sc (q : Row) : (q.map (oF D.str)).all Mi.D.sc = true := List.all_eq_true.mpr fun d hd => by
  obtain ⟨o, _, rfl⟩ := List.mem_map.mp hd
  cases o <;> rfl
theorem row_V (q : Row) : (q.map (oF D.str)).map Mi.D.toV = q.map rwV := by
  rw [List.map_map]
  exact List.map_congr_left fun o _ => by cases o <;> rfl
theorem eqV_row (o u : Option Str) : eqV (rwV o) (rwV u) = decide (o = u) := by
  cases o with
  | none => cases u <;> simp [rwV, eqV]
  | some a =>
    cases u with
    | none => simp [rwV, eqV]
    | some b =>
      by_cases h : a = b
      · subst h; simp [rwV, eqV]
      · simp [rwV, eqV, h]
theorem inV_row (o : Option Str) (q : Row) : inV (rwV o) (q.map rwV) = decide (o ∈ q) := by
  induction q with
  | nil => rfl
  | cons u q ih =>
    unfold inV at ih ⊢
    rw [List.map_cons, List.any_cons, ih, eqV_row]
    by_cases h : u = o
    · subst h; simp
    · simp [h, Ne.symm h]
theorem f_inStrs (neg : Bool) (x : Str) (xs : List Str) : fIn neg (.str x) (.ptup (xs.map D.str)) = some (.bl (if neg then decide (x ∉ xs) else decide (x ∈ xs))) := by
  have e : xs.map D.str = (xs.map some).map (oF D.str) := by rw [List.map_map]; rfl
  have h1 : (xs.map D.str).all Mi.D.sc = true := by rw [e]; exact row_sc _
  have h2 : inV (V.str x) ((xs.map D.str).map Mi.D.toV) = decide (x ∈ xs) := by
    rw [e, row_V]
    show inV (rwV (some x)) _ = _
    rw [inV_row]
    simp
  show (if (Mi.D.sc (.str x) && (xs.map D.str).all Mi.D.sc) = true then some (D.bl (if neg then !inV (V.str x) ((xs.map D.str).map Mi.D.toV) else inV (V.str x) ((xs.map D.str).map Mi.D.toV))) else none) = _
  rw [h1, h2]
  cases neg <;> simp [Mi.D.sc]
theorem idx_row (o : Option Str) : ∀ (q : Row) (i : Nat), o ∈ q → idxV (rwV o) (q.map rwV) i = some (i + q.idxOf o)
  | [], _, h => by cases h
  | u :: q, i, h => by
    unfold idxV
    rw [List.map_cons]
    by_cases e : u = o
    · subst e
      simp [idxV, eqV_row]
    · have h' : o ∈ q := by
        rcases List.mem_cons.mp h with h | h
        · exact absurd h.symm e
        · exact h
      have ih := idx_row o q (i + 1) h'
      simp [idxV, eqV_row, e, ih, List.idxOf_cons]
      have : (u == o) = false := by simpa using e
      simp [this]
      omega
theorem t_idx {a b : Mi.Env → M D} {ρ : Mi.Env} {q : Row} {x : Str} (h : a ρ = .ret (rw q)) (hb : b ρ = .ret (.str x)) (hx : some x ∈ q) : mTIdx a b ρ = .ret (.int (q.idxOf (some x) : Nat)) := by
  unfold mTIdx
  rw [h]
  show ((b ρ).bind fun e => if (Mi.D.sc e && (q.map (oF D.str)).all Mi.D.sc) = true then (match idxV (Mi.D.toV e) ((q.map (oF D.str)).map Mi.D.toV) 0 with
    | some j => M.ret (D.int (j : Nat))
    | none => .bad) else .bad) = _
  rw [hb, M.bind_ret, row_sc, row_V]
  show (match idxV (rwV (some x)) (q.map rwV) 0 with
    | some j => M.ret (D.int (j : Nat))
    | none => .bad) = _
  rw [idx_row _ _ _ hx, Nat.zero_add]
theorem lcGo_filt {α : Type} {p : Pat} {c : Mi.Env → M Bool} {e : Mi.Env → M D} {ρ : Mi.Env} (f : α → D) (t : α → Bool) (g : α → D) : ∀ xs : List α, (∀ x ∈ xs, ∃ ρ1, p (f x) ρ = some ρ1 ∧ c ρ1 = .ret (t x) ∧ (t x = true → e ρ1 = .ret (g x))) → lcGo p c e ρ (xs.map f) = .ret ((xs.filter t).map g)
  | [], _ => rfl
  | x :: xs, h => by
    obtain ⟨ρ1, h1, h2, h3⟩ := h x (by simp)
    have ih := lcGo_filt f t g xs fun y hy => h y (List.mem_cons_of_mem _ hy)
    rw [List.map_cons, lcGo, h1]
    dsimp only
    rw [h2, M.bind_ret]
    cases ht : t x with
    | true =>
      rw [if_pos rfl, h3 ht, M.bind_ret, ih, M.bind_ret, List.filter_cons, if_pos ht]
      rfl
    | false => rw [if_neg Bool.false_ne_true, ih, List.filter_cons, if_neg (by rw [ht]; exact Bool.false_ne_true)]
end My

namespace My
open PySem L2 Cc Mi Wm
section
variable {C : Addr} {l : List (Int × Int)} {c most crates : Nat}
end
end My

namespace My
open PySem L2 Cc Mi Wm
section
variable {C : Addr} {l : List (Int × Int)} {c most crates : Nat} {q : Row}
end
end My

namespace My
open PySem L2 Cc Mi Wm
end My

namespace My
open PySem L2 Cc Mi Wm
def rk : Option Str → Nat
  | none => 0
  | some x => names5.idxOf x + 1
def Asc (ns : List Str) : Prop := ns.Pairwise fun x y => rk (some x) < rk (some y)
theorem asc5 : Asc names5 := show names5.Pairwise fun x y => rk (some x) < rk (some y) by decide +kernel
theorem Asc.sub {xs ys : List Str} (h : Asc ys) (s : xs.Sublist ys) : Asc xs := List.Pairwise.sublist s h
theorem Asc.nms (c : Nat) : Asc (nms c) := asc5.sub (List.take_sublist _ _)
section
variable {l : List (Int × Int)} {c most crates d : Nat} {q y : Row}
end
end My

namespace My
open PySem L2 Cc Mi Wm
section
variable {C : Addr} {l : List (Int × Int)} {c most crates d : Nat} {q y : Row}
end
end My

namespace My
open PySem L2 Cc Mi Wm
end My

namespace My
open PySem L2 Cc Mi Wm
def ix (o : List Str) (x : Str) : Nat := (o.map some).idxOf (some x)
abbrev Pr := Str × Str
structure GP (c : Nat) (p : Pr) : Prop where
  a : p.1 ∈ nms c
  b : p.2 ∈ nms c
  ne : p.1 ≠ p.2
section
variable {C : Addr} {l : List (Int × Int)} {c most crates d : Nat} {q y : Row} {ns o : List Str} {ps : List Pr}
def tk (o : List Str) (p : Pr) : Bool := decide (p.1 ∈ o) && decide (p.2 ∈ o)
def keeps (o : List Str) (ps : List Pr) : Bool := (ps.filter (tk o)).all fun p => decide (ix o p.1 < ix o p.2)
def tmp (l : List (Int × Int)) (j : Nat) : Int := (l.getD j (0, 0)).1
def opn (ds : List Nat) : List Nat := ((List.range ds.length).filter fun k => decide (k = 0) || !decide (ds.getD (k - 1) 0 = ds.getD k 0)).map fun k => ds.getD k 0
def wS (l : List (Int × Int)) (ds : List Nat) : Int := ((opn ds).map (tmp l)).sum
theorem getJ {ds : List Nat} {k : Nat} (h : k < ds.length) : (jD ds)[k]? = some (.int (ds.getD k 0 : Nat)) := by
  unfold jD
  rw [List.getElem?_map, List.getElem?_eq_getElem h, List.getD_eq_getElem?_getD, List.getElem?_eq_getElem h]
  rfl
theorem opn_lt {ds : List Nat} {n : Nat} (h : ∀ j ∈ ds, j < n) : ∀ j ∈ opn ds, j < n := fun j hj => by
  obtain ⟨k, hk, rfl⟩ := List.mem_map.mp hj
  have hk := List.mem_range.mp (List.mem_filter.mp hk).1
  rw [List.getD_eq_getElem?_getD, List.getElem?_eq_getElem hk]
  exact h _ (List.getElem_mem hk)
theorem opn_le (ds : List Nat) : (opn ds).length ≤ ds.length := by
  unfold opn
  rw [List.length_map]
  have := List.length_filter_le (fun k => decide (k = 0) || !decide (ds.getD (k - 1) 0 = ds.getD k 0)) (List.range ds.length)
  rw [List.length_range] at this
  exact this
theorem dT0 {j : Nat} (hj : j < l.length) : fIx (dsT l) (.int (j : Nat)) = some (dT (l.getD j (0, 0))) := by
  rw [f_ixD hj, List.getD_eq_getElem?_getD, List.getElem?_eq_getElem hj]
  rfl
theorem x_warmths {a b e : D} {js : List Nat} (hj : ∀ j ∈ js, j < l.length) (hl : js.length ≤ 10) : m_warmth_of [stT C l a b e, .lst (jD js)] = .ret (.int ((js.map (tmp l)).sum)) := by
  have hl1 : (jD js).length ≤ 100000 := by unfold jD; rw [List.length_map]; omega
  have e1 : lcGo (pName 2) cYes (mOp fIx (mOp fIx (mProp stP m_Store_doors (mVar 0)) (mVar 2)) (mC (.int 0))) [.dat (stT C l a b e), .dat (.lst (jD js)), .no] (jD js) = .ret ((js.map (tmp l)).map D.int) := by
    rw [List.map_map]
    exact lcGo_map (fun j : Nat => D.int (j : Int)) (fun j => .int (tmp l j)) js fun j hj' => ⟨_, rfl, rfl, by simp -implicitDefEqProofs only [defM, defR, lawM, fin, sSeq, sExpr, sAsg, sAsgB, sPat, sPatB, sOwn, sOwnB, sPar, sPar3, sRet, sRetN, sIf, sFor, sForB, sApp, sAppB, sExt, sExtB, sSet, sFz, sNext, sBreak, sCont, sAug, sAugL, sErrF, sErr, sParX, sParX3, agGo, Fl.next, Fl.turn, vB, ok1, okL, mVar, mC, mOp, mUn, mNil, mCons, mCB, mCBn, mCall, mTup, mLst, mNew, asB, cOf, cAnd, cOr, cNot, cYes, mAnd, mOr, mNot, mIf, mChain, oNone, asI, oSome, mOpN, mPt, iL, iT, mFld, mProp, mLenI, mSlT, mSlL, pName, pGo, pTup, pLst, wipeE, mIsT, mCallR, mDraw, isRow, look, M.bind_ret, M.bind_err, M.bind_bad, M.bind_draw, M.ofO_some, M.ofO_none, M.calm_ret, M.calm_bad, M.calm_draw, M.bind_assoc, M.wp_ret, List.length_cons, List.length_nil, List.map_cons, List.map_nil, List.replicate_zero, List.replicate_succ, List.cons_append, List.nil_append, List.set_cons_zero, List.set_cons_succ, List.getElem?_cons_zero, List.getElem?_cons_succ, Nat.reduceAdd, Nat.reduceSub, Nat.reduceLeDiff, Nat.reduceEqDiff, if_true, if_false, ite_true, ite_false, reduceIte, Bool.not_true, Bool.not_false, Bool.false_eq_true, st_p, x_doors, dT0 (hj j hj'), f_ix0]; rfl⟩
  simp -implicitDefEqProofs only [defM, defR, lawM, fin, sSeq, sExpr, sAsg, sAsgB, sPat, sPatB, sOwn, sOwnB, sPar, sPar3, sRet, sRetN, sIf, sFor, sForB, sApp, sAppB, sExt, sExtB, sSet, sFz, sNext, sBreak, sCont, sAug, sAugL, sErrF, sErr, sParX, sParX3, agGo, Fl.next, Fl.turn, vB, ok1, okL, mVar, mC, mOp, mUn, mNil, mCons, mCB, mCBn, mCall, mTup, mLst, mNew, asB, cOf, cAnd, cOr, cNot, cYes, mAnd, mOr, mNot, mIf, mChain, oNone, asI, oSome, mOpN, mPt, iL, iT, mFld, mProp, mLenI, mSlT, mSlL, pName, pGo, pTup, pLst, wipeE, mIsT, mCallR, mDraw, isRow, look, M.bind_ret, M.bind_err, M.bind_bad, M.bind_draw, M.ofO_some, M.ofO_none, M.calm_ret, M.calm_bad, M.calm_draw, M.bind_assoc, M.wp_ret, List.length_cons, List.length_nil, List.map_cons, List.map_nil, List.replicate_zero, List.replicate_succ, List.cons_append, List.nil_append, List.set_cons_zero, List.set_cons_succ, List.getElem?_cons_zero, List.getElem?_cons_succ, Nat.reduceAdd, Nat.reduceSub, Nat.reduceLeDiff, Nat.reduceEqDiff, if_true, if_false, ite_true, ite_false, reduceIte, Bool.not_true, Bool.not_false, Bool.false_eq_true, m_warmth_of, mLc, hl1, e1, sum_map]
end
end My

namespace My
open PySem L2 Cc Mi Wm
def enJ (ds : List Nat) (i : Nat) : D := D.tup [.int (i : Nat), .int (ds.getD i 0 : Nat)]
theorem en_J (ds : List Nat) : enD (jD ds) = (List.range ds.length).map (enJ ds) := by
  unfold jD
  rw [end_list, List.map_map]
  refine List.map_congr_left fun i hi => ?_
  have := List.mem_range.mp hi
  show D.tup [_, (ds.map fun j : Nat => D.int (j : Int)).getD i .non] = _
  rw [List.getD_eq_getElem?_getD]
  have e := getJ this
  unfold jD at e
  rw [e]
  rfl
theorem ne_nat {a b : Nat} : fNe (.int (a : Nat)) (.int (b : Nat)) = some (.bl (!decide (a = b))) := by
  rw [f_neI]
  congr 3
  by_cases h : a = b
  · rw [h]; simp
  · rw [decide_eq_false h]
    simp only [beq_eq_false_iff_ne, ne_eq]
    omega
theorem eq_0 {a : Nat} : fEq (.int (a : Nat)) (.int 0) = some (.bl (decide (a = 0))) := by
  rw [f_eqI]
  congr 2
  by_cases h : a = 0
  · rw [h]; simp
  · rw [decide_eq_false h]
    simp only [beq_eq_false_iff_ne, ne_eq]
    omega
section
variable {C : Addr} {l : List (Int × Int)} {c most crates d : Nat} {q y : Row} {ns o : List Str} {ps : List Pr}
theorem x_turnW {a b e : D} {ds : List Nat} (hj : ∀ j ∈ ds, j < l.length) (hl : ds.length ≤ 10) : m_warmth_in_turn [stT C l a b e, .lst (jD ds)] = .ret (.int (wS l ds)) := by
  have hl1 : ((List.range ds.length).map (enJ ds)).length ≤ 100000 := by rw [List.length_map, List.length_range]; omega
  have e1 : lcGo (pTup [(pName 3), (pName 4)]) (cOr (cOf (mOp fEq (mVar 3) (mC (.int 0)))) (cOf (mOp fNe (mOp fIx (mVar 1) (mOp fSub (mVar 3) (mC (.int 1)))) (mVar 4)))) (mVar 4) [.dat (stT C l a b e), .dat (.lst (jD ds)), .no, .no, .no] ((List.range ds.length).map (enJ ds)) = .ret (jD (opn ds)) := by
    unfold opn jD
    rw [List.map_map]
    refine lcGo_filt (enJ ds) _ (fun k => .int (ds.getD k 0 : Nat)) _ fun i hi => ⟨_, rfl, ?_, fun _ => by simp -implicitDefEqProofs only [defM, defR, lawM, fin, sSeq, sExpr, sAsg, sAsgB, sPat, sPatB, sOwn, sOwnB, sPar, sPar3, sRet, sRetN, sIf, sFor, sForB, sApp, sAppB, sExt, sExtB, sSet, sFz, sNext, sBreak, sCont, sAug, sAugL, sErrF, sErr, sParX, sParX3, agGo, Fl.next, Fl.turn, vB, ok1, okL, mVar, mC, mOp, mUn, mNil, mCons, mCB, mCBn, mCall, mTup, mLst, mNew, asB, cOf, cAnd, cOr, cNot, cYes, mAnd, mOr, mNot, mIf, mChain, oNone, asI, oSome, mOpN, mPt, iL, iT, mFld, mProp, mLenI, mSlT, mSlL, pName, pGo, pTup, pLst, wipeE, mIsT, mCallR, mDraw, isRow, look, M.bind_ret, M.bind_err, M.bind_bad, M.bind_draw, M.ofO_some, M.ofO_none, M.calm_ret, M.calm_bad, M.calm_draw, M.bind_assoc, M.wp_ret, List.length_cons, List.length_nil, List.map_cons, List.map_nil, List.replicate_zero, List.replicate_succ, List.cons_append, List.nil_append, List.set_cons_zero, List.set_cons_succ, List.getElem?_cons_zero, List.getElem?_cons_succ, Nat.reduceAdd, Nat.reduceSub, Nat.reduceLeDiff, Nat.reduceEqDiff, if_true, if_false, ite_true, ite_false, reduceIte, Bool.not_true, Bool.not_false, Bool.false_eq_true]⟩
    have hi := List.mem_range.mp hi
    by_cases h0 : i = 0
    · rw [decide_eq_true h0]
      simp -implicitDefEqProofs only [defM, defR, lawM, fin, sSeq, sExpr, sAsg, sAsgB, sPat, sPatB, sOwn, sOwnB, sPar, sPar3, sRet, sRetN, sIf, sFor, sForB, sApp, sAppB, sExt, sExtB, sSet, sFz, sNext, sBreak, sCont, sAug, sAugL, sErrF, sErr, sParX, sParX3, agGo, Fl.next, Fl.turn, vB, ok1, okL, mVar, mC, mOp, mUn, mNil, mCons, mCB, mCBn, mCall, mTup, mLst, mNew, asB, cOf, cAnd, cOr, cNot, cYes, mAnd, mOr, mNot, mIf, mChain, oNone, asI, oSome, mOpN, mPt, iL, iT, mFld, mProp, mLenI, mSlT, mSlL, pName, pGo, pTup, pLst, wipeE, mIsT, mCallR, mDraw, isRow, look, M.bind_ret, M.bind_err, M.bind_bad, M.bind_draw, M.ofO_some, M.ofO_none, M.calm_ret, M.calm_bad, M.calm_draw, M.bind_assoc, M.wp_ret, List.length_cons, List.length_nil, List.map_cons, List.map_nil, List.replicate_zero, List.replicate_succ, List.cons_append, List.nil_append, List.set_cons_zero, List.set_cons_succ, List.getElem?_cons_zero, List.getElem?_cons_succ, Nat.reduceAdd, Nat.reduceSub, Nat.reduceLeDiff, Nat.reduceEqDiff, if_true, if_false, ite_true, ite_false, reduceIte, Bool.not_true, Bool.not_false, Bool.false_eq_true, eq_0, decide_eq_true h0]
      rfl
    · have e2 : fIx (.lst (jD ds)) (.int ((i : Nat) - 1)) = some (.int (ds.getD (i - 1) 0 : Nat)) := by
        rw [show ((i : Nat) : Int) - 1 = ((i - 1 : Nat) : Int) by omega]
        exact f_ixL (getJ (by omega))
      unfold jD at e2
      rw [decide_eq_false h0]
      simp -implicitDefEqProofs only [defM, defR, lawM, fin, sSeq, sExpr, sAsg, sAsgB, sPat, sPatB, sOwn, sOwnB, sPar, sPar3, sRet, sRetN, sIf, sFor, sForB, sApp, sAppB, sExt, sExtB, sSet, sFz, sNext, sBreak, sCont, sAug, sAugL, sErrF, sErr, sParX, sParX3, agGo, Fl.next, Fl.turn, vB, ok1, okL, mVar, mC, mOp, mUn, mNil, mCons, mCB, mCBn, mCall, mTup, mLst, mNew, asB, cOf, cAnd, cOr, cNot, cYes, mAnd, mOr, mNot, mIf, mChain, oNone, asI, oSome, mOpN, mPt, iL, iT, mFld, mProp, mLenI, mSlT, mSlL, pName, pGo, pTup, pLst, wipeE, mIsT, mCallR, mDraw, isRow, look, M.bind_ret, M.bind_err, M.bind_bad, M.bind_draw, M.ofO_some, M.ofO_none, M.calm_ret, M.calm_bad, M.calm_draw, M.bind_assoc, M.wp_ret, List.length_cons, List.length_nil, List.map_cons, List.map_nil, List.replicate_zero, List.replicate_succ, List.cons_append, List.nil_append, List.set_cons_zero, List.set_cons_succ, List.getElem?_cons_zero, List.getElem?_cons_succ, Nat.reduceAdd, Nat.reduceSub, Nat.reduceLeDiff, Nat.reduceEqDiff, if_true, if_false, ite_true, ite_false, reduceIte, Bool.not_true, Bool.not_false, Bool.false_eq_true, eq_0, decide_eq_false h0, f_i, e2, ne_nat]
      rfl
  have e3 := x_warmths (C := C) (l := l) (a := a) (b := b) (e := e) (js := opn ds) (opn_lt hj) (Nat.le_trans (opn_le ds) hl)
  simp -implicitDefEqProofs only [defM, defR, lawM, fin, sSeq, sExpr, sAsg, sAsgB, sPat, sPatB, sOwn, sOwnB, sPar, sPar3, sRet, sRetN, sIf, sFor, sForB, sApp, sAppB, sExt, sExtB, sSet, sFz, sNext, sBreak, sCont, sAug, sAugL, sErrF, sErr, sParX, sParX3, agGo, Fl.next, Fl.turn, vB, ok1, okL, mVar, mC, mOp, mUn, mNil, mCons, mCB, mCBn, mCall, mTup, mLst, mNew, asB, cOf, cAnd, cOr, cNot, cYes, mAnd, mOr, mNot, mIf, mChain, oNone, asI, oSome, mOpN, mPt, iL, iT, mFld, mProp, mLenI, mSlT, mSlL, pName, pGo, pTup, pLst, wipeE, mIsT, mCallR, mDraw, isRow, look, M.bind_ret, M.bind_err, M.bind_bad, M.bind_draw, M.ofO_some, M.ofO_none, M.calm_ret, M.calm_bad, M.calm_draw, M.bind_assoc, M.wp_ret, List.length_cons, List.length_nil, List.map_cons, List.map_nil, List.replicate_zero, List.replicate_succ, List.cons_append, List.nil_append, List.set_cons_zero, List.set_cons_succ, List.getElem?_cons_zero, List.getElem?_cons_succ, Nat.reduceAdd, Nat.reduceSub, Nat.reduceLeDiff, Nat.reduceEqDiff, if_true, if_false, ite_true, ite_false, reduceIte, Bool.not_true, Bool.not_false, Bool.false_eq_true, m_warmth_in_turn, iEnL, en_J, mLc, hl1, e1, e3]
  rfl
end
end My

namespace My
open PySem L2 Cc Mi Wm
def Ds (t : Sl) : Prop := t = .no ∨ ∃ z, t = .dat z
abbrev l2 : List (Int × Int) := [(5, 1), (3, 2)]
abbrev cr2 : D := .ptup [.str "fig", .str "plum"]
abbrev stD (C : Addr) : D := stT C l2 (.ptup [.ptup [.int 0], .ptup [.int 1, .int 2]]) (.int 3) cr2
theorem x_made (C : Addr) : m_Store___init__ C [.ptup [.ptup [.int 5, .int 1], .ptup [.int 3, .int 2]], cr2] = .ret (stD C) := by kernel_rfl
theorem x_told0 (d : D) : m__law_told (.ret d) = .ret .non := by kernel_rfl
theorem x_told1 (k : Int) : m__law_told (.err "InvalidPlan" [.int k]) = .ret (.int k) := by kernel_rfl
theorem x_door0 (C : Addr) : m_Store_door_of [stD C, .int 0] = .ret (.int 0) := by kernel_rfl
theorem x_door1 (C : Addr) : m_Store_door_of [stD C, .int 1] = .ret (.int 1) := by kernel_rfl
theorem x_door2 (C : Addr) : m_Store_door_of [stD C, .int 2] = .ret (.int 1) := by kernel_rfl
def L6 : List Row := [[none, some "fig", some "plum"], [none, some "plum", some "fig"], [some "fig", none, some "plum"], [some "fig", some "plum", none], [some "plum", none, some "fig"], [some "plum", some "fig", none]]
theorem x_all6 (C : Addr) : m_all_layouts [stD C] = .ret (.lst (L6.map rw)) := by kernel_rfl
abbrev It2 := Str × Str
def itP (p : It2) : D := .ptup [.str p.1, .str p.2]
def ex (a : Bool) : Str := if a then "out" else "in"
def stB (ab : Bool × Bool) (p : It2) : Bool × Bool := if p.2 = "fig" then (!ab.1, ab.2) else (ab.1, !ab.2)
def okB (ab : Bool × Bool) (p : It2) : Bool := (decide (p.2 = "fig") && decide (p.1 = ex ab.1)) || (decide (p.2 = "plum") && decide (p.1 = ex ab.2))
def chk : Nat → Bool × Bool → List It2 → Option Nat
  | _, _, [] => none
  | k, ab, p :: r => if 8 ≤ k then some k else if okB ab p then chk (k + 1) (stB ab p) r else some k
def runB (ab : Bool × Bool) (P : List It2) : Bool × Bool := P.foldl stB ab
theorem chk_app : ∀ (P : List It2) (k : Nat) (ab : Bool × Bool) (p : It2), chk k ab (P ++ [p]) = match chk k ab P with
    | some j => some j
    | none => if 8 ≤ k + P.length then some (k + P.length) else if okB (runB ab P) p then none else some (k + P.length)
  | [], k, ab, p => by
    show chk k ab [p] = _
    unfold chk
    simp [chk, runB]
    rfl
  | q :: P, k, ab, p => by
    rw [List.cons_append]
    unfold chk
    by_cases h : 8 ≤ k
    · rw [if_pos h, if_pos h]
    · rw [if_neg h, if_neg h]
      by_cases h2 : okB ab q = true
      · rw [if_pos h2, if_pos h2, chk_app P (k + 1) (stB ab q) p]
        have e : k + 1 + P.length = k + (q :: P).length := by rw [List.length_cons]; omega
        rw [e]
        rfl
      · rw [if_neg h2, if_neg h2]
theorem chk_len : ∀ (P : List It2) (k : Nat) (ab : Bool × Bool), k ≤ 8 → chk k ab P = none → k + P.length ≤ 8
  | [], k, _, hk, _ => hk
  | p :: P, k, ab, hk, h => by
    unfold chk at h
    split at h
    · cases h
    · split at h
      · have := chk_len P (k + 1) (stB ab p) (by omega) h
        rw [List.length_cons]; omega
      · cases h
theorem shown_small {k : Nat} (hk : k ≤ 100) : shown (.int (k : Nat)) = true := by
  have key : ∀ k : Nat, k < 101 → shown (.int (k : Nat)) = true := by decide +kernel
  exact key k (by omega)
def dkS (C : Addr) (P : List D) (s2 : Sl) (ab : Bool × Bool) (s4 s5 : Sl) : Mi.Env := [.dat (stD C), .dat (.ptup P), s2, .dk [(.inr "fig", .str (ex ab.1)), (.inr "plum", .str (ex ab.2))], s4, s5]
def kB : Mi.Env → M Fl := (sSeq (sIf (cOr (cOf (mOp fGe (mVar 4) (mC (.int 8)))) (cOr (cOf (mDIn 3 true (mVar 2))) (cOf (mOp fNe (mVar 5) (mDGet 3 (mVar 2)))))) (sErrF "InvalidPlan" (mVar 4)) sNext)
    (sDPutM 3 (mVar 2) (mIf (cOf (mOp fEq (mVar 5) (mC (.str "in")))) (mC (.str "out")) (mC (.str "in")))))
def words1 : List Str := ["in", "out", "put"]
def words2 : List Str := ["fig", "plum", "kiwi", ""]
def c2 : Mi.Env → M Bool := (cOr (cOf (mDIn 3 true (mVar 2))) (cOf (mOp fNe (mVar 5) (mDGet 3 (mVar 2)))))
def p2 : Mi.Env → M Fl := (sDPutM 3 (mVar 2) (mIf (cOf (mOp fEq (mVar 5) (mC (.str "in")))) (mC (.str "out")) (mC (.str "in"))))
theorem c2_run (C : Addr) (P : List D) (a b : Bool) (kk : Int) {w n : Str} (h1 : w ∈ words1) (h2 : n ∈ words2) : c2 (vB (dkS C P (.dat (.str n)) (a, b) (.dat (.int kk)) (.dat (.str w)))) = .ret (!okB (a, b) (w, n)) := by
  simp only [words1, words2, List.mem_cons, List.not_mem_nil, or_false] at h1 h2
  rcases h1 with rfl | rfl | rfl <;> rcases h2 with rfl | rfl | rfl | rfl <;> cases a <;> cases b <;> kernel_rfl
theorem p2_run (C : Addr) (P : List D) (a b : Bool) (kk : Int) {w n : Str} (h1 : w ∈ words1) (h2 : n ∈ words2) (ho : okB (a, b) (w, n) = true) : p2 (dkS C P (.dat (.str n)) (a, b) (.dat (.int kk)) (.dat (.str w))) = .ret (.nx (dkS C P (.dat (.str n)) (stB (a, b) (w, n)) (.dat (.int kk)) (.dat (.str w)))) := by
  simp only [words1, words2, List.mem_cons, List.not_mem_nil, or_false] at h1 h2
  rcases h1 with rfl | rfl | rfl <;> rcases h2 with rfl | rfl | rfl | rfl <;> cases a <;> cases b <;> first | exact absurd ho (by decide) | kernel_rfl
theorem kB_run (C : Addr) (P : List D) (ab : Bool × Bool) (k : Nat) (hk : k ≤ 100) (p : It2) (h1 : p.1 ∈ words1) (h2 : p.2 ∈ words2) : kB (dkS C P (.dat (.str p.2)) ab (.dat (.int (k : Nat))) (.dat (.str p.1))) = if 8 ≤ k then .err "InvalidPlan" [.int (k : Nat)] else if okB ab p then .ret (.nx (dkS C P (.dat (.str p.2)) (stB ab p) (.dat (.int (k : Nat))) (.dat (.str p.1)))) else .err "InvalidPlan" [.int (k : Nat)] := by
  have hge : fGe (.int (k : Nat)) (.int 8) = some (.bl (decide (8 ≤ k))) := by
    show some (D.bl (decide (((k : Nat) : Int) ≥ 8))) = _
    congr 2
    rw [Bool.eq_iff_iff, decide_eq_true_iff, decide_eq_true_iff]
    omega
  have hs := shown_small (k := k) hk
  obtain ⟨w, n⟩ := p
  obtain ⟨a, b⟩ := ab
  have e1 := c2_run C P a b (k : Nat) h1 h2
  have e2 := p2_run C P a b (k : Nat) h1 h2
  have hv : ∀ s4 s5 : D, vB (dkS C P (.dat (.str n)) (a, b) (.dat s4) (.dat s5)) = [.dat (stD C), .dat (.ptup P), .dat (.str n), .dkR [(.inr "fig", .str (ex a)), (.inr "plum", .str (ex b))], .dat s4, .dat s5] := fun _ _ => rfl
  generalize ((k : Nat) : Int) = kk at *
  have hc : (cOr (cOf (mOp fGe (mVar 4) (mC (.int 8)))) c2) (vB (dkS C P (.dat (.str n)) (a, b) (.dat (.int kk)) (.dat (.str w)))) = .ret (decide (8 ≤ k) || !okB (a, b) (w, n)) := by
    have h4 : (cOf (mOp fGe (mVar 4) (mC (.int 8)))) (vB (dkS C P (.dat (.str n)) (a, b) (.dat (.int kk)) (.dat (.str w)))) = .ret (decide (8 ≤ k)) := by
      rw [hv]
      simp -implicitDefEqProofs only [defM, defR, lawM, fin, sSeq, sExpr, sAsg, sAsgB, sPat, sPatB, sOwn, sOwnB, sPar, sPar3, sRet, sRetN, sIf, sFor, sForB, sApp, sAppB, sExt, sExtB, sSet, sFz, sNext, sBreak, sCont, sAug, sAugL, sErrF, sErr, sParX, sParX3, agGo, Fl.next, Fl.turn, vB, ok1, okL, mVar, mC, mOp, mUn, mNil, mCons, mCB, mCBn, mCall, mTup, mLst, mNew, asB, cOf, cAnd, cOr, cNot, cYes, mAnd, mOr, mNot, mIf, mChain, oNone, asI, oSome, mOpN, mPt, iL, iT, mFld, mProp, mLenI, mSlT, mSlL, pName, pGo, pTup, pLst, wipeE, mIsT, mCallR, mDraw, isRow, look, M.bind_ret, M.bind_err, M.bind_bad, M.bind_draw, M.ofO_some, M.ofO_none, M.calm_ret, M.calm_bad, M.calm_draw, M.bind_assoc, M.wp_ret, List.length_cons, List.length_nil, List.map_cons, List.map_nil, List.replicate_zero, List.replicate_succ, List.cons_append, List.nil_append, List.set_cons_zero, List.set_cons_succ, List.getElem?_cons_zero, List.getElem?_cons_succ, Nat.reduceAdd, Nat.reduceSub, Nat.reduceLeDiff, Nat.reduceEqDiff, if_true, if_false, ite_true, ite_false, reduceIte, Bool.not_true, Bool.not_false, Bool.false_eq_true, hge]
    unfold cOr
    rw [h4, M.bind_ret]
    cases decide (8 ≤ k)
    · rw [if_neg Bool.false_ne_true, e1, Bool.false_or]
    · rw [if_pos rfl, Bool.true_or]
  have he : sErrF "InvalidPlan" (mVar 4) (dkS C P (.dat (.str n)) (a, b) (.dat (.int kk)) (.dat (.str w))) = .err "InvalidPlan" [.int kk] := by
    unfold sErrF
    rw [hv]
    simp -implicitDefEqProofs only [defM, defR, lawM, fin, sSeq, sExpr, sAsg, sAsgB, sPat, sPatB, sOwn, sOwnB, sPar, sPar3, sRet, sRetN, sIf, sFor, sForB, sApp, sAppB, sExt, sExtB, sSet, sFz, sNext, sBreak, sCont, sAug, sAugL, sErrF, sErr, sParX, sParX3, agGo, Fl.next, Fl.turn, vB, ok1, okL, mVar, mC, mOp, mUn, mNil, mCons, mCB, mCBn, mCall, mTup, mLst, mNew, asB, cOf, cAnd, cOr, cNot, cYes, mAnd, mOr, mNot, mIf, mChain, oNone, asI, oSome, mOpN, mPt, iL, iT, mFld, mProp, mLenI, mSlT, mSlL, pName, pGo, pTup, pLst, wipeE, mIsT, mCallR, mDraw, isRow, look, M.bind_ret, M.bind_err, M.bind_bad, M.bind_draw, M.ofO_some, M.ofO_none, M.calm_ret, M.calm_bad, M.calm_draw, M.bind_assoc, M.wp_ret, List.length_cons, List.length_nil, List.map_cons, List.map_nil, List.replicate_zero, List.replicate_succ, List.cons_append, List.nil_append, List.set_cons_zero, List.set_cons_succ, List.getElem?_cons_zero, List.getElem?_cons_succ, Nat.reduceAdd, Nat.reduceSub, Nat.reduceLeDiff, Nat.reduceEqDiff, if_true, if_false, ite_true, ite_false, reduceIte, Bool.not_true, Bool.not_false, Bool.false_eq_true, hs]
  unfold kB sSeq sIf
  unfold c2 at hc
  rw [hc, M.bind_ret]
  by_cases h : 8 ≤ k
  · rw [if_pos h, decide_eq_true h, Bool.true_or, if_pos rfl, he]
    rfl
  · rw [if_neg h, decide_eq_false h, Bool.false_or]
    cases ho : okB (a, b) (w, n) with
    | true =>
      rw [Bool.not_true, if_neg Bool.false_ne_true, if_pos rfl]
      exact e2 ho
    | false =>
      rw [Bool.not_false, if_pos rfl, if_neg Bool.false_ne_true, he]
      rfl
def Wds (P : List It2) : Prop := ∀ p ∈ P, p.1 ∈ words1 ∧ p.2 ∈ words2
theorem chk_run (C : Addr) (PD : List D) : ∀ (P : List It2) (k : Nat) (ab : Bool × Bool) (s2 s4 s5 : Sl), k + P.length ≤ 100 → Ds s2 → Ds s4 → Ds s5 → Wds P →
    match chk k ab P with
    | some j => forGo (pTup [(pName 4), (pTup [(pName 5), (pName 2)])]) kB ((P.zipIdx k).map fun q => D.tup [.int (q.2 : Nat), itP q.1]) (dkS C PD s2 ab s4 s5) = .err "InvalidPlan" [.int (j : Nat)]
    | none => ∃ ρ', forGo (pTup [(pName 4), (pTup [(pName 5), (pName 2)])]) kB ((P.zipIdx k).map fun q => D.tup [.int (q.2 : Nat), itP q.1]) (dkS C PD s2 ab s4 s5) = .ret (.nx ρ')
  | [], k, ab, s2, s4, s5, _, _, _, _, _ => ⟨_, rfl⟩
  | p :: P, k, ab, s2, s4, s5, hk, h2, h4, h5, hw => by
    rw [List.length_cons] at hk
    obtain ⟨w1, w2⟩ := hw p (by simp)
    have run := kB_run C PD ab k (by omega) p w1 w2
    have ih := chk_run C PD P (k + 1) (stB ab p) (.dat (.str p.2)) (.dat (.int (k : Nat))) (.dat (.str p.1)) (by omega) (.inr ⟨_, rfl⟩) (.inr ⟨_, rfl⟩) (.inr ⟨_, rfl⟩) fun q hq => hw q (by simp [hq])
    have ep : (pTup [(pName 4), (pTup [(pName 5), (pName 2)])]) (D.tup [.int (k : Nat), itP p]) (dkS C PD s2 ab s4 s5) = some (dkS C PD (.dat (.str p.2)) ab (.dat (.int (k : Nat))) (.dat (.str p.1))) := by
      rcases h2 with rfl | ⟨z2, rfl⟩ <;> rcases h4 with rfl | ⟨z4, rfl⟩ <;> rcases h5 with rfl | ⟨z5, rfl⟩ <;> rfl
    have eg : ∀ X : M Fl, kB (dkS C PD (.dat (.str p.2)) ab (.dat (.int (k : Nat))) (.dat (.str p.1))) = X → forGo (pTup [(pName 4), (pTup [(pName 5), (pName 2)])]) kB (((p :: P).zipIdx k).map fun q => D.tup [.int (q.2 : Nat), itP q.1]) (dkS C PD s2 ab s4 s5) = X.bind fun f => f.turn fun ρ2 => forGo (pTup [(pName 4), (pTup [(pName 5), (pName 2)])]) kB ((P.zipIdx (k + 1)).map fun q => D.tup [.int (q.2 : Nat), itP q.1]) ρ2 := fun X hX => by
      rw [List.zipIdx_cons, List.map_cons, forGo, ep]
      dsimp only
      rw [hX]
    unfold chk
    by_cases c8 : 8 ≤ k
    · rw [if_pos c8] at run ⊢
      rw [eg _ run]
      rfl
    · rw [if_neg c8] at run ⊢
      cases ho : okB ab p with
      | false =>
        rw [ho, if_neg Bool.false_ne_true] at run
        rw [if_neg Bool.false_ne_true, eg _ run]
        rfl
      | true =>
        rw [ho, if_pos rfl] at run
        rw [if_pos rfl, eg _ run]
        exact ih
end My

namespace My
open PySem L2 Cc Mi Wm
theorem en_it2 (P : List It2) : enD (P.map itP) = (P.zipIdx 0).map fun q => D.tup [.int (q.2 : Nat), itP q.1] := by
  unfold enD
  refine List.ext_getElem ?_ fun i h1 h2 => ?_
  · simp
  · simp at h1
    simp [List.getD_eq_getElem?_getD, List.getElem?_map, h1]
theorem x_checkPlan (C : Addr) (P : List It2) (hl : P.length ≤ 100) (hw : Wds P) : m_check_plan [stD C, .ptup (P.map itP)] = match chk 0 (false, false) P with
    | some j => .err "InvalidPlan" [.int (j : Nat)]
    | none => .ret .non := by
  have hk : (sOwnK 3 (mDc (iT (mProp stP m_Store_crates (mVar 0))) (pName 2) cYes (mVar 2) (mC (.str "in")) [2])) [.dat (stD C), .dat (.ptup (P.map itP)), .no, .no, .no, .no] = .ret (.nx (dkS C (P.map itP) .no (false, false) .no .no)) := by
    generalize P.map itP = PD
    kernel_rfl
  have run := chk_run C (P.map itP) P 0 (false, false) .no .no .no (by omega) (.inl rfl) (.inl rfl) (.inl rfl) hw
  have he : iEnT (mVar 1) (dkS C (P.map itP) .no (false, false) .no .no) = .ret ((P.zipIdx 0).map fun q => D.tup [.int (q.2 : Nat), itP q.1]) := by
    rw [← en_it2]
    rfl
  show (M.bind (sSeq (sOwnK 3 (mDc (iT (mProp stP m_Store_crates (mVar 0))) (pName 2) cYes (mVar 2) (mC (.str "in")) [2])) (sFor (iEnT (mVar 1)) (pTup [(pName 4), (pTup [(pName 5), (pName 2)])]) kB) [.dat (stD C), .dat (.ptup (P.map itP)), .no, .no, .no, .no]) fin) = _
  unfold sSeq
  rw [hk, M.bind_ret]
  show (M.bind (sFor _ _ kB (dkS C (P.map itP) .no (false, false) .no .no)) fin) = _
  unfold sFor
  rw [he, M.bind_ret]
  cases hc : chk 0 (false, false) P with
  | some j =>
    rw [hc] at run
    dsimp only at run
    rw [run]
    rfl
  | none =>
    rw [hc] at run
    dsimp only at run
    obtain ⟨ρ', run⟩ := run
    rw [run]
    rfl
abbrev plD (p : List Nat) : D := .ptup (jD p)
def dr2 (i : Nat) : Nat := if i = 0 then 0 else 1
theorem x_dr (C : Addr) {i : Nat} (hi : i < 3) : m_Store_door_of [stD C, .int (i : Nat)] = .ret (.int (dr2 i : Nat)) := by
  match i, hi with
  | 0, _ => exact x_door0 C
  | 1, _ => exact x_door1 C
  | 2, _ => exact x_door2 C
theorem x_leastOf (C : Addr) {n : Nat} (hn : n ≤ 8) (w : List Nat) (ws : List (List Nat)) (hl : ws.length ≤ 9999) (h : ∀ p ∈ w :: ws, p.length = n ∧ ∀ i ∈ p, i < 3) : ∃ (a : Int) (p : List Nat), m_least_of [stD C, .lst ((w :: ws).map plD)] = .ret (.ptup [.int a, plD p]) := by
  have hc0 : storeNs.contains (Str.ofString "door_of") = false := rfl
  have hll : ((w :: ws).map plD).length ≤ 100000 := by rw [List.length_map, List.length_cons]; omega
  have e1 : lcGo (pName 2) cYes (mTup (mCons (mCall (fun ds => (m_warmth_in_turn ds).calm) (mCons (mVar 0) (mCons (mNew (mLc (iT (mVar 2)) (pName 3) cYes (mMeth stP "door_of" (fun ds => (m_Store_door_of ds).calm) (mVar 0) (mCons (mVar 3) mNil)) [3])) mNil))) (mCons (mVar 2) mNil))) [.dat (stD C), .dat (.lst ((w :: ws).map plD)), .no, .no] ((w :: ws).map plD) = .ret ((w :: ws).map fun p => rowP (wS l2 (p.map dr2), p)) := by
    refine lcGo_map plD (fun p => rowP (wS l2 (p.map dr2), p)) (w :: ws) fun p hp => ⟨_, rfl, rfl, ?_⟩
    obtain ⟨h1, h2⟩ := h p hp
    have hl1 : (jD p).length ≤ 100000 := by unfold jD; rw [List.length_map]; omega
    have e2 : lcGo (pName 3) cYes (mMeth stP "door_of" (fun ds => (m_Store_door_of ds).calm) (mVar 0) (mCons (mVar 3) mNil)) [.dat (stD C), .dat (.lst ((w :: ws).map plD)), .dat (plD p), .no] (jD p) = .ret (jD (p.map dr2)) := by
      unfold jD
      rw [List.map_map]
      refine lcGo_map (fun j : Nat => D.int (j : Int)) (fun i => .int (dr2 i : Nat)) p fun i hi => ⟨_, rfl, rfl, ?_⟩
      have e3 := x_dr C (h2 i hi)
      generalize (w :: ws).map plD = PW at *
      generalize ((i : Nat) : Int) = ii at *
      simp -implicitDefEqProofs only [defM, defR, lawM, fin, sSeq, sExpr, sAsg, sAsgB, sPat, sPatB, sOwn, sOwnB, sPar, sPar3, sRet, sRetN, sIf, sFor, sForB, sApp, sAppB, sExt, sExtB, sSet, sFz, sNext, sBreak, sCont, sAug, sAugL, sErrF, sErr, sParX, sParX3, agGo, Fl.next, Fl.turn, vB, ok1, okL, mVar, mC, mOp, mUn, mNil, mCons, mCB, mCBn, mCall, mTup, mLst, mNew, asB, cOf, cAnd, cOr, cNot, cYes, mAnd, mOr, mNot, mIf, mChain, oNone, asI, oSome, mOpN, mPt, iL, iT, mFld, mProp, mLenI, mSlT, mSlL, pName, pGo, pTup, pLst, wipeE, mIsT, mCallR, mDraw, isRow, look, M.bind_ret, M.bind_err, M.bind_bad, M.bind_draw, M.ofO_some, M.ofO_none, M.calm_ret, M.calm_bad, M.calm_draw, M.bind_assoc, M.wp_ret, List.length_cons, List.length_nil, List.map_cons, List.map_nil, List.replicate_zero, List.replicate_succ, List.cons_append, List.nil_append, List.set_cons_zero, List.set_cons_succ, List.getElem?_cons_zero, List.getElem?_cons_succ, Nat.reduceAdd, Nat.reduceSub, Nat.reduceLeDiff, Nat.reduceEqDiff, if_true, if_false, ite_true, ite_false, reduceIte, Bool.not_true, Bool.not_false, Bool.false_eq_true, mMeth, st_p, hc0, Bool.and_self, Bool.not_false, e3]
    have e3 := x_turnW (C := C) (l := l2) (a := .ptup [.ptup [.int 0], .ptup [.int 1, .int 2]]) (b := .int 3) (e := cr2) (ds := p.map dr2) (fun j hj => by
      obtain ⟨i, _, rfl⟩ := List.mem_map.mp hj
      unfold dr2
      split <;> decide) (by rw [List.length_map]; omega)
    have e3 : m_warmth_in_turn [stD C, .lst (jD (p.map dr2))] = .ret (.int (wS l2 (p.map dr2))) := e3
    have k2 : (2 : Nat) ≤ 100000 := by omega
    unfold rowP
    generalize jD (p.map dr2) = J at *
    generalize (w :: ws).map plD = PW at *
    generalize wS l2 (p.map dr2) = W2 at *
    unfold plD at *
    generalize jD p = JP at *
    simp -implicitDefEqProofs only [defM, defR, lawM, fin, sSeq, sExpr, sAsg, sAsgB, sPat, sPatB, sOwn, sOwnB, sPar, sPar3, sRet, sRetN, sIf, sFor, sForB, sApp, sAppB, sExt, sExtB, sSet, sFz, sNext, sBreak, sCont, sAug, sAugL, sErrF, sErr, sParX, sParX3, agGo, Fl.next, Fl.turn, vB, ok1, okL, mVar, mC, mOp, mUn, mNil, mCons, mCB, mCBn, mCall, mTup, mLst, mNew, asB, cOf, cAnd, cOr, cNot, cYes, mAnd, mOr, mNot, mIf, mChain, oNone, asI, oSome, mOpN, mPt, iL, iT, mFld, mProp, mLenI, mSlT, mSlL, pName, pGo, pTup, pLst, wipeE, mIsT, mCallR, mDraw, isRow, look, M.bind_ret, M.bind_err, M.bind_bad, M.bind_draw, M.ofO_some, M.ofO_none, M.calm_ret, M.calm_bad, M.calm_draw, M.bind_assoc, M.wp_ret, List.length_cons, List.length_nil, List.map_cons, List.map_nil, List.replicate_zero, List.replicate_succ, List.cons_append, List.nil_append, List.set_cons_zero, List.set_cons_succ, List.getElem?_cons_zero, List.getElem?_cons_succ, Nat.reduceAdd, Nat.reduceSub, Nat.reduceLeDiff, Nat.reduceEqDiff, if_true, if_false, ite_true, ite_false, reduceIte, Bool.not_true, Bool.not_false, Bool.false_eq_true, mLc, hl1, e2, e3, k2]
  have e4 : fMin [.lst ((w :: ws).map fun p => rowP (wS l2 (p.map dr2), p))] = some (rowP (minT (wS l2 (w.map dr2), w) (ws.map fun p => (wS l2 (p.map dr2), p)))) := by
    have := min_rows (n := n) (wS l2 (w.map dr2), w) (ws.map fun p => (wS l2 (p.map dr2), p)) fun q hq => by
      rcases List.mem_cons.mp hq with rfl | hq
      · exact (h w (by simp)).1
      · obtain ⟨p, hp, rfl⟩ := List.mem_map.mp hq
        exact (h p (by simp [hp])).1
    rw [List.map_cons, List.map_map] at this
    exact this
  refine ⟨(minT (wS l2 (w.map dr2), w) (ws.map fun p => (wS l2 (p.map dr2), p))).1, (minT (wS l2 (w.map dr2), w) (ws.map fun p => (wS l2 (p.map dr2), p))).2, ?_⟩
  have e5 : D.ptup [.int (minT (wS l2 (w.map dr2), w) (ws.map fun p => (wS l2 (p.map dr2), p))).1, plD (minT (wS l2 (w.map dr2), w) (ws.map fun p => (wS l2 (p.map dr2), p))).2] = rowP (minT (wS l2 (w.map dr2), w) (ws.map fun p => (wS l2 (p.map dr2), p))) := rfl
  rw [e5]
  generalize rowP (minT (wS l2 (w.map dr2), w) (ws.map fun p => (wS l2 (p.map dr2), p))) = R at *
  generalize (w :: ws).map (fun p => rowP (wS l2 (p.map dr2), p)) = RS at *
  generalize (w :: ws).map plD = PW at *
  simp -implicitDefEqProofs only [defM, defR, lawM, fin, sSeq, sExpr, sAsg, sAsgB, sPat, sPatB, sOwn, sOwnB, sPar, sPar3, sRet, sRetN, sIf, sFor, sForB, sApp, sAppB, sExt, sExtB, sSet, sFz, sNext, sBreak, sCont, sAug, sAugL, sErrF, sErr, sParX, sParX3, agGo, Fl.next, Fl.turn, vB, ok1, okL, mVar, mC, mOp, mUn, mNil, mCons, mCB, mCBn, mCall, mTup, mLst, mNew, asB, cOf, cAnd, cOr, cNot, cYes, mAnd, mOr, mNot, mIf, mChain, oNone, asI, oSome, mOpN, mPt, iL, iT, mFld, mProp, mLenI, mSlT, mSlL, pName, pGo, pTup, pLst, wipeE, mIsT, mCallR, mDraw, isRow, look, M.bind_ret, M.bind_err, M.bind_bad, M.bind_draw, M.ofO_some, M.ofO_none, M.calm_ret, M.calm_bad, M.calm_draw, M.bind_assoc, M.wp_ret, List.length_cons, List.length_nil, List.map_cons, List.map_nil, List.replicate_zero, List.replicate_succ, List.cons_append, List.nil_append, List.set_cons_zero, List.set_cons_succ, List.getElem?_cons_zero, List.getElem?_cons_succ, Nat.reduceAdd, Nat.reduceSub, Nat.reduceLeDiff, Nat.reduceEqDiff, if_true, if_false, ite_true, ite_false, reduceIte, Bool.not_true, Bool.not_false, Bool.false_eq_true, m_least_of, mLc, hll, e1, e4]
theorem l6_row : ∀ y ∈ L6, y.length = 3 ∧ some ("fig" : Str) ∈ y ∧ some ("plum" : Str) ∈ y := by decide
theorem x_fixed (C : Addr) (P : List It2) (hl : P.length ≤ 8) (hw : Wds P) (hn : ∀ p ∈ P, p.2 = "fig" ∨ p.2 = "plum") (hc : chk 0 (false, false) P = none) : ∃ (a : Int) (p : List Nat), m_least_fixed [stD C, .ptup (P.map itP)] = .ret (.ptup [.int a, plD p]) := by
  have e0 := x_checkPlan C P (by omega) hw
  rw [hc] at e0
  dsimp only at e0
  have e1 := x_all6 C
  have hll : (L6.map rw).length ≤ 100000 := by decide
  have hpl : (P.map itP).length ≤ 100000 := by rw [List.length_map]; omega
  have e2 : lcGo (pName 3) cYes (mCB fTup (mCons (mNew (mLc (iT (mVar 1)) (pTup [(pName 4), (pName 5)]) cYes (mTIdx (mVar 3) (mVar 5)) [4, 5])) mNil)) [.dat (stD C), .dat (.ptup (P.map itP)), .no, .no, .no, .no] (L6.map rw) = .ret ((L6.map fun y => P.map fun p => y.idxOf (some p.2)).map plD) := by
    rw [List.map_map]
    refine lcGo_map (p := pName 3) (c := cYes) (e := mCB fTup (mCons (mNew (mLc (iT (mVar 1)) (pTup [(pName 4), (pName 5)]) cYes (mTIdx (mVar 3) (mVar 5)) [4, 5])) mNil)) (ρ := [.dat (stD C), .dat (.ptup (P.map itP)), .no, .no, .no, .no]) (fun y : Row => rw y) (fun y : Row => plD (P.map fun p => y.idxOf (some p.2))) L6 fun y hy => ⟨[.dat (stD C), .dat (.ptup (P.map itP)), .no, .dat (rw y), .no, .no], rfl, rfl, ?_⟩
    have hy6 := l6_row y hy
    have e3 : lcGo (pTup [(pName 4), (pName 5)]) cYes (mTIdx (mVar 3) (mVar 5)) [.dat (stD C), .dat (.ptup (P.map itP)), .no, .dat (rw y), .no, .no] (P.map itP) = .ret (jD (P.map fun p => y.idxOf (some p.2))) := by
      unfold jD
      rw [List.map_map]
      refine lcGo_map itP (fun p => .int (y.idxOf (some p.2) : Nat)) P fun p hp => ⟨[.dat (stD C), .dat (.ptup (P.map itP)), .no, .dat (rw y), .dat (.str p.1), .dat (.str p.2)], rfl, rfl, ?_⟩
      exact t_idx (q := y) (x := p.2) rfl rfl (by
        rcases hn p hp with h | h
        · rw [h]; exact hy6.2.1
        · rw [h]; exact hy6.2.2)
    have e4 : fTup [.lst (jD (P.map fun p => y.idxOf (some p.2)))] = some (plD (P.map fun p => y.idxOf (some p.2))) := rfl
    generalize plD (P.map fun p => y.idxOf (some p.2)) = R at *
    generalize jD (P.map fun p => y.idxOf (some p.2)) = J at *
    generalize rw y = ry at *
    generalize P.map itP = PD at *
    simp -implicitDefEqProofs only [defM, defR, lawM, fin, sSeq, sExpr, sAsg, sAsgB, sPat, sPatB, sOwn, sOwnB, sPar, sPar3, sRet, sRetN, sIf, sFor, sForB, sApp, sAppB, sExt, sExtB, sSet, sFz, sNext, sBreak, sCont, sAug, sAugL, sErrF, sErr, sParX, sParX3, agGo, Fl.next, Fl.turn, vB, ok1, okL, mVar, mC, mOp, mUn, mNil, mCons, mCB, mCBn, mCall, mTup, mLst, mNew, asB, cOf, cAnd, cOr, cNot, cYes, mAnd, mOr, mNot, mIf, mChain, oNone, asI, oSome, mOpN, mPt, iL, iT, mFld, mProp, mLenI, mSlT, mSlL, pName, pGo, pTup, pLst, wipeE, mIsT, mCallR, mDraw, isRow, look, M.bind_ret, M.bind_err, M.bind_bad, M.bind_draw, M.ofO_some, M.ofO_none, M.calm_ret, M.calm_bad, M.calm_draw, M.bind_assoc, M.wp_ret, List.length_cons, List.length_nil, List.map_cons, List.map_nil, List.replicate_zero, List.replicate_succ, List.cons_append, List.nil_append, List.set_cons_zero, List.set_cons_succ, List.getElem?_cons_zero, List.getElem?_cons_succ, Nat.reduceAdd, Nat.reduceSub, Nat.reduceLeDiff, Nat.reduceEqDiff, if_true, if_false, ite_true, ite_false, reduceIte, Bool.not_true, Bool.not_false, Bool.false_eq_true, mLc, hpl, e3, e4]
  have h5 := x_leastOf C (n := P.length) hl (P.map fun p => List.idxOf (some p.2) ([none, some "fig", some "plum"] : Row)) ((L6.drop 1).map fun y => P.map fun p => y.idxOf (some p.2)) (by rw [List.length_map]; decide) fun p hp => by
    have hp : p ∈ L6.map fun y => P.map fun p => y.idxOf (some p.2) := hp
    obtain ⟨y, hy, rfl⟩ := List.mem_map.mp hp
    refine ⟨List.length_map _, fun i hi => ?_⟩
    obtain ⟨q, hq, rfl⟩ := List.mem_map.mp hi
    have hy6 := l6_row y hy
    rw [← hy6.1]
    rcases hn q hq with h | h <;> rw [h]
    · exact List.idxOf_lt_length_of_mem hy6.2.1
    · exact List.idxOf_lt_length_of_mem hy6.2.2
  obtain ⟨a, p, h5⟩ := h5
  refine ⟨a, p, ?_⟩
  have h5 : m_least_of [stD C, .lst ((L6.map fun y => P.map fun p => y.idxOf (some p.2)).map plD)] = .ret (.ptup [.int a, plD p]) := h5
  generalize plD p = pp at *
  generalize (L6.map fun y => P.map fun p => y.idxOf (some p.2)).map plD = WD at *
  generalize L6.map rw = LR at *
  generalize P.map itP = PD at *
  simp -implicitDefEqProofs only [defM, defR, lawM, fin, sSeq, sExpr, sAsg, sAsgB, sPat, sPatB, sOwn, sOwnB, sPar, sPar3, sRet, sRetN, sIf, sFor, sForB, sApp, sAppB, sExt, sExtB, sSet, sFz, sNext, sBreak, sCont, sAug, sAugL, sErrF, sErr, sParX, sParX3, agGo, Fl.next, Fl.turn, vB, ok1, okL, mVar, mC, mOp, mUn, mNil, mCons, mCB, mCBn, mCall, mTup, mLst, mNew, asB, cOf, cAnd, cOr, cNot, cYes, mAnd, mOr, mNot, mIf, mChain, oNone, asI, oSome, mOpN, mPt, iL, iT, mFld, mProp, mLenI, mSlT, mSlL, pName, pGo, pTup, pLst, wipeE, mIsT, mCallR, mDraw, isRow, look, M.bind_ret, M.bind_err, M.bind_bad, M.bind_draw, M.ofO_some, M.ofO_none, M.calm_ret, M.calm_bad, M.calm_draw, M.bind_assoc, M.wp_ret, List.length_cons, List.length_nil, List.map_cons, List.map_nil, List.replicate_zero, List.replicate_succ, List.cons_append, List.nil_append, List.set_cons_zero, List.set_cons_succ, List.getElem?_cons_zero, List.getElem?_cons_succ, Nat.reduceAdd, Nat.reduceSub, Nat.reduceLeDiff, Nat.reduceEqDiff, if_true, if_false, ite_true, ite_false, reduceIte, Bool.not_true, Bool.not_false, Bool.false_eq_true, m_least_fixed, e0, e1, mLc, hll, e2, h5]
end My

namespace My
open PySem L2 Cc Mi Wm
def opt3 : List (Option Str) := [none, some "fig", some "plum"]
def rows27 : List Row := opt3.flatMap fun a => opt3.flatMap fun b => opt3.map fun c => [a, b, c]
def V (ab : Bool × Bool) : List Row := rows27.filter fun y => decide (y.count (some ("fig" : Str)) = if ab.1 then 1 else 0) && decide (y.count (some ("plum" : Str)) = if ab.2 then 1 else 0)
def words3 : List Str := ["fig", "plum"]
def words4 : List Str := ["in", "out"]
def sought (w n : Str) : Option Str := if w = "in" then none else some n
def putO (w n : Str) : Option Str := if w = "in" then some n else none
def alW (y : Row) (w n : Str) : List Nat := (List.range 3).filter fun i => decide (y.getD i none = sought w n)
theorem al_run : ∀ y ∈ rows27, ∀ w ∈ words4, ∀ n ∈ words3, m_allowed [rw y, .str w, .str n] = .ret (.lst (jD (alW y w n))) := by
  intro y hy w hw n hn
  simp only [rows27, opt3, words4, words3, List.flatMap_cons, List.flatMap_nil, List.map_cons, List.map_nil, List.append_nil, List.cons_append, List.nil_append, List.mem_cons, List.not_mem_nil, or_false] at hy hw hn
  rcases hn with rfl | rfl <;> rcases hw with rfl | rfl <;> rcases hy with rfl | rfl | rfl | rfl | rfl | rfl | rfl | rfl | rfl | rfl | rfl | rfl | rfl | rfl | rfl | rfl | rfl | rfl | rfl | rfl | rfl | rfl | rfl | rfl | rfl | rfl | rfl <;> kernel_rfl
theorem re_run {y : Row} (hy : y.length = 3) {i : Nat} (hi : i < 3) (o : Option Str) : m_replaced [rw y, .int (i : Nat), oF D.str o] = .ret (rw (y.set i o)) := by
  obtain ⟨a, b, c, rfl⟩ : ∃ a b c, y = [a, b, c] := by
    match y, hy with
    | [a, b, c], _ => exact ⟨a, b, c, rfl⟩
  match i, hi with
  | 0, _ => kernel_rfl
  | 1, _ => kernel_rfl
  | 2, _ => kernel_rfl
theorem V_sub (ab : Bool × Bool) : ∀ y ∈ V ab, y ∈ rows27 := fun y hy => (List.mem_filter.mp hy).1
theorem rows_len : ∀ y ∈ rows27, y.length = 3 := by decide +kernel
theorem V_step : ∀ a b : Bool, ∀ w ∈ words4, ∀ n ∈ words3, okB (a, b) (w, n) = true → ∀ y ∈ V (a, b), alW y w n ≠ [] ∧ (alW y w n).length ≤ 3 ∧ ∀ i ∈ alW y w n, i < 3 ∧ y.set i (putO w n) ∈ V (stB (a, b) (w, n)) := by decide +kernel
abbrev Wy := List Nat × Row
def wyD (q : Wy) : D := .ptup [plD q.1, rw q.2]
def stepW (p : It2) (ws : List Wy) : List Wy := ws.flatMap fun q => (alW q.2 p.1 p.2).map fun i => (q.1 ++ [i], q.2.set i (putO p.1 p.2))
def inB : Mi.Env → M (List D) := (iL (mCall (fun ds => (m_allowed ds).calm) (mCons (mVar 7) (mCons (mVar 3) (mCons (mVar 4) mNil)))))
def inE : Mi.Env → M D := (mTup (mCons (mOp fCatT (mVar 5) (mTup (mCons (mVar 8) mNil))) (mCons (mCall (fun ds => (m_replaced ds).calm) (mCons (mVar 7) (mCons (mVar 8) (mCons (mIf (cOf (mOp fEq (mVar 3) (mC (.str "in")))) (mVar 4) (mC .non)) mNil)))) mNil)))
theorem eq_in {w : Str} (hw : w ∈ words4) : fEq (.str w) (.str "in") = some (.bl (decide (w = "in"))) := by
  simp only [words4, List.mem_cons, List.not_mem_nil, or_false] at hw
  rcases hw with rfl | rfl <;> kernel_rfl
theorem lc2_run {PD SD WD : D} {ab : Bool × Bool} {w n : Str} (hw : w ∈ words4) (hn : n ∈ words3) (ho : okB ab (w, n) = true) : ∀ ws : List Wy, (∀ q ∈ ws, q.1.length ≤ 100 ∧ q.2 ∈ V ab) →
    lcGo2 (pTup [(pName 5), (pName 7)]) cYes inB (pName 8) cYes inE [8] [.dat SD, .dat PD, .dat WD, .dat (.str w), .dat (.str n), .no, .no, .no, .no] (ws.map wyD) = .ret ((stepW (w, n) ws).map wyD)
  | [], _ => rfl
  | q :: ws, h => by
    have ih := lc2_run (PD := PD) (SD := SD) (WD := WD) hw hn ho ws fun p hp => h p (by simp [hp])
    obtain ⟨hl, hv⟩ := h q (by simp)
    obtain ⟨a, b⟩ := ab
    obtain ⟨s1, s2, s3⟩ := V_step a b w hw n hn ho q.2 hv
    have hy := V_sub _ _ hv
    have hy3 := rows_len _ hy
    have e1 := al_run q.2 hy w hw n hn
    have ein := eq_in hw
    have hal : (jD (alW q.2 w n)).length ≤ 1000 := by unfold jD; rw [List.length_map]; omega
    have k1 : (1 : Nat) ≤ 100000 := by omega
    have k2 : (2 : Nat) ≤ 100000 := by omega
    have hin : inB [.dat SD, .dat PD, .dat WD, .dat (.str w), .dat (.str n), .dat (plD q.1), .no, .dat (rw q.2), .no] = .ret (jD (alW q.2 w n)) := by
      unfold inB
      generalize rw q.2 = ry at *
      generalize plD q.1 = pl at *
      generalize jD (alW q.2 w n) = J at *
      simp -implicitDefEqProofs only [defM, defR, lawM, fin, sSeq, sExpr, sAsg, sAsgB, sPat, sPatB, sOwn, sOwnB, sPar, sPar3, sRet, sRetN, sIf, sFor, sForB, sApp, sAppB, sExt, sExtB, sSet, sFz, sNext, sBreak, sCont, sAug, sAugL, sErrF, sErr, sParX, sParX3, agGo, Fl.next, Fl.turn, vB, ok1, okL, mVar, mC, mOp, mUn, mNil, mCons, mCB, mCBn, mCall, mTup, mLst, mNew, asB, cOf, cAnd, cOr, cNot, cYes, mAnd, mOr, mNot, mIf, mChain, oNone, asI, oSome, mOpN, mPt, iL, iT, mFld, mProp, mLenI, mSlT, mSlL, pName, pGo, pTup, pLst, wipeE, mIsT, mCallR, mDraw, isRow, look, M.bind_ret, M.bind_err, M.bind_bad, M.bind_draw, M.ofO_some, M.ofO_none, M.calm_ret, M.calm_bad, M.calm_draw, M.bind_assoc, M.wp_ret, List.length_cons, List.length_nil, List.map_cons, List.map_nil, List.replicate_zero, List.replicate_succ, List.cons_append, List.nil_append, List.set_cons_zero, List.set_cons_succ, List.getElem?_cons_zero, List.getElem?_cons_succ, Nat.reduceAdd, Nat.reduceSub, Nat.reduceLeDiff, Nat.reduceEqDiff, if_true, if_false, ite_true, ite_false, reduceIte, Bool.not_true, Bool.not_false, Bool.false_eq_true, e1]
    have hlc : lcGo (pName 8) cYes inE [.dat SD, .dat PD, .dat WD, .dat (.str w), .dat (.str n), .dat (plD q.1), .no, .dat (rw q.2), .no] (jD (alW q.2 w n)) = .ret (((alW q.2 w n).map fun i => (q.1 ++ [i], q.2.set i (putO w n))).map wyD) := by
      unfold jD
      rw [List.map_map]
      refine lcGo_map (p := pName 8) (c := cYes) (e := inE) (ρ := [.dat SD, .dat PD, .dat WD, .dat (.str w), .dat (.str n), .dat (plD q.1), .no, .dat (rw q.2), .no]) (fun j : Nat => D.int (j : Int)) (fun i : Nat => wyD (q.1 ++ [i], q.2.set i (putO w n))) (alW q.2 w n) fun i hi => ⟨[.dat SD, .dat PD, .dat WD, .dat (.str w), .dat (.str n), .dat (plD q.1), .no, .dat (rw q.2), .dat (.int (i : Nat))], rfl, rfl, ?_⟩
      have e2 := re_run hy3 (s3 i hi).1 (putO w n)
      have e3 : fCatT (plD q.1) (.ptup [.int (i : Nat)]) = some (plD (q.1 ++ [i])) := by
        unfold plD jD
        rw [f_catT (by rw [List.length_map]; simp; omega), List.map_append]
        rfl
      unfold wyD inE
      by_cases hwi : w = "in"
      · have ep : oF D.str (putO w n) = .str n := by unfold putO; rw [if_pos hwi]; rfl
        rw [ep] at e2
        rw [decide_eq_true hwi] at ein
        generalize rw (q.2.set i (putO w n)) = ry2 at *
        generalize rw q.2 = ry at *
        generalize plD (q.1 ++ [i]) = pl2 at *
        generalize plD q.1 = pl at *
        generalize ((i : Nat) : Int) = ii at *
        simp -implicitDefEqProofs only [defM, defR, lawM, fin, sSeq, sExpr, sAsg, sAsgB, sPat, sPatB, sOwn, sOwnB, sPar, sPar3, sRet, sRetN, sIf, sFor, sForB, sApp, sAppB, sExt, sExtB, sSet, sFz, sNext, sBreak, sCont, sAug, sAugL, sErrF, sErr, sParX, sParX3, agGo, Fl.next, Fl.turn, vB, ok1, okL, mVar, mC, mOp, mUn, mNil, mCons, mCB, mCBn, mCall, mTup, mLst, mNew, asB, cOf, cAnd, cOr, cNot, cYes, mAnd, mOr, mNot, mIf, mChain, oNone, asI, oSome, mOpN, mPt, iL, iT, mFld, mProp, mLenI, mSlT, mSlL, pName, pGo, pTup, pLst, wipeE, mIsT, mCallR, mDraw, isRow, look, M.bind_ret, M.bind_err, M.bind_bad, M.bind_draw, M.ofO_some, M.ofO_none, M.calm_ret, M.calm_bad, M.calm_draw, M.bind_assoc, M.wp_ret, List.length_cons, List.length_nil, List.map_cons, List.map_nil, List.replicate_zero, List.replicate_succ, List.cons_append, List.nil_append, List.set_cons_zero, List.set_cons_succ, List.getElem?_cons_zero, List.getElem?_cons_succ, Nat.reduceAdd, Nat.reduceSub, Nat.reduceLeDiff, Nat.reduceEqDiff, if_true, if_false, ite_true, ite_false, reduceIte, Bool.not_true, Bool.not_false, Bool.false_eq_true, e2, e3, ein, k1, k2]
      · have ep : oF D.str (putO w n) = .non := by unfold putO; rw [if_neg hwi]; rfl
        rw [ep] at e2
        rw [decide_eq_false hwi] at ein
        generalize rw (q.2.set i (putO w n)) = ry2 at *
        generalize rw q.2 = ry at *
        generalize plD (q.1 ++ [i]) = pl2 at *
        generalize plD q.1 = pl at *
        generalize ((i : Nat) : Int) = ii at *
        simp -implicitDefEqProofs only [defM, defR, lawM, fin, sSeq, sExpr, sAsg, sAsgB, sPat, sPatB, sOwn, sOwnB, sPar, sPar3, sRet, sRetN, sIf, sFor, sForB, sApp, sAppB, sExt, sExtB, sSet, sFz, sNext, sBreak, sCont, sAug, sAugL, sErrF, sErr, sParX, sParX3, agGo, Fl.next, Fl.turn, vB, ok1, okL, mVar, mC, mOp, mUn, mNil, mCons, mCB, mCBn, mCall, mTup, mLst, mNew, asB, cOf, cAnd, cOr, cNot, cYes, mAnd, mOr, mNot, mIf, mChain, oNone, asI, oSome, mOpN, mPt, iL, iT, mFld, mProp, mLenI, mSlT, mSlL, pName, pGo, pTup, pLst, wipeE, mIsT, mCallR, mDraw, isRow, look, M.bind_ret, M.bind_err, M.bind_bad, M.bind_draw, M.ofO_some, M.ofO_none, M.calm_ret, M.calm_bad, M.calm_draw, M.bind_assoc, M.wp_ret, List.length_cons, List.length_nil, List.map_cons, List.map_nil, List.replicate_zero, List.replicate_succ, List.cons_append, List.nil_append, List.set_cons_zero, List.set_cons_succ, List.getElem?_cons_zero, List.getElem?_cons_succ, Nat.reduceAdd, Nat.reduceSub, Nat.reduceLeDiff, Nat.reduceEqDiff, if_true, if_false, ite_true, ite_false, reduceIte, Bool.not_true, Bool.not_false, Bool.false_eq_true, e2, e3, ein, k1, k2]
    have e9 : stepW (w, n) (q :: ws) = ((alW q.2 w n).map fun i => (q.1 ++ [i], q.2.set i (putO w n))) ++ stepW (w, n) ws := by
      unfold stepW
      rw [List.flatMap_cons]
    rw [e9, List.map_append, List.map_cons]
    unfold lcGo2
    have ep : (pTup [(pName 5), (pName 7)]) (wyD q) [.dat SD, .dat PD, .dat WD, .dat (.str w), .dat (.str n), .no, .no, .no, .no] = some [.dat SD, .dat PD, .dat WD, .dat (.str w), .dat (.str n), .dat (plD q.1), .no, .dat (rw q.2), .no] := rfl
    rw [ep]
    dsimp only
    show (M.bind (M.ret true) _) = _
    rw [M.bind_ret, if_pos rfl, hin, M.bind_ret, if_pos hal]
    have ewp : wipeE [.dat SD, .dat PD, .dat WD, .dat (.str w), .dat (.str n), .dat (plD q.1), .no, .dat (rw q.2), .no] [8] = [.dat SD, .dat PD, .dat WD, .dat (.str w), .dat (.str n), .dat (plD q.1), .no, .dat (rw q.2), .no] := rfl
    rw [ewp, hlc, M.bind_ret, ih, M.bind_ret]
structure GoodW (ab : Bool × Bool) (k : Nat) (ws : List Wy) : Prop where
  ne : ws ≠ []
  len : ws.length ≤ 3 ^ k
  ok : ∀ q ∈ ws, q.1.length = k ∧ (∀ i ∈ q.1, i < 3) ∧ q.2 ∈ V ab
theorem GoodW.step {ab : Bool × Bool} {k : Nat} {ws : List Wy} {w n : Str} (g : GoodW ab k ws) (hw : w ∈ words4) (hn : n ∈ words3) (ho : okB ab (w, n) = true) : GoodW (stB ab (w, n)) (k + 1) (stepW (w, n) ws) := by
  obtain ⟨a, b⟩ := ab
  refine ⟨?_, ?_, fun q hq => ?_⟩
  · obtain ⟨q, hq⟩ := List.exists_mem_of_ne_nil _ g.ne
    obtain ⟨s1, _⟩ := V_step a b w hw n hn ho q.2 (g.ok q hq).2.2
    obtain ⟨i, hi⟩ := List.exists_mem_of_ne_nil _ s1
    exact List.ne_nil_of_mem (a := (q.1 ++ [i], q.2.set i (putO w n))) (List.mem_flatMap.mpr ⟨q, hq, List.mem_map.mpr ⟨i, hi, rfl⟩⟩)
  · have key : ∀ L : List Wy, (∀ q ∈ L, q.2 ∈ V (a, b)) → (stepW (w, n) L).length ≤ L.length * 3 := by
      intro L
      induction L with
      | nil => exact fun _ => Nat.le_refl _
      | cons q L ih =>
        intro h
        have h1 := ih fun p hp => h p (by simp [hp])
        obtain ⟨_, s2, _⟩ := V_step a b w hw n hn ho q.2 (h q (by simp))
        unfold stepW at h1 ⊢
        rw [List.flatMap_cons, List.length_append, List.length_map, List.length_cons]
        show (alW q.2 w n).length + _ ≤ _
        omega
    have h1 := key ws fun q hq => (g.ok q hq).2.2
    have h2 := g.len
    rw [Nat.pow_succ]
    omega
  · obtain ⟨p, hp, hq⟩ := List.mem_flatMap.mp hq
    obtain ⟨i, hi, rfl⟩ := List.mem_map.mp hq
    obtain ⟨g1, g2, g3⟩ := g.ok p hp
    obtain ⟨_, _, s3⟩ := V_step a b w hw n hn ho p.2 g3
    obtain ⟨t1, t2⟩ := s3 i hi
    refine ⟨by simp [g1], fun j hj => ?_, t2⟩
    rcases List.mem_append.mp hj with hj | hj
    · exact g2 j hj
    · have : j = i := by simpa using hj
      subst this; exact t1
theorem good0 : GoodW (false, false) 0 [([], [none, none, none])] := ⟨by simp, by simp, fun q hq => by
  have : q = ([], [none, none, none]) := by simpa using hq
  subst this
  refine ⟨rfl, fun i h => ?_, ?_⟩
  · cases h
  · decide +kernel⟩
def mvB : Mi.Env → M Fl := (sAsg 2 (mNew (mLc2 (iL (mVar 2)) (pTup [(pName 5), (pName 7)]) cYes inB (pName 8) cYes inE [5, 7, 8] [8])))
theorem mv_run {PD SD : D} : ∀ (P : List It2) (k : Nat) (ab : Bool × Bool) (ws : List Wy) (s3 s4 : Sl), Ds s3 → Ds s4 → GoodW ab k ws → k + P.length ≤ 8 → chk k ab P = none → (∀ p ∈ P, p.1 ∈ words4 ∧ p.2 ∈ words3) →
    ∃ t3 t4 ws' ab', Ds t3 ∧ Ds t4 ∧ GoodW ab' (k + P.length) ws' ∧ forGo (pTup [(pName 3), (pName 4)]) mvB (P.map itP) [.dat SD, .dat PD, .dat (.lst (ws.map wyD)), s3, s4, .no, .no, .no, .no] = .ret (.nx [.dat SD, .dat PD, .dat (.lst (ws'.map wyD)), t3, t4, .no, .no, .no, .no])
  | [], k, ab, ws, s3, s4, h3, h4, g, _, _, _ => ⟨s3, s4, ws, ab, h3, h4, g, rfl⟩
  | p :: P, k, ab, ws, s3, s4, h3, h4, g, hk, hc, hp => by
    rw [List.length_cons] at hk
    unfold chk at hc
    rw [if_neg (by omega)] at hc
    split at hc
    case isFalse => cases hc
    rename_i ho
    obtain ⟨hw, hn⟩ := hp p (by simp)
    obtain ⟨w, n⟩ := p
    have g2 := g.step hw hn ho
    obtain ⟨t3, t4, ws', ab', k3, k4, g', e⟩ := mv_run (PD := PD) (SD := SD) P (k + 1) (stB ab (w, n)) (stepW (w, n) ws) (.dat (.str w)) (.dat (.str n)) (.inr ⟨_, rfl⟩) (.inr ⟨_, rfl⟩) g2 (by omega) hc fun q hq => hp q (by simp [hq])
    refine ⟨t3, t4, ws', ab', k3, k4, by rw [List.length_cons, show k + (P.length + 1) = k + 1 + P.length by omega]; exact g', ?_⟩
    have hl : (ws.map wyD).length ≤ 10000 := by
      have h1 := g.len
      have h2 : 3 ^ k ≤ 3 ^ 8 := Nat.pow_le_pow_right (by decide) (by omega)
      rw [List.length_map]; omega
    have run := lc2_run (PD := PD) (SD := SD) (WD := .lst (ws.map wyD)) hw hn ho ws fun q hq => ⟨by have := (g.ok q hq).1; omega, (g.ok q hq).2.2⟩
    have hb : mvB [.dat SD, .dat PD, .dat (.lst (ws.map wyD)), .dat (.str w), .dat (.str n), .no, .no, .no, .no] = .ret (.nx [.dat SD, .dat PD, .dat (.lst ((stepW (w, n) ws).map wyD)), .dat (.str w), .dat (.str n), .no, .no, .no, .no]) := by
      unfold mvB
      generalize (stepW (w, n) ws).map wyD = W2 at *
      generalize ws.map wyD = W1 at *
      simp -implicitDefEqProofs only [defM, defR, lawM, fin, sSeq, sExpr, sAsg, sAsgB, sPat, sPatB, sOwn, sOwnB, sPar, sPar3, sRet, sRetN, sIf, sFor, sForB, sApp, sAppB, sExt, sExtB, sSet, sFz, sNext, sBreak, sCont, sAug, sAugL, sErrF, sErr, sParX, sParX3, agGo, Fl.next, Fl.turn, vB, ok1, okL, mVar, mC, mOp, mUn, mNil, mCons, mCB, mCBn, mCall, mTup, mLst, mNew, asB, cOf, cAnd, cOr, cNot, cYes, mAnd, mOr, mNot, mIf, mChain, oNone, asI, oSome, mOpN, mPt, iL, iT, mFld, mProp, mLenI, mSlT, mSlL, pName, pGo, pTup, pLst, wipeE, mIsT, mCallR, mDraw, isRow, look, M.bind_ret, M.bind_err, M.bind_bad, M.bind_draw, M.ofO_some, M.ofO_none, M.calm_ret, M.calm_bad, M.calm_draw, M.bind_assoc, M.wp_ret, List.length_cons, List.length_nil, List.map_cons, List.map_nil, List.replicate_zero, List.replicate_succ, List.cons_append, List.nil_append, List.set_cons_zero, List.set_cons_succ, List.getElem?_cons_zero, List.getElem?_cons_succ, Nat.reduceAdd, Nat.reduceSub, Nat.reduceLeDiff, Nat.reduceEqDiff, if_true, if_false, ite_true, ite_false, reduceIte, Bool.not_true, Bool.not_false, Bool.false_eq_true, mLc2, hl, run]
    rw [List.map_cons, forGo]
    have ep : (pTup [(pName 3), (pName 4)]) (itP (w, n)) [.dat SD, .dat PD, .dat (.lst (ws.map wyD)), s3, s4, .no, .no, .no, .no] = some [.dat SD, .dat PD, .dat (.lst (ws.map wyD)), .dat (.str w), .dat (.str n), .no, .no, .no, .no] := rfl
    rw [ep]
    dsimp only
    rw [hb]
    exact e
theorem x_moving (C : Addr) (P : List It2) (hl : P.length ≤ 8) (hc : chk 0 (false, false) P = none) (hp : ∀ p ∈ P, p.1 ∈ words4 ∧ p.2 ∈ words3) : ∃ ws : List Wy, ws ≠ [] ∧ ws.length ≤ 9999 ∧ (∀ q ∈ ws, q.1.length = P.length ∧ ∀ i ∈ q.1, i < 3) ∧ m_moving_places [stD C, .ptup (P.map itP)] = .ret (.lst (ws.map fun q => plD q.1)) := by
  obtain ⟨t3, t4, ws, ab, k3, k4, g, e⟩ := mv_run (PD := .ptup (P.map itP)) (SD := stD C) P 0 (false, false) [([], [none, none, none])] .no .no (.inl rfl) (.inl rfl) good0 (by omega) hc hp
  rw [Nat.zero_add] at g
  have hlen : ws.length ≤ 6561 := by
    have h1 := g.len
    have h2 : 3 ^ P.length ≤ 3 ^ 8 := Nat.pow_le_pow_right (by decide) hl
    omega
  refine ⟨ws, g.ne, by omega, fun q hq => ⟨(g.ok q hq).1, (g.ok q hq).2.1⟩, ?_⟩
  have hll : (ws.map wyD).length ≤ 100000 := by rw [List.length_map]; omega
  have e2 : lcGo (pTup [(pName 5), (pName 6)]) cYes (mVar 5) [.dat (stD C), .dat (.ptup (P.map itP)), .dat (.lst (ws.map wyD)), t3, t4, .no, .no, .no, .no] (ws.map wyD) = .ret (ws.map fun q => plD q.1) :=
    lcGo_map (p := pTup [(pName 5), (pName 6)]) (c := cYes) (e := mVar 5) (ρ := [.dat (stD C), .dat (.ptup (P.map itP)), .dat (.lst (ws.map wyD)), t3, t4, .no, .no, .no, .no]) wyD (fun q : Wy => plD q.1) ws fun q hq => ⟨[.dat (stD C), .dat (.ptup (P.map itP)), .dat (.lst (ws.map wyD)), t3, t4, .dat (plD q.1), .dat (rw q.2), .no, .no], by
      rcases k3 with rfl | ⟨z3, rfl⟩ <;> rcases k4 with rfl | ⟨z4, rfl⟩ <;> rfl, rfl, by
      generalize P.map itP = PD
      generalize ws.map wyD = WD
      rcases k3 with rfl | ⟨z3, rfl⟩ <;> rcases k4 with rfl | ⟨z4, rfl⟩ <;> rfl⟩
  have e0 : ([([], [none, none, none])] : List Wy).map wyD = [.ptup [.ptup [], .ptup [.non, .non, .non]]] := rfl
  rw [e0] at e
  have hs : (sAsg 2 (mNew (mLst (mCons (mTup (mCons (mTup mNil) (mCons (mOp fRepT (mTup (mCons (mC .non) mNil)) (mProp stP m_Store_size (mVar 0))) mNil))) mNil)))) [.dat (stD C), .dat (.ptup (P.map itP)), .no, .no, .no, .no, .no, .no, .no] = .ret (.nx [.dat (stD C), .dat (.ptup (P.map itP)), .dat (.lst [.ptup [.ptup [], .ptup [.non, .non, .non]]]), .no, .no, .no, .no, .no, .no]) := by
    generalize P.map itP = PD
    kernel_rfl
  unfold mvB inB inE at e
  generalize ws.map (fun q => plD q.1) = WR at *
  generalize ws.map wyD = WD at *
  generalize P.map itP = PD at *
  unfold m_moving_places
  show (M.bind (sSeq _ _ [.dat (stD C), .dat (.ptup PD), .no, .no, .no, .no, .no, .no, .no]) fin) = _
  unfold sSeq
  rw [hs, M.bind_ret]
  rcases k3 with rfl | ⟨z3, rfl⟩ <;> rcases k4 with rfl | ⟨z4, rfl⟩ <;> simp -implicitDefEqProofs only [defM, defR, lawM, fin, sSeq, sExpr, sAsg, sAsgB, sPat, sPatB, sOwn, sOwnB, sPar, sPar3, sRet, sRetN, sIf, sFor, sForB, sApp, sAppB, sExt, sExtB, sSet, sFz, sNext, sBreak, sCont, sAug, sAugL, sErrF, sErr, sParX, sParX3, agGo, Fl.next, Fl.turn, vB, ok1, okL, mVar, mC, mOp, mUn, mNil, mCons, mCB, mCBn, mCall, mTup, mLst, mNew, asB, cOf, cAnd, cOr, cNot, cYes, mAnd, mOr, mNot, mIf, mChain, oNone, asI, oSome, mOpN, mPt, iL, iT, mFld, mProp, mLenI, mSlT, mSlL, pName, pGo, pTup, pLst, wipeE, mIsT, mCallR, mDraw, isRow, look, M.bind_ret, M.bind_err, M.bind_bad, M.bind_draw, M.ofO_some, M.ofO_none, M.calm_ret, M.calm_bad, M.calm_draw, M.bind_assoc, M.wp_ret, List.length_cons, List.length_nil, List.map_cons, List.map_nil, List.replicate_zero, List.replicate_succ, List.cons_append, List.nil_append, List.set_cons_zero, List.set_cons_succ, List.getElem?_cons_zero, List.getElem?_cons_succ, Nat.reduceAdd, Nat.reduceSub, Nat.reduceLeDiff, Nat.reduceEqDiff, if_true, if_false, ite_true, ite_false, reduceIte, Bool.not_true, Bool.not_false, Bool.false_eq_true, e, mLc, hll, e2]
theorem x_plan (C : Addr) (P : List It2) (hl : P.length ≤ 8) (hw : Wds P) (hc : chk 0 (false, false) P = none) (hp : ∀ p ∈ P, p.1 ∈ words4 ∧ p.2 ∈ words3) : ∃ (a : Int) (p : List Nat), m_least_plan [stD C, .ptup (P.map itP)] = .ret (.ptup [.int a, plD p]) := by
  have e0 := x_checkPlan C P (by omega) hw
  rw [hc] at e0
  dsimp only at e0
  obtain ⟨ws, h1, h2, h3, e1⟩ := x_moving C P hl hc hp
  cases ws with
  | nil => exact absurd rfl h1
  | cons q ws =>
    obtain ⟨a, p, e2⟩ := x_leastOf C hl q.1 (ws.map fun q => q.1) (by rw [List.length_map]; rw [List.length_cons] at h2; omega) fun r hr => by
      rcases List.mem_cons.mp hr with rfl | hr
      · exact h3 q (by simp)
      · obtain ⟨z, hz, rfl⟩ := List.mem_map.mp hr
        exact h3 z (by simp [hz])
    refine ⟨a, p, ?_⟩
    have e3 : (q.1 :: ws.map fun q => q.1).map plD = (q :: ws).map fun q => plD q.1 := by rw [List.map_cons, List.map_map]; rfl
    rw [e3] at e2
    generalize plD p = pp at *
    generalize (q :: ws).map (fun q => plD q.1) = WD at *
    generalize P.map itP = PD at *
    simp -implicitDefEqProofs only [defM, defR, lawM, fin, sSeq, sExpr, sAsg, sAsgB, sPat, sPatB, sOwn, sOwnB, sPar, sPar3, sRet, sRetN, sIf, sFor, sForB, sApp, sAppB, sExt, sExtB, sSet, sFz, sNext, sBreak, sCont, sAug, sAugL, sErrF, sErr, sParX, sParX3, agGo, Fl.next, Fl.turn, vB, ok1, okL, mVar, mC, mOp, mUn, mNil, mCons, mCB, mCBn, mCall, mTup, mLst, mNew, asB, cOf, cAnd, cOr, cNot, cYes, mAnd, mOr, mNot, mIf, mChain, oNone, asI, oSome, mOpN, mPt, iL, iT, mFld, mProp, mLenI, mSlT, mSlL, pName, pGo, pTup, pLst, wipeE, mIsT, mCallR, mDraw, isRow, look, M.bind_ret, M.bind_err, M.bind_bad, M.bind_draw, M.ofO_some, M.ofO_none, M.calm_ret, M.calm_bad, M.calm_draw, M.bind_assoc, M.wp_ret, List.length_cons, List.length_nil, List.map_cons, List.map_nil, List.replicate_zero, List.replicate_succ, List.cons_append, List.nil_append, List.set_cons_zero, List.set_cons_succ, List.getElem?_cons_zero, List.getElem?_cons_succ, Nat.reduceAdd, Nat.reduceSub, Nat.reduceLeDiff, Nat.reduceEqDiff, if_true, if_false, ite_true, ite_false, reduceIte, Bool.not_true, Bool.not_false, Bool.false_eq_true, m_least_plan, e0, e1, e2]
theorem x_worth (C : Addr) (P : List It2) (hl : P.length ≤ 8) (hw : Wds P) (hc : chk 0 (false, false) P = none) (hp : ∀ p ∈ P, p.1 ∈ words4 ∧ p.2 ∈ words3) : ∃ a : Int, m_worth_moving [stD C, .ptup (P.map itP)] = .ret (.int a) := by
  obtain ⟨a, p, e1⟩ := x_plan C P hl hw hc hp
  obtain ⟨b, r, e2⟩ := x_fixed C P hl hw (fun p hq => by simpa [words3] using (hp p hq).2) hc
  refine ⟨b - a, ?_⟩
  have e3 : fIx (.ptup [.int a, plD p]) (.int 0) = some (.int a) := f_ixP (j := 0) rfl
  have e4 : fIx (.ptup [.int b, plD r]) (.int 0) = some (.int b) := f_ixP (j := 0) rfl
  generalize plD p = pp at *
  generalize plD r = rr at *
  generalize P.map itP = PD at *
  simp -implicitDefEqProofs only [defM, defR, lawM, fin, sSeq, sExpr, sAsg, sAsgB, sPat, sPatB, sOwn, sOwnB, sPar, sPar3, sRet, sRetN, sIf, sFor, sForB, sApp, sAppB, sExt, sExtB, sSet, sFz, sNext, sBreak, sCont, sAug, sAugL, sErrF, sErr, sParX, sParX3, agGo, Fl.next, Fl.turn, vB, ok1, okL, mVar, mC, mOp, mUn, mNil, mCons, mCB, mCBn, mCall, mTup, mLst, mNew, asB, cOf, cAnd, cOr, cNot, cYes, mAnd, mOr, mNot, mIf, mChain, oNone, asI, oSome, mOpN, mPt, iL, iT, mFld, mProp, mLenI, mSlT, mSlL, pName, pGo, pTup, pLst, wipeE, mIsT, mCallR, mDraw, isRow, look, M.bind_ret, M.bind_err, M.bind_bad, M.bind_draw, M.ofO_some, M.ofO_none, M.calm_ret, M.calm_bad, M.calm_draw, M.bind_assoc, M.wp_ret, List.length_cons, List.length_nil, List.map_cons, List.map_nil, List.replicate_zero, List.replicate_succ, List.cons_append, List.nil_append, List.set_cons_zero, List.set_cons_succ, List.getElem?_cons_zero, List.getElem?_cons_succ, Nat.reduceAdd, Nat.reduceSub, Nat.reduceLeDiff, Nat.reduceEqDiff, if_true, if_false, ite_true, ite_false, reduceIte, Bool.not_true, Bool.not_false, Bool.false_eq_true, m_worth_moving, e1, e2, e3, e4, f_i]
end My

namespace My
open PySem L2 Cc Mi
def w6 (C : Addr) (A_least_fixed : Addr) (A_least_plan : Addr) (A_worth_moving : Addr) : Mi.Env → M Fl := (sIf (cAnd (cOf (mOp fIsN (mVar 4) (mC .non))) (cOf (mOp fEq (mVar 7) (mC (.str "out"))))) (sRemS 3 (mVar 6)) sNext)
def w5 (C : Addr) (A_least_fixed : Addr) (A_least_plan : Addr) (A_worth_moving : Addr) : Mi.Env → M Fl := sSeq (sIf (cAnd (cOf (mOp fIsN (mVar 4) (mC .non))) (cOf (mOp fEq (mVar 7) (mC (.str "in"))))) (sApp 3 (mVar 6)) sNext) (w6 C A_least_fixed A_least_plan A_worth_moving)
def w4 (C : Addr) (A_least_fixed : Addr) (A_least_plan : Addr) (A_worth_moving : Addr) : Mi.Env → M Fl := sSeq (sApp 9 (mTup (mCons (mVar 7) (mCons (mVar 6) mNil)))) (w5 C A_least_fixed A_least_plan A_worth_moving)
def w3 (C : Addr) (A_least_fixed : Addr) (A_least_plan : Addr) (A_worth_moving : Addr) : Mi.Env → M Fl := sSeq (sAsg 4 (mIf (cAnd (cOf (mOp fIsN (mVar 4) (mC .non))) (cOf (mOp fEq (mVar 5) (mC (.int 8))))) (mVar 5) (mVar 4))) (w4 C A_least_fixed A_least_plan A_worth_moving)
def w2 (C : Addr) (A_least_fixed : Addr) (A_least_plan : Addr) (A_worth_moving : Addr) : Mi.Env → M Fl := sSeq (sIf (cOf (mOp fEq (mDraw 1 (mC (.int 10))) (mC (.int 0)))) (sSeq (sAsg 8 (mIf (cOf (mOp fEq (mVar 7) (mC (.str "in")))) (mC (.str "out")) (mC (.str "in"))))
    (sSeq (sPat (pTup [(pName 7), (pName 6)]) (mOp fIx (mNew (mLst (mCons (mTup (mCons (mC (.str "in")) (mCons (mC (.str "kiwi")) mNil))) (mCons (mTup (mCons (mC (.str "in")) (mCons (mC (.str "")) mNil))) (mCons (mTup (mCons (mC (.str "put")) (mCons (mVar 6) mNil))) (mCons (mTup (mCons (mVar 8) (mCons (mVar 6) mNil))) mNil)))))) (mDraw 1 (mC (.int 4)))))
    (sAsg 4 (mIf (cOf (mOp fIsN (mVar 4) (mC .non))) (mVar 5) (mVar 4))))) sNext) (w3 C A_least_fixed A_least_plan A_worth_moving)
def w1 (C : Addr) (A_least_fixed : Addr) (A_least_plan : Addr) (A_worth_moving : Addr) : Mi.Env → M Fl := sSeq (sAsgB 7 (mIf (cOf (mOp (fIn false) (mVar 6) (mVar 3))) (mC (.str "out")) (mC (.str "in")))) (w2 C A_least_fixed A_least_plan A_worth_moving)
def w0 (C : Addr) (A_least_fixed : Addr) (A_least_plan : Addr) (A_worth_moving : Addr) : Mi.Env → M Fl := sSeq (sAsg 6 (mOp fIx (mNew (mLst (mCons (mC (.str "fig")) (mCons (mC (.str "plum")) mNil)))) (mDraw 1 (mC (.int 2))))) (w1 C A_least_fixed A_least_plan A_worth_moving)
def x0 (C : Addr) (A_least_fixed : Addr) (A_least_plan : Addr) (A_worth_moving : Addr) : Mi.Env → M Fl := (sIf (cOf (mOp fNe (fun ρ => (m__law_told ((mCallV 11 [(A_least_plan, m_least_plan), (A_least_fixed, m_least_fixed), (A_worth_moving, m_worth_moving)] (mCons (mVar 10) (mCons (mCB fTup (mCons (mVar 9) mNil)) mNil))) ρ)).calm) (mVar 4))) (sRet (mC (.bl false))) sNext)
def v2 (C : Addr) (A_least_fixed : Addr) (A_least_plan : Addr) (A_worth_moving : Addr) : Mi.Env → M Fl := (sFor (iT (mTup (mCons (mC (.adr A_least_plan)) (mCons (mC (.adr A_least_fixed)) (mCons (mC (.adr A_worth_moving)) mNil))))) (pName 11) (x0 C A_least_fixed A_least_plan A_worth_moving))
def v1 (C : Addr) (A_least_fixed : Addr) (A_least_plan : Addr) (A_worth_moving : Addr) : Mi.Env → M Fl := sSeq (sFor (rg1 (mDraw 1 (mC (.int 11)))) (pName 5) (w0 C A_least_fixed A_least_plan A_worth_moving)) (v2 C A_least_fixed A_least_plan A_worth_moving)
def v0 (C : Addr) (A_least_fixed : Addr) (A_least_plan : Addr) (A_worth_moving : Addr) : Mi.Env → M Fl := sSeq (sTupX [3, 9, 4] [.n (mLst mNil), .n (mLst mNil), .d (mC .non)]) (v1 C A_least_fixed A_least_plan A_worth_moving)
def u2 (C : Addr) (A_least_fixed : Addr) (A_least_plan : Addr) (A_worth_moving : Addr) : Mi.Env → M Fl := (sRet (mC (.bl true)))
def u1 (C : Addr) (A_least_fixed : Addr) (A_least_plan : Addr) (A_worth_moving : Addr) : Mi.Env → M Fl := sSeq (sFor (rg1 (mC (.int 8))) (pName 2) (v0 C A_least_fixed A_least_plan A_worth_moving)) (u2 C A_least_fixed A_least_plan A_worth_moving)
def u0 (C : Addr) (A_least_fixed : Addr) (A_least_plan : Addr) (A_worth_moving : Addr) : Mi.Env → M Fl := sSeq (sAsg 10 (mCall (m_Store___init__ C) (mCons (mTup (mCons (mTup (mCons (mC (.int 5)) (mCons (mC (.int 1)) mNil))) (mCons (mTup (mCons (mC (.int 3)) (mCons (mC (.int 2)) mNil))) mNil))) (mCons (mTup (mCons (mC (.str "fig")) (mCons (mC (.str "plum")) mNil))) mNil)))) (u1 C A_least_fixed A_least_plan A_worth_moving)
theorem law_u (C : Addr) (A_least_fixed : Addr) (A_least_plan : Addr) (A_worth_moving : Addr) : b_law C A_least_fixed A_least_plan A_worth_moving = u0 C A_least_fixed A_least_plan A_worth_moving := rfl
end My

namespace My
open PySem L2 Cc Mi Wm
section
variable {C A1 A2 A3 : Addr} {th : List Str} {P : List It2} {i : Nat} {w n : Str} {E : Str → List D → Prop}
def dueD : Option Nat → D
  | none => .non
  | some k => .int (k : Nat)
def due2 (due : Option Nat) (i : Nat) : Option Nat := match due with
  | none => if i = 8 then some i else none
  | some k => some k
def th2 (due : Option Nat) (w n : Str) (th : List Str) : List Str := match due with
  | none => if w = "in" then th ++ [n] else if w = "out" then th.eraseIdx (th.idxOf n) else th
  | some _ => th
theorem strs_th : ∀ th : List Str, strsD (th.map D.str) = some th
  | [] => rfl
  | x :: th => by rw [List.map_cons, strsD, strs_th th]; rfl
theorem eq_w {w : Str} (hw : w ∈ words1) (x : Str) (hx : x = "in" ∨ x = "out") : fEq (.str w) (.str x) = some (.bl (decide (w = x))) := by
  simp only [words1, List.mem_cons, List.not_mem_nil, or_false] at hw
  rcases hx with rfl | rfl <;> rcases hw with rfl | rfl | rfl <;> kernel_rfl
theorem isN_due (d : Option Nat) : fIsN (dueD d) .non = some (.bl d.isNone) := by cases d <;> rfl
theorem eraseIdx_map (th : List Str) (k : Nat) : (th.map D.str).eraseIdx k = (th.eraseIdx k).map D.str := by
  induction th generalizing k with
  | nil => rfl
  | cons x th ih =>
    cases k with
    | zero => rfl
    | succ k => simp [ih]
theorem s_w3 (due : Option Nat) {z2 : D} {o3 o9 : List D} {s6 s7 s8 s11 : Sl} (h6 : Ds s6) (h7 : Ds s7) (h8 : Ds s8) (h11 : Ds s11) : sAsg 4 (mIf (cAnd (cOf (mOp fIsN (mVar 4) (mC .non))) (cOf (mOp fEq (mVar 5) (mC (.int 8))))) (mVar 5) (mVar 4)) [.no, .row, .dat z2, .own o3, .dat (dueD due), .dat (.int (i : Nat)), s6, s7, s8, .own o9, .dat (stD C), s11] = .ret (.nx [.no, .row, .dat z2, .own o3, .dat (dueD (due2 due i)), .dat (.int (i : Nat)), s6, s7, s8, .own o9, .dat (stD C), s11]) := by
  have e1 := isN_due due
  have e2 : fEq (.int (i : Nat)) (.int 8) = some (.bl (decide (i = 8))) := by
    rw [f_eqI]
    congr 2
    by_cases h : i = 8
    · subst h; rfl
    · rw [decide_eq_false h]
      simp only [beq_eq_false_iff_ne, ne_eq]
      omega
  cases due with
  | some k =>
    have ed : due2 (some k) i = some k := rfl
    rw [ed]
    have e1 : fIsN (dueD (some k)) .non = some (.bl false) := e1
    generalize dueD (some k) = dd at *
    rcases h6 with rfl | ⟨z6, rfl⟩ <;> rcases h7 with rfl | ⟨z7, rfl⟩ <;> rcases h8 with rfl | ⟨z8, rfl⟩ <;> rcases h11 with rfl | ⟨z11, rfl⟩ <;> simp -implicitDefEqProofs only [defM, defR, lawM, fin, sSeq, sExpr, sAsg, sAsgB, sPat, sPatB, sOwn, sOwnB, sPar, sPar3, sRet, sRetN, sIf, sFor, sForB, sApp, sAppB, sExt, sExtB, sSet, sFz, sNext, sBreak, sCont, sAug, sAugL, sErrF, sErr, sParX, sParX3, agGo, Fl.next, Fl.turn, vB, ok1, okL, mVar, mC, mOp, mUn, mNil, mCons, mCB, mCBn, mCall, mTup, mLst, mNew, asB, cOf, cAnd, cOr, cNot, cYes, mAnd, mOr, mNot, mIf, mChain, oNone, asI, oSome, mOpN, mPt, iL, iT, mFld, mProp, mLenI, mSlT, mSlL, pName, pGo, pTup, pLst, wipeE, mIsT, mCallR, mDraw, isRow, look, M.bind_ret, M.bind_err, M.bind_bad, M.bind_draw, M.ofO_some, M.ofO_none, M.calm_ret, M.calm_bad, M.calm_draw, M.bind_assoc, M.wp_ret, List.length_cons, List.length_nil, List.map_cons, List.map_nil, List.replicate_zero, List.replicate_succ, List.cons_append, List.nil_append, List.set_cons_zero, List.set_cons_succ, List.getElem?_cons_zero, List.getElem?_cons_succ, Nat.reduceAdd, Nat.reduceSub, Nat.reduceLeDiff, Nat.reduceEqDiff, if_true, if_false, ite_true, ite_false, reduceIte, Bool.not_true, Bool.not_false, Bool.false_eq_true, e1]
  | none =>
    have e1 : fIsN D.non D.non = some (.bl true) := rfl
    by_cases h : i = 8
    · have ed : dueD (due2 none i) = .int (i : Nat) := by unfold due2; rw [if_pos h]; rfl
      have e0 : dueD none = D.non := rfl
      rw [ed, e0]
      rw [decide_eq_true h] at e2
      generalize ((i : Nat) : Int) = ii at *
      rcases h6 with rfl | ⟨z6, rfl⟩ <;> rcases h7 with rfl | ⟨z7, rfl⟩ <;> rcases h8 with rfl | ⟨z8, rfl⟩ <;> rcases h11 with rfl | ⟨z11, rfl⟩ <;> simp -implicitDefEqProofs only [defM, defR, lawM, fin, sSeq, sExpr, sAsg, sAsgB, sPat, sPatB, sOwn, sOwnB, sPar, sPar3, sRet, sRetN, sIf, sFor, sForB, sApp, sAppB, sExt, sExtB, sSet, sFz, sNext, sBreak, sCont, sAug, sAugL, sErrF, sErr, sParX, sParX3, agGo, Fl.next, Fl.turn, vB, ok1, okL, mVar, mC, mOp, mUn, mNil, mCons, mCB, mCBn, mCall, mTup, mLst, mNew, asB, cOf, cAnd, cOr, cNot, cYes, mAnd, mOr, mNot, mIf, mChain, oNone, asI, oSome, mOpN, mPt, iL, iT, mFld, mProp, mLenI, mSlT, mSlL, pName, pGo, pTup, pLst, wipeE, mIsT, mCallR, mDraw, isRow, look, M.bind_ret, M.bind_err, M.bind_bad, M.bind_draw, M.ofO_some, M.ofO_none, M.calm_ret, M.calm_bad, M.calm_draw, M.bind_assoc, M.wp_ret, List.length_cons, List.length_nil, List.map_cons, List.map_nil, List.replicate_zero, List.replicate_succ, List.cons_append, List.nil_append, List.set_cons_zero, List.set_cons_succ, List.getElem?_cons_zero, List.getElem?_cons_succ, Nat.reduceAdd, Nat.reduceSub, Nat.reduceLeDiff, Nat.reduceEqDiff, if_true, if_false, ite_true, ite_false, reduceIte, Bool.not_true, Bool.not_false, Bool.false_eq_true, e1, e2]
    · have ed : dueD (due2 none i) = .non := by unfold due2; rw [if_neg h]; rfl
      have e0 : dueD none = D.non := rfl
      rw [ed, e0]
      rw [decide_eq_false h] at e2
      generalize ((i : Nat) : Int) = ii at *
      rcases h6 with rfl | ⟨z6, rfl⟩ <;> rcases h7 with rfl | ⟨z7, rfl⟩ <;> rcases h8 with rfl | ⟨z8, rfl⟩ <;> rcases h11 with rfl | ⟨z11, rfl⟩ <;> simp -implicitDefEqProofs only [defM, defR, lawM, fin, sSeq, sExpr, sAsg, sAsgB, sPat, sPatB, sOwn, sOwnB, sPar, sPar3, sRet, sRetN, sIf, sFor, sForB, sApp, sAppB, sExt, sExtB, sSet, sFz, sNext, sBreak, sCont, sAug, sAugL, sErrF, sErr, sParX, sParX3, agGo, Fl.next, Fl.turn, vB, ok1, okL, mVar, mC, mOp, mUn, mNil, mCons, mCB, mCBn, mCall, mTup, mLst, mNew, asB, cOf, cAnd, cOr, cNot, cYes, mAnd, mOr, mNot, mIf, mChain, oNone, asI, oSome, mOpN, mPt, iL, iT, mFld, mProp, mLenI, mSlT, mSlL, pName, pGo, pTup, pLst, wipeE, mIsT, mCallR, mDraw, isRow, look, M.bind_ret, M.bind_err, M.bind_bad, M.bind_draw, M.ofO_some, M.ofO_none, M.calm_ret, M.calm_bad, M.calm_draw, M.bind_assoc, M.wp_ret, List.length_cons, List.length_nil, List.map_cons, List.map_nil, List.replicate_zero, List.replicate_succ, List.cons_append, List.nil_append, List.set_cons_zero, List.set_cons_succ, List.getElem?_cons_zero, List.getElem?_cons_succ, Nat.reduceAdd, Nat.reduceSub, Nat.reduceLeDiff, Nat.reduceEqDiff, if_true, if_false, ite_true, ite_false, reduceIte, Bool.not_true, Bool.not_false, Bool.false_eq_true, e1, e2]
theorem s_w4 (hw : w ∈ words1) (d2 : Option Nat) (hP : P.length ≤ 20) (hth : th.length ≤ 20) (hrem : d2 = none → w = "out" → n ∈ th) {z2 z5 : D} {s8 s11 : Sl} (h8 : Ds s8) (h11 : Ds s11) :
    w4 C A1 A2 A3 [.no, .row, .dat z2, .own (th.map D.str), .dat (dueD d2), .dat z5, .dat (.str n), .dat (.str w), s8, .own (P.map itP), .dat (stD C), s11] = .ret (.nx [.no, .row, .dat z2, .own ((th2 d2 w n th).map D.str), .dat (dueD d2), .dat z5, .dat (.str n), .dat (.str w), s8, .own ((P ++ [(w, n)]).map itP), .dat (stD C), s11]) := by
  have hl3 : (th.map D.str).length < 100000 := by rw [List.length_map]; omega
  have hl9 : (P.map itP).length < 100000 := by rw [List.length_map]; omega
  have eP : (P ++ [(w, n)]).map itP = P.map itP ++ [.ptup [.str w, .str n]] := by rw [List.map_append]; rfl
  have k2 : (2 : Nat) ≤ 100000 := by omega
  have e1 := isN_due d2
  have ei := eq_w hw "in" (.inl rfl)
  have eo := eq_w hw "out" (.inr rfl)
  rw [eP]
  cases d2 with
  | some k =>
    have et : th2 (some k) w n th = th := rfl
    rw [et]
    have e1 : fIsN (dueD (some k)) .non = some (.bl false) := e1
    unfold w4 w5 w6
    generalize dueD (some k) = dd at *
    generalize th.map D.str = T at *
    generalize P.map itP = PD at *
    rcases h8 with rfl | ⟨z8, rfl⟩ <;> rcases h11 with rfl | ⟨z11, rfl⟩ <;> simp -implicitDefEqProofs only [defM, defR, lawM, fin, sSeq, sExpr, sAsg, sAsgB, sPat, sPatB, sOwn, sOwnB, sPar, sPar3, sRet, sRetN, sIf, sFor, sForB, sApp, sAppB, sExt, sExtB, sSet, sFz, sNext, sBreak, sCont, sAug, sAugL, sErrF, sErr, sParX, sParX3, agGo, Fl.next, Fl.turn, vB, ok1, okL, mVar, mC, mOp, mUn, mNil, mCons, mCB, mCBn, mCall, mTup, mLst, mNew, asB, cOf, cAnd, cOr, cNot, cYes, mAnd, mOr, mNot, mIf, mChain, oNone, asI, oSome, mOpN, mPt, iL, iT, mFld, mProp, mLenI, mSlT, mSlL, pName, pGo, pTup, pLst, wipeE, mIsT, mCallR, mDraw, isRow, look, M.bind_ret, M.bind_err, M.bind_bad, M.bind_draw, M.ofO_some, M.ofO_none, M.calm_ret, M.calm_bad, M.calm_draw, M.bind_assoc, M.wp_ret, List.length_cons, List.length_nil, List.map_cons, List.map_nil, List.replicate_zero, List.replicate_succ, List.cons_append, List.nil_append, List.set_cons_zero, List.set_cons_succ, List.getElem?_cons_zero, List.getElem?_cons_succ, Nat.reduceAdd, Nat.reduceSub, Nat.reduceLeDiff, Nat.reduceEqDiff, if_true, if_false, ite_true, ite_false, reduceIte, Bool.not_true, Bool.not_false, Bool.false_eq_true, hl9, k2, e1]
  | none =>
    have e0 : dueD none = D.non := rfl
    have e1 : fIsN D.non D.non = some (.bl true) := rfl
    rw [e0]
    by_cases hin : w = "in"
    · have hno : ¬ w = "out" := by rw [hin]; decide
      have et : (th2 none w n th).map D.str = th.map D.str ++ [.str n] := by unfold th2; dsimp only; rw [if_pos hin, List.map_append]; rfl
      rw [et]
      rw [decide_eq_true hin] at ei
      rw [decide_eq_false hno] at eo
      unfold w4 w5 w6
      generalize th.map D.str = T at *
      generalize P.map itP = PD at *
      rcases h8 with rfl | ⟨z8, rfl⟩ <;> rcases h11 with rfl | ⟨z11, rfl⟩ <;> simp -implicitDefEqProofs only [defM, defR, lawM, fin, sSeq, sExpr, sAsg, sAsgB, sPat, sPatB, sOwn, sOwnB, sPar, sPar3, sRet, sRetN, sIf, sFor, sForB, sApp, sAppB, sExt, sExtB, sSet, sFz, sNext, sBreak, sCont, sAug, sAugL, sErrF, sErr, sParX, sParX3, agGo, Fl.next, Fl.turn, vB, ok1, okL, mVar, mC, mOp, mUn, mNil, mCons, mCB, mCBn, mCall, mTup, mLst, mNew, asB, cOf, cAnd, cOr, cNot, cYes, mAnd, mOr, mNot, mIf, mChain, oNone, asI, oSome, mOpN, mPt, iL, iT, mFld, mProp, mLenI, mSlT, mSlL, pName, pGo, pTup, pLst, wipeE, mIsT, mCallR, mDraw, isRow, look, M.bind_ret, M.bind_err, M.bind_bad, M.bind_draw, M.ofO_some, M.ofO_none, M.calm_ret, M.calm_bad, M.calm_draw, M.bind_assoc, M.wp_ret, List.length_cons, List.length_nil, List.map_cons, List.map_nil, List.replicate_zero, List.replicate_succ, List.cons_append, List.nil_append, List.set_cons_zero, List.set_cons_succ, List.getElem?_cons_zero, List.getElem?_cons_succ, Nat.reduceAdd, Nat.reduceSub, Nat.reduceLeDiff, Nat.reduceEqDiff, if_true, if_false, ite_true, ite_false, reduceIte, Bool.not_true, Bool.not_false, Bool.false_eq_true, hl9, hl3, k2, e1, ei, eo]
    · by_cases hout : w = "out"
      · have hm := hrem rfl hout
        have et : (th2 none w n th).map D.str = (th.map D.str).eraseIdx (th.idxOf n) := by unfold th2; dsimp only; rw [if_neg hin, if_pos hout, eraseIdx_map]
        rw [et]
        rw [decide_eq_false hin] at ei
        rw [decide_eq_true hout] at eo
        have hs := strs_th th
        unfold w4 w5 w6
        generalize th.map D.str = T at *
        generalize P.map itP = PD at *
        rcases h8 with rfl | ⟨z8, rfl⟩ <;> rcases h11 with rfl | ⟨z11, rfl⟩ <;> simp -implicitDefEqProofs only [defM, defR, lawM, fin, sSeq, sExpr, sAsg, sAsgB, sPat, sPatB, sOwn, sOwnB, sPar, sPar3, sRet, sRetN, sIf, sFor, sForB, sApp, sAppB, sExt, sExtB, sSet, sFz, sNext, sBreak, sCont, sAug, sAugL, sErrF, sErr, sParX, sParX3, agGo, Fl.next, Fl.turn, vB, ok1, okL, mVar, mC, mOp, mUn, mNil, mCons, mCB, mCBn, mCall, mTup, mLst, mNew, asB, cOf, cAnd, cOr, cNot, cYes, mAnd, mOr, mNot, mIf, mChain, oNone, asI, oSome, mOpN, mPt, iL, iT, mFld, mProp, mLenI, mSlT, mSlL, pName, pGo, pTup, pLst, wipeE, mIsT, mCallR, mDraw, isRow, look, M.bind_ret, M.bind_err, M.bind_bad, M.bind_draw, M.ofO_some, M.ofO_none, M.calm_ret, M.calm_bad, M.calm_draw, M.bind_assoc, M.wp_ret, List.length_cons, List.length_nil, List.map_cons, List.map_nil, List.replicate_zero, List.replicate_succ, List.cons_append, List.nil_append, List.set_cons_zero, List.set_cons_succ, List.getElem?_cons_zero, List.getElem?_cons_succ, Nat.reduceAdd, Nat.reduceSub, Nat.reduceLeDiff, Nat.reduceEqDiff, if_true, if_false, ite_true, ite_false, reduceIte, Bool.not_true, Bool.not_false, Bool.false_eq_true, hl9, k2, e1, ei, eo, sRemS, hs, hm]
      · have et : th2 none w n th = th := by unfold th2; dsimp only; rw [if_neg hin, if_neg hout]
        rw [et]
        rw [decide_eq_false hin] at ei
        rw [decide_eq_false hout] at eo
        unfold w4 w5 w6
        generalize th.map D.str = T at *
        generalize P.map itP = PD at *
        rcases h8 with rfl | ⟨z8, rfl⟩ <;> rcases h11 with rfl | ⟨z11, rfl⟩ <;> simp -implicitDefEqProofs only [defM, defR, lawM, fin, sSeq, sExpr, sAsg, sAsgB, sPat, sPatB, sOwn, sOwnB, sPar, sPar3, sRet, sRetN, sIf, sFor, sForB, sApp, sAppB, sExt, sExtB, sSet, sFz, sNext, sBreak, sCont, sAug, sAugL, sErrF, sErr, sParX, sParX3, agGo, Fl.next, Fl.turn, vB, ok1, okL, mVar, mC, mOp, mUn, mNil, mCons, mCB, mCBn, mCall, mTup, mLst, mNew, asB, cOf, cAnd, cOr, cNot, cYes, mAnd, mOr, mNot, mIf, mChain, oNone, asI, oSome, mOpN, mPt, iL, iT, mFld, mProp, mLenI, mSlT, mSlL, pName, pGo, pTup, pLst, wipeE, mIsT, mCallR, mDraw, isRow, look, M.bind_ret, M.bind_err, M.bind_bad, M.bind_draw, M.ofO_some, M.ofO_none, M.calm_ret, M.calm_bad, M.calm_draw, M.bind_assoc, M.wp_ret, List.length_cons, List.length_nil, List.map_cons, List.map_nil, List.replicate_zero, List.replicate_succ, List.cons_append, List.nil_append, List.set_cons_zero, List.set_cons_succ, List.getElem?_cons_zero, List.getElem?_cons_succ, Nat.reduceAdd, Nat.reduceSub, Nat.reduceLeDiff, Nat.reduceEqDiff, if_true, if_false, ite_true, ite_false, reduceIte, Bool.not_true, Bool.not_false, Bool.false_eq_true, hl9, k2, e1, ei, eo]
end
end My

namespace My
open PySem L2 Cc Mi Wm
section
variable {C A1 A2 A3 : Addr} {th : List Str} {P : List It2} {i : Nat} {w n : Str} {due : Option Nat} {E : Str → List D → Prop}
structure IvP (i : Nat) (th : List Str) (due : Option Nat) (P : List It2) : Prop where
  len : P.length = i
  ck : chk 0 (false, false) P = due
  wd : Wds P
  nd : th.Nodup
  ws : ∀ x ∈ th, x ∈ words3
  st : due = none → runB (false, false) P = (decide (("fig" : Str) ∈ th), decide (("plum" : Str) ∈ th)) ∧ ∀ p ∈ P, p.1 ∈ words4 ∧ p.2 ∈ words3
def ww (n : Str) (th : List Str) : Str := if n ∈ th then "out" else "in"
def flip' (w : Str) : Str := if w = "in" then "out" else "in"
def bad4 (w n : Str) : List It2 := [("in", "kiwi"), ("in", ""), ("put", n), (flip' w, n)]
def due1 (due : Option Nat) (i : Nat) : Option Nat := match due with
  | none => some i
  | some k => some k
theorem ww_in (n : Str) (th : List Str) : ww n th ∈ words4 := by
  unfold ww words4
  split <;> simp
theorem w43 {w : Str} (h : w ∈ words4) : w ∈ words1 := by
  simp only [words4, words1, List.mem_cons, List.not_mem_nil, or_false] at h ⊢
  rcases h with rfl | rfl <;> simp
theorem n32 {n : Str} (h : n ∈ words3) : n ∈ words2 := by
  simp only [words3, words2, List.mem_cons, List.not_mem_nil, or_false] at h ⊢
  rcases h with rfl | rfl <;> simp
theorem ok_ww (hn : n ∈ words3) : okB (decide (("fig" : Str) ∈ th), decide (("plum" : Str) ∈ th)) (ww n th, n) = true := by
  simp only [words3, List.mem_cons, List.not_mem_nil, or_false] at hn
  rcases hn with rfl | rfl
  · by_cases h : ("fig" : Str) ∈ th
    · unfold ww; rw [if_pos h, decide_eq_true h]; cases decide (("plum" : Str) ∈ th) <;> decide
    · unfold ww; rw [if_neg h, decide_eq_false h]; cases decide (("plum" : Str) ∈ th) <;> decide
  · by_cases h : ("plum" : Str) ∈ th
    · unfold ww; rw [if_pos h, decide_eq_true h]; cases decide (("fig" : Str) ∈ th) <;> decide
    · unfold ww; rw [if_neg h, decide_eq_false h]; cases decide (("fig" : Str) ∈ th) <;> decide
theorem bad_no (hn : n ∈ words3) : ∀ p ∈ bad4 (ww n th) n, okB (decide (("fig" : Str) ∈ th), decide (("plum" : Str) ∈ th)) p = false ∧ p.1 ∈ words1 ∧ p.2 ∈ words2 := by
  simp only [words3, List.mem_cons, List.not_mem_nil, or_false] at hn
  intro p hp
  unfold bad4 at hp
  rcases hn with rfl | rfl
  · by_cases h : ("fig" : Str) ∈ th
    · have e : ww "fig" th = "out" := if_pos h
      rw [e] at hp
      rw [decide_eq_true h]
      generalize decide (("plum" : Str) ∈ th) = b
      revert p
      cases b <;> decide
    · have e : ww "fig" th = "in" := if_neg h
      rw [e] at hp
      rw [decide_eq_false h]
      generalize decide (("plum" : Str) ∈ th) = b
      revert p
      cases b <;> decide
  · by_cases h : ("plum" : Str) ∈ th
    · have e : ww "plum" th = "out" := if_pos h
      rw [e] at hp
      rw [decide_eq_true h]
      generalize decide (("fig" : Str) ∈ th) = b
      revert p
      cases b <;> decide
    · have e : ww "plum" th = "in" := if_neg h
      rw [e] at hp
      rw [decide_eq_false h]
      generalize decide (("fig" : Str) ∈ th) = b
      revert p
      cases b <;> decide
theorem wds_app (h : Wds P) {p : It2} (h1 : p.1 ∈ words1) (h2 : p.2 ∈ words2) : Wds (P ++ [p]) := fun q hq => by
  rcases List.mem_append.mp hq with hq | hq
  · exact h q hq
  · have : q = p := by simpa using hq
    subst this; exact ⟨h1, h2⟩
theorem IvP.bad (h : IvP i th due P) (hn : n ∈ words3) {p : It2} (hp : p ∈ bad4 (ww n th) n) : IvP (i + 1) (th2 (due2 (due1 due i) i) p.1 p.2 th) (due2 (due1 due i) i) (P ++ [p]) := by
  obtain ⟨b1, b2, b3⟩ := bad_no hn p hp
  have ed : ∃ k, due2 (due1 due i) i = some k ∧ chk 0 (false, false) (P ++ [p]) = some k := by
    rw [chk_app, h.ck]
    cases due with
    | some k => exact ⟨k, rfl, rfl⟩
    | none =>
      refine ⟨i, rfl, ?_⟩
      dsimp only
      rw [Nat.zero_add, h.len, (h.st rfl).1, b1]
      by_cases h8 : 8 ≤ i
      · rw [if_pos h8]
      · rw [if_neg h8, if_neg Bool.false_ne_true]
  obtain ⟨k, e1, e2⟩ := ed
  rw [e1]
  exact ⟨by rw [List.length_append, h.len]; rfl, e2, wds_app h.wd b2 b3, h.nd, h.ws, fun z => by cases z⟩
theorem th2_in (hn : n ∉ th) : th2 none (ww n th) n th = th ++ [n] := by
  unfold th2 ww
  rw [if_neg hn]
  rfl
theorem th2_out (hn : n ∈ th) : th2 none (ww n th) n th = th.erase n := by
  have e : ww n th = "out" := if_pos hn
  unfold th2
  rw [e]
  dsimp only
  rw [if_neg (by decide), if_pos rfl]
  exact (List.erase_eq_eraseIdx_of_idxOf rfl).symm
theorem IvP.good (h : IvP i th due P) (hn : n ∈ words3) : IvP (i + 1) (th2 (due2 due i) (ww n th) n th) (due2 due i) (P ++ [(ww n th, n)]) := by
  have w1 := w43 (ww_in n th)
  have n2 := n32 hn
  cases due with
  | some k =>
    have e : due2 (some k) i = some k := rfl
    rw [e]
    exact ⟨by rw [List.length_append, h.len]; rfl, by rw [chk_app, h.ck], wds_app h.wd w1 n2, h.nd, h.ws, fun z => by cases z⟩
  | none =>
    obtain ⟨s1, s2⟩ := h.st rfl
    have hl := chk_len P 0 _ (by omega) h.ck
    rw [Nat.zero_add, h.len] at hl
    have hck : chk 0 (false, false) (P ++ [(ww n th, n)]) = if 8 ≤ i then some i else none := by
      rw [chk_app, h.ck]
      dsimp only
      rw [Nat.zero_add, h.len, s1, ok_ww hn, if_pos rfl]
    by_cases h8 : i = 8
    · have e : due2 none i = some i := if_pos h8
      rw [e]
      exact ⟨by rw [List.length_append, h.len]; rfl, by rw [hck, if_pos (by omega)], wds_app h.wd w1 n2, h.nd, h.ws, fun z => by cases z⟩
    · have e : due2 none i = none := if_neg h8
      rw [e]
      have hrun : runB (false, false) (P ++ [(ww n th, n)]) = stB (runB (false, false) P) (ww n th, n) := by unfold runB; rw [List.foldl_append]; rfl
      refine ⟨by rw [List.length_append, h.len]; rfl, by rw [hck, if_neg (by omega)], wds_app h.wd w1 n2, ?_, ?_, fun _ => ⟨?_, ?_⟩⟩
      · by_cases hm : n ∈ th
        · rw [th2_out hm]; exact h.nd.erase n
        · rw [th2_in hm]
          refine List.nodup_append.mpr ⟨h.nd, by simp, fun a ha b hb => ?_⟩
          have : b = n := by simpa using hb
          subst this
          rintro rfl
          exact hm ha
      · by_cases hm : n ∈ th
        · rw [th2_out hm]; exact fun x hx => h.ws x (List.mem_of_mem_erase hx)
        · rw [th2_in hm]
          intro x hx
          rcases List.mem_append.mp hx with hx | hx
          · exact h.ws x hx
          · have : x = n := by simpa using hx
            subst this; exact hn
      · rw [hrun, s1]
        have hn' := hn
        simp only [words3, List.mem_cons, List.not_mem_nil, or_false] at hn'
        have key : ∀ x : Str, (x ∈ th2 none (ww n th) n th) ↔ if x = n then n ∉ th else x ∈ th := fun x => by
          by_cases hm : n ∈ th
          · rw [th2_out hm, List.Nodup.mem_erase_iff h.nd]
            by_cases hx : x = n
            · subst hx; simp [hm]
            · simp [hx]
          · rw [th2_in hm]
            by_cases hx : x = n
            · subst hx; simp [hm]
            · simp [hx]
        have d : ∀ x : Str, decide (x ∈ th2 none (ww n th) n th) = if x = n then !decide (n ∈ th) else decide (x ∈ th) := fun x => by
          rw [Bool.eq_iff_iff, decide_eq_true_eq, key]
          by_cases hx : x = n
          · rw [if_pos hx, if_pos hx]; simp
          · rw [if_neg hx, if_neg hx]; simp
        rw [d, d]
        rcases hn' with rfl | rfl
        · rw [if_pos rfl, if_neg (by decide)]; rfl
        · rw [if_neg (by decide), if_pos rfl]; rfl
      · intro p hp
        rcases List.mem_append.mp hp with hp | hp
        · exact s2 p hp
        · have : p = (ww n th, n) := by simpa using hp
          subst this; exact ⟨ww_in n th, hn⟩
end
end My

namespace My
open PySem L2 Cc Mi Wm
section
variable {C A1 A2 A3 : Addr} {th : List Str} {P : List It2} {i : Nat} {w n : Str} {due : Option Nat} {E : Str → List D → Prop}
abbrev rhoI (C : Addr) (z2 : D) (th : List Str) (due : Option Nat) (P : List It2) (s5 s6 s7 s8 s11 : Sl) : Mi.Env := [.no, .row, .dat z2, .own (th.map D.str), .dat (dueD due), s5, s6, s7, s8, .own (P.map itP), .dat (stD C), s11]
def Post (C : Addr) (z2 : D) (i : Nat) (s11 : Sl) : Fl → Prop := fun fl => ∃ ρ', fl = .nx ρ' ∧ ∃ th due P s6 s7 s8, Ds s6 ∧ Ds s7 ∧ Ds s8 ∧ IvP (i + 1) th due P ∧ ρ' = rhoI C z2 th due P (.dat (.int (i : Nat))) s6 s7 s8 s11
theorem th_len (h : IvP i th due P) : th.length ≤ 20 := by
  have hp : th.length ≤ words3.length := by
    have hp : th.Perm (words3.filter fun x => decide (x ∈ th)) := (List.perm_ext_iff_of_nodup h.nd ((show words3.Nodup by decide).sublist List.filter_sublist)).mpr fun x => by
      rw [List.mem_filter, decide_eq_true_eq]
      exact ⟨fun hx => ⟨h.ws x hx, hx⟩, fun hx => hx.2⟩
    rw [hp.length_eq]
    exact List.length_filter_le _ _
  exact Nat.le_trans hp (by decide)
theorem i_w3 (hw : w ∈ words1) (d : Option Nat) (hP : P.length ≤ 20) (hth : th.length ≤ 20) (hrem : due2 d i = none → w = "out" → n ∈ th) {z2 : D} {s8 s11 : Sl} (h8 : Ds s8) (h11 : Ds s11) (iv : IvP (i + 1) (th2 (due2 d i) w n th) (due2 d i) (P ++ [(w, n)])) :
    Wp (w3 C A1 A2 A3 (rhoI C z2 th d P (.dat (.int (i : Nat))) (.dat (.str n)) (.dat (.str w)) s8 s11)) (Post C z2 i s11) E := by
  unfold w3
  refine wp_next (s_w3 d (.inr ⟨_, rfl⟩) (.inr ⟨_, rfl⟩) h8 h11) ?_
  exact wp_ret (s_w4 hw (due2 d i) hP hth hrem h8 h11) ⟨_, rfl, _, _, _, _, _, _, .inr ⟨_, rfl⟩, .inr ⟨_, rfl⟩, h8, iv, rfl⟩
def spoil : Mi.Env → M Fl := (sSeq (sAsg 8 (mIf (cOf (mOp fEq (mVar 7) (mC (.str "in")))) (mC (.str "out")) (mC (.str "in"))))
    (sSeq (sPat (pTup [(pName 7), (pName 6)]) (mOp fIx (mNew (mLst (mCons (mTup (mCons (mC (.str "in")) (mCons (mC (.str "kiwi")) mNil))) (mCons (mTup (mCons (mC (.str "in")) (mCons (mC (.str "")) mNil))) (mCons (mTup (mCons (mC (.str "put")) (mCons (mVar 6) mNil))) (mCons (mTup (mCons (mVar 8) (mCons (mVar 6) mNil))) mNil)))))) (mDraw 1 (mC (.int 4)))))
    (sAsg 4 (mIf (cOf (mOp fIsN (mVar 4) (mC .non))) (mVar 5) (mVar 4)))))
theorem spoil_run (hw : w ∈ words4) {z2 : D} {s8 s11 : Sl} (h8 : Ds s8) (h11 : Ds s11) : (spoil (rhoI C z2 th due P (.dat (.int (i : Nat))) (.dat (.str n)) (.dat (.str w)) s8 s11)).wp (fun fl => ∃ p ∈ bad4 w n, fl = .nx (rhoI C z2 th (due1 due i) P (.dat (.int (i : Nat))) (.dat (.str p.2)) (.dat (.str p.1)) (.dat (.str (flip' w))) s11)) E := by
  have ei := eq_w (w43 hw) "in" (.inl rfl)
  have ef : (if w = "in" then D.str "out" else D.str "in") = D.str (flip' w) := by unfold flip'; split <;> rfl
  have e1 := isN_due due
  have hd : dueD (due1 due i) = if due.isNone then .int (i : Nat) else dueD due := by cases due <;> rfl
  have k2 : (2 : Nat) ≤ 100000 := by omega
  have k4 : (4 : Nat) ≤ 100000 := by omega
  have f0 : ∀ a b c d : D, fIx (.lst [a, b, c, d]) (.int 0) = some a := fun _ _ _ _ => rfl
  have f1 : ∀ a b c d : D, fIx (.lst [a, b, c, d]) (.int 1) = some b := fun _ _ _ _ => rfl
  have f2 : ∀ a b c d : D, fIx (.lst [a, b, c, d]) (.int 2) = some c := fun _ _ _ _ => rfl
  have f3 : ∀ a b c d : D, fIx (.lst [a, b, c, d]) (.int 3) = some d := fun _ _ _ _ => rfl
  have hs8 : sAsg 8 (mIf (cOf (mOp fEq (mVar 7) (mC (.str "in")))) (mC (.str "out")) (mC (.str "in"))) (rhoI C z2 th due P (.dat (.int (i : Nat))) (.dat (.str n)) (.dat (.str w)) s8 s11) = .ret (.nx (rhoI C z2 th due P (.dat (.int (i : Nat))) (.dat (.str n)) (.dat (.str w)) (.dat (.str (flip' w))) s11)) := by
    rw [← ef]
    generalize dueD due = dd at *
    unfold rhoI
    generalize dueD due = dd at *
    generalize th.map D.str = T at *
    generalize P.map itP = PD at *
    by_cases h : w = "in"
    · rw [decide_eq_true h] at ei
      rw [if_pos h]
      rcases h8 with rfl | ⟨z8, rfl⟩ <;> rcases h11 with rfl | ⟨z11, rfl⟩ <;> simp -implicitDefEqProofs only [defM, defR, lawM, fin, sSeq, sExpr, sAsg, sAsgB, sPat, sPatB, sOwn, sOwnB, sPar, sPar3, sRet, sRetN, sIf, sFor, sForB, sApp, sAppB, sExt, sExtB, sSet, sFz, sNext, sBreak, sCont, sAug, sAugL, sErrF, sErr, sParX, sParX3, agGo, Fl.next, Fl.turn, vB, ok1, okL, mVar, mC, mOp, mUn, mNil, mCons, mCB, mCBn, mCall, mTup, mLst, mNew, asB, cOf, cAnd, cOr, cNot, cYes, mAnd, mOr, mNot, mIf, mChain, oNone, asI, oSome, mOpN, mPt, iL, iT, mFld, mProp, mLenI, mSlT, mSlL, pName, pGo, pTup, pLst, wipeE, mIsT, mCallR, mDraw, isRow, look, M.bind_ret, M.bind_err, M.bind_bad, M.bind_draw, M.ofO_some, M.ofO_none, M.calm_ret, M.calm_bad, M.calm_draw, M.bind_assoc, M.wp_ret, List.length_cons, List.length_nil, List.map_cons, List.map_nil, List.replicate_zero, List.replicate_succ, List.cons_append, List.nil_append, List.set_cons_zero, List.set_cons_succ, List.getElem?_cons_zero, List.getElem?_cons_succ, Nat.reduceAdd, Nat.reduceSub, Nat.reduceLeDiff, Nat.reduceEqDiff, if_true, if_false, ite_true, ite_false, reduceIte, Bool.not_true, Bool.not_false, Bool.false_eq_true, ei]
    · rw [decide_eq_false h] at ei
      rw [if_neg h]
      rcases h8 with rfl | ⟨z8, rfl⟩ <;> rcases h11 with rfl | ⟨z11, rfl⟩ <;> simp -implicitDefEqProofs only [defM, defR, lawM, fin, sSeq, sExpr, sAsg, sAsgB, sPat, sPatB, sOwn, sOwnB, sPar, sPar3, sRet, sRetN, sIf, sFor, sForB, sApp, sAppB, sExt, sExtB, sSet, sFz, sNext, sBreak, sCont, sAug, sAugL, sErrF, sErr, sParX, sParX3, agGo, Fl.next, Fl.turn, vB, ok1, okL, mVar, mC, mOp, mUn, mNil, mCons, mCB, mCBn, mCall, mTup, mLst, mNew, asB, cOf, cAnd, cOr, cNot, cYes, mAnd, mOr, mNot, mIf, mChain, oNone, asI, oSome, mOpN, mPt, iL, iT, mFld, mProp, mLenI, mSlT, mSlL, pName, pGo, pTup, pLst, wipeE, mIsT, mCallR, mDraw, isRow, look, M.bind_ret, M.bind_err, M.bind_bad, M.bind_draw, M.ofO_some, M.ofO_none, M.calm_ret, M.calm_bad, M.calm_draw, M.bind_assoc, M.wp_ret, List.length_cons, List.length_nil, List.map_cons, List.map_nil, List.replicate_zero, List.replicate_succ, List.cons_append, List.nil_append, List.set_cons_zero, List.set_cons_succ, List.getElem?_cons_zero, List.getElem?_cons_succ, Nat.reduceAdd, Nat.reduceSub, Nat.reduceLeDiff, Nat.reduceEqDiff, if_true, if_false, ite_true, ite_false, reduceIte, Bool.not_true, Bool.not_false, Bool.false_eq_true, ei]
  have hs4 : ∀ x y : Str, sAsg 4 (mIf (cOf (mOp fIsN (mVar 4) (mC .non))) (mVar 5) (mVar 4)) (rhoI C z2 th due P (.dat (.int (i : Nat))) (.dat (.str x)) (.dat (.str y)) (.dat (.str (flip' w))) s11) = .ret (.nx (rhoI C z2 th (due1 due i) P (.dat (.int (i : Nat))) (.dat (.str x)) (.dat (.str y)) (.dat (.str (flip' w))) s11)) := fun x y => by
    unfold rhoI
    rw [hd]
    generalize dueD due = dd at *
    generalize th.map D.str = T at *
    generalize P.map itP = PD at *
    generalize ((i : Nat) : Int) = ii at *
    cases hn : due.isNone with
    | true =>
      rw [hn] at e1
      rw [if_pos rfl]
      rcases h11 with rfl | ⟨z11, rfl⟩ <;> simp -implicitDefEqProofs only [defM, defR, lawM, fin, sSeq, sExpr, sAsg, sAsgB, sPat, sPatB, sOwn, sOwnB, sPar, sPar3, sRet, sRetN, sIf, sFor, sForB, sApp, sAppB, sExt, sExtB, sSet, sFz, sNext, sBreak, sCont, sAug, sAugL, sErrF, sErr, sParX, sParX3, agGo, Fl.next, Fl.turn, vB, ok1, okL, mVar, mC, mOp, mUn, mNil, mCons, mCB, mCBn, mCall, mTup, mLst, mNew, asB, cOf, cAnd, cOr, cNot, cYes, mAnd, mOr, mNot, mIf, mChain, oNone, asI, oSome, mOpN, mPt, iL, iT, mFld, mProp, mLenI, mSlT, mSlL, pName, pGo, pTup, pLst, wipeE, mIsT, mCallR, mDraw, isRow, look, M.bind_ret, M.bind_err, M.bind_bad, M.bind_draw, M.ofO_some, M.ofO_none, M.calm_ret, M.calm_bad, M.calm_draw, M.bind_assoc, M.wp_ret, List.length_cons, List.length_nil, List.map_cons, List.map_nil, List.replicate_zero, List.replicate_succ, List.cons_append, List.nil_append, List.set_cons_zero, List.set_cons_succ, List.getElem?_cons_zero, List.getElem?_cons_succ, Nat.reduceAdd, Nat.reduceSub, Nat.reduceLeDiff, Nat.reduceEqDiff, if_true, if_false, ite_true, ite_false, reduceIte, Bool.not_true, Bool.not_false, Bool.false_eq_true, e1]
    | false =>
      rw [hn] at e1
      rw [if_neg Bool.false_ne_true]
      rcases h11 with rfl | ⟨z11, rfl⟩ <;> simp -implicitDefEqProofs only [defM, defR, lawM, fin, sSeq, sExpr, sAsg, sAsgB, sPat, sPatB, sOwn, sOwnB, sPar, sPar3, sRet, sRetN, sIf, sFor, sForB, sApp, sAppB, sExt, sExtB, sSet, sFz, sNext, sBreak, sCont, sAug, sAugL, sErrF, sErr, sParX, sParX3, agGo, Fl.next, Fl.turn, vB, ok1, okL, mVar, mC, mOp, mUn, mNil, mCons, mCB, mCBn, mCall, mTup, mLst, mNew, asB, cOf, cAnd, cOr, cNot, cYes, mAnd, mOr, mNot, mIf, mChain, oNone, asI, oSome, mOpN, mPt, iL, iT, mFld, mProp, mLenI, mSlT, mSlL, pName, pGo, pTup, pLst, wipeE, mIsT, mCallR, mDraw, isRow, look, M.bind_ret, M.bind_err, M.bind_bad, M.bind_draw, M.ofO_some, M.ofO_none, M.calm_ret, M.calm_bad, M.calm_draw, M.bind_assoc, M.wp_ret, List.length_cons, List.length_nil, List.map_cons, List.map_nil, List.replicate_zero, List.replicate_succ, List.cons_append, List.nil_append, List.set_cons_zero, List.set_cons_succ, List.getElem?_cons_zero, List.getElem?_cons_succ, Nat.reduceAdd, Nat.reduceSub, Nat.reduceLeDiff, Nat.reduceEqDiff, if_true, if_false, ite_true, ite_false, reduceIte, Bool.not_true, Bool.not_false, Bool.false_eq_true, e1]
  have hp : ∀ d : Int, 0 ≤ d → d < 4 → ∃ p ∈ bad4 w n, (M.ofO (fIx (.lst [.ptup [.str "in", .str "kiwi"], .ptup [.str "in", .str ""], .ptup [.str "put", .str n], .ptup [.str (flip' w), .str n]]) (.int d))) = .ret (.ptup [.str p.1, .str p.2]) := fun d d0 d1 => by
    have hd4 : d = 0 ∨ d = 1 ∨ d = 2 ∨ d = 3 := by omega
    rcases hd4 with rfl | rfl | rfl | rfl
    · exact ⟨("in", "kiwi"), by simp [bad4], rfl⟩
    · exact ⟨("in", ""), by simp [bad4], rfl⟩
    · exact ⟨("put", n), by simp [bad4], rfl⟩
    · exact ⟨(flip' w, n), by simp [bad4], rfl⟩
  have hpat : sPat (pTup [(pName 7), (pName 6)]) (mOp fIx (mNew (mLst (mCons (mTup (mCons (mC (.str "in")) (mCons (mC (.str "kiwi")) mNil))) (mCons (mTup (mCons (mC (.str "in")) (mCons (mC (.str "")) mNil))) (mCons (mTup (mCons (mC (.str "put")) (mCons (mVar 6) mNil))) (mCons (mTup (mCons (mVar 8) (mCons (mVar 6) mNil))) mNil)))))) (mDraw 1 (mC (.int 4)))) (rhoI C z2 th due P (.dat (.int (i : Nat))) (.dat (.str n)) (.dat (.str w)) (.dat (.str (flip' w))) s11) = .draw 4 fun d => (M.ofO (fIx (.lst [.ptup [.str "in", .str "kiwi"], .ptup [.str "in", .str ""], .ptup [.str "put", .str n], .ptup [.str (flip' w), .str n]]) (.int d))).bind fun x => (match pTup [(pName 7), (pName 6)] x (rhoI C z2 th due P (.dat (.int (i : Nat))) (.dat (.str n)) (.dat (.str w)) (.dat (.str (flip' w))) s11) with
      | some ρ' => .ret (.nx ρ')
      | none => .bad) := rfl
  unfold spoil sSeq
  rw [hs8, M.bind_ret]
  show (M.bind (sPat (pTup [(pName 7), (pName 6)]) (mOp fIx (mNew (mLst (mCons (mTup (mCons (mC (.str "in")) (mCons (mC (.str "kiwi")) mNil))) (mCons (mTup (mCons (mC (.str "in")) (mCons (mC (.str "")) mNil))) (mCons (mTup (mCons (mC (.str "put")) (mCons (mVar 6) mNil))) (mCons (mTup (mCons (mVar 8) (mCons (mVar 6) mNil))) mNil)))))) (mDraw 1 (mC (.int 4)))) (rhoI C z2 th due P (.dat (.int (i : Nat))) (.dat (.str n)) (.dat (.str w)) (.dat (.str (flip' w))) s11)) _).wp _ _
  rw [hpat, M.wp_bind, M.wp_draw]
  refine ⟨⟨by decide, by decide⟩, fun d d0 d1 => ?_⟩
  have hh := hp d d0 d1
  have h1 := hh.choose_spec.1
  have h2 := hh.choose_spec.2
  generalize hh.choose = p at h1 h2
  rw [h2, M.bind_ret]
  show (sAsg 4 (mIf (cOf (mOp fIsN (mVar 4) (mC .non))) (mVar 5) (mVar 4)) (rhoI C z2 th due P (.dat (.int (i : Nat))) (.dat (.str p.2)) (.dat (.str p.1)) (.dat (.str (flip' w))) s11)).wp _ _
  rw [hs4]
  exact ⟨p, h1, rfl⟩
theorem f_inLst (n : Str) (th : List Str) : fIn false (.str n) (.lst (th.map D.str)) = some (.bl (decide (n ∈ th))) := by
  have := f_inStrs false n th
  rw [if_neg Bool.false_ne_true] at this
  exact this
theorem i_w1 (h : IvP i th due P) (hi : i ≤ 10) (hn : n ∈ words3) {z2 : D} {s7 s8 s11 : Sl} (h7 : Ds s7) (h8 : Ds s8) (h11 : Ds s11) : Wp (w1 C A1 A2 A3 (rhoI C z2 th due P (.dat (.int (i : Nat))) (.dat (.str n)) s7 s8 s11)) (Post C z2 i s11) E := by
  have hP : P.length ≤ 20 := by rw [h.len]; omega
  have hth := th_len h
  unfold w1
  refine wp_next (ρ' := rhoI C z2 th due P (.dat (.int (i : Nat))) (.dat (.str n)) (.dat (.str (ww n th))) s8 s11) ?_ ?_
  · have ei := f_inLst n th
    have ef : (if n ∈ th then D.str "out" else D.str "in") = D.str (ww n th) := by unfold ww; split <;> rfl
    rw [← ef]
    unfold rhoI
    generalize dueD due = dd at *
    generalize P.map itP = PD at *
    by_cases hm : n ∈ th
    · rw [decide_eq_true hm] at ei
      rw [if_pos hm]
      generalize th.map D.str = T at *
      rcases h7 with rfl | ⟨z7, rfl⟩ <;> rcases h8 with rfl | ⟨z8, rfl⟩ <;> rcases h11 with rfl | ⟨z11, rfl⟩ <;> simp -implicitDefEqProofs only [defM, defR, lawM, fin, sSeq, sExpr, sAsg, sAsgB, sPat, sPatB, sOwn, sOwnB, sPar, sPar3, sRet, sRetN, sIf, sFor, sForB, sApp, sAppB, sExt, sExtB, sSet, sFz, sNext, sBreak, sCont, sAug, sAugL, sErrF, sErr, sParX, sParX3, agGo, Fl.next, Fl.turn, vB, ok1, okL, mVar, mC, mOp, mUn, mNil, mCons, mCB, mCBn, mCall, mTup, mLst, mNew, asB, cOf, cAnd, cOr, cNot, cYes, mAnd, mOr, mNot, mIf, mChain, oNone, asI, oSome, mOpN, mPt, iL, iT, mFld, mProp, mLenI, mSlT, mSlL, pName, pGo, pTup, pLst, wipeE, mIsT, mCallR, mDraw, isRow, look, M.bind_ret, M.bind_err, M.bind_bad, M.bind_draw, M.ofO_some, M.ofO_none, M.calm_ret, M.calm_bad, M.calm_draw, M.bind_assoc, M.wp_ret, List.length_cons, List.length_nil, List.map_cons, List.map_nil, List.replicate_zero, List.replicate_succ, List.cons_append, List.nil_append, List.set_cons_zero, List.set_cons_succ, List.getElem?_cons_zero, List.getElem?_cons_succ, Nat.reduceAdd, Nat.reduceSub, Nat.reduceLeDiff, Nat.reduceEqDiff, if_true, if_false, ite_true, ite_false, reduceIte, Bool.not_true, Bool.not_false, Bool.false_eq_true, ei, D.fix, D.pl, Bool.and_self]
    · rw [decide_eq_false hm] at ei
      rw [if_neg hm]
      generalize th.map D.str = T at *
      rcases h7 with rfl | ⟨z7, rfl⟩ <;> rcases h8 with rfl | ⟨z8, rfl⟩ <;> rcases h11 with rfl | ⟨z11, rfl⟩ <;> simp -implicitDefEqProofs only [defM, defR, lawM, fin, sSeq, sExpr, sAsg, sAsgB, sPat, sPatB, sOwn, sOwnB, sPar, sPar3, sRet, sRetN, sIf, sFor, sForB, sApp, sAppB, sExt, sExtB, sSet, sFz, sNext, sBreak, sCont, sAug, sAugL, sErrF, sErr, sParX, sParX3, agGo, Fl.next, Fl.turn, vB, ok1, okL, mVar, mC, mOp, mUn, mNil, mCons, mCB, mCBn, mCall, mTup, mLst, mNew, asB, cOf, cAnd, cOr, cNot, cYes, mAnd, mOr, mNot, mIf, mChain, oNone, asI, oSome, mOpN, mPt, iL, iT, mFld, mProp, mLenI, mSlT, mSlL, pName, pGo, pTup, pLst, wipeE, mIsT, mCallR, mDraw, isRow, look, M.bind_ret, M.bind_err, M.bind_bad, M.bind_draw, M.ofO_some, M.ofO_none, M.calm_ret, M.calm_bad, M.calm_draw, M.bind_assoc, M.wp_ret, List.length_cons, List.length_nil, List.map_cons, List.map_nil, List.replicate_zero, List.replicate_succ, List.cons_append, List.nil_append, List.set_cons_zero, List.set_cons_succ, List.getElem?_cons_zero, List.getElem?_cons_succ, Nat.reduceAdd, Nat.reduceSub, Nat.reduceLeDiff, Nat.reduceEqDiff, if_true, if_false, ite_true, ite_false, reduceIte, Bool.not_true, Bool.not_false, Bool.false_eq_true, ei, D.fix, D.pl, Bool.and_self]
  have hrem : ∀ d : Option Nat, d = none → ww n th = "out" → n ∈ th := fun _ _ e => by
    unfold ww at e
    split at e
    · assumption
    · exact absurd e (by decide)
  have kg : Wp (w3 C A1 A2 A3 (rhoI C z2 th due P (.dat (.int (i : Nat))) (.dat (.str n)) (.dat (.str (ww n th))) s8 s11)) (Post C z2 i s11) E := i_w3 (w43 (ww_in n th)) due hP hth (hrem _) h8 h11 (h.good hn)
  have kb : ∀ p ∈ bad4 (ww n th) n, Wp (w3 C A1 A2 A3 (rhoI C z2 th (due1 due i) P (.dat (.int (i : Nat))) (.dat (.str p.2)) (.dat (.str p.1)) (.dat (.str (flip' (ww n th)))) s11)) (Post C z2 i s11) E := fun p hp => by
    have hb := h.bad hn hp
    obtain ⟨_, b2, _⟩ := bad_no (th := th) hn p hp
    refine i_w3 b2 (due1 due i) hP hth (fun e => ?_) (.inr ⟨_, rfl⟩) h11 hb
    cases due <;> cases e
  have sp := spoil_run (C := C) (due := due) (P := P) (i := i) (n := n) (th := th) (E := E) (ww_in n th) (z2 := z2) h8 h11
  have hsp : spoil = (sSeq (sAsg 8 (mIf (cOf (mOp fEq (mVar 7) (mC (.str "in")))) (mC (.str "out")) (mC (.str "in"))))
    (sSeq (sPat (pTup [(pName 7), (pName 6)]) (mOp fIx (mNew (mLst (mCons (mTup (mCons (mC (.str "in")) (mCons (mC (.str "kiwi")) mNil))) (mCons (mTup (mCons (mC (.str "in")) (mCons (mC (.str "")) mNil))) (mCons (mTup (mCons (mC (.str "put")) (mCons (mVar 6) mNil))) (mCons (mTup (mCons (mVar 8) (mCons (mVar 6) mNil))) mNil)))))) (mDraw 1 (mC (.int 4)))))
    (sAsg 4 (mIf (cOf (mOp fIsN (mVar 4) (mC .non))) (mVar 5) (mVar 4))))) := rfl
  unfold w2
  rw [← hsp]
  refine wp_seq ⟨?_⟩
  have hdr : sIf (cOf (mOp fEq (mDraw 1 (mC (.int 10))) (mC (.int 0)))) spoil sNext (rhoI C z2 th due P (.dat (.int (i : Nat))) (.dat (.str n)) (.dat (.str (ww n th))) s8 s11) = .draw 10 fun d => if (d == 0) = true then spoil (rhoI C z2 th due P (.dat (.int (i : Nat))) (.dat (.str n)) (.dat (.str (ww n th))) s8 s11) else .ret (.nx (rhoI C z2 th due P (.dat (.int (i : Nat))) (.dat (.str n)) (.dat (.str (ww n th))) s8 s11)) := by
    unfold sIf cOf mOp mDraw
    rw [if_pos (by rfl)]
    show M.draw 10 (fun d => (((M.ofO (fEq (.int d) (.int 0))).bind asB).bind (fun k => if k = true then spoil _ else sNext _))) = M.draw 10 _
    congr 1
  rw [hdr, M.wp_draw]
  refine ⟨⟨by decide, by decide⟩, fun d _ _ => ?_⟩
  cases (d == 0)
  · rw [if_neg Bool.false_ne_true]
    exact ⟨_, rfl, kg⟩
  · rw [if_pos rfl]
    refine M.wp_mono (fun fl hf => ?_) (fun _ _ h => h) _ sp
    have h1 := hf.choose_spec.1
    have h2 := hf.choose_spec.2
    generalize hf.choose = p at h1 h2
    exact ⟨_, h2, kb p h1⟩
theorem i_w0 (h : IvP i th due P) (hi : i ≤ 10) {z2 : D} {s6 s7 s8 s11 : Sl} (h6 : Ds s6) (h7 : Ds s7) (h8 : Ds s8) (h11 : Ds s11) : Wp (w0 C A1 A2 A3 (rhoI C z2 th due P (.dat (.int (i : Nat))) s6 s7 s8 s11)) (Post C z2 i s11) E := by
  unfold w0
  refine wp_drawn (n := 2) (f := fun d => (M.ofO (fIx (.lst [.str "fig", .str "plum"]) (.int d))).bind fun x => .ret (.nx (rhoI C z2 th due P (.dat (.int (i : Nat))) (.dat x) s7 s8 s11))) (by rfl) ⟨by decide, by decide⟩ fun d d0 d1 => ?_
  have hd : d = 0 ∨ d = 1 := by omega
  rcases hd with rfl | rfl
  · exact ⟨_, rfl, i_w1 h hi (by simp [words3]) h7 h8 h11⟩
  · exact ⟨_, rfl, i_w1 h hi (by simp [words3]) h7 h8 h11⟩
theorem x_three (h : IvP i th due P) (hi : i ≤ 10) : ∀ F : List D → M D, F = m_least_plan ∨ F = m_least_fixed ∨ F = m_worth_moving → m__law_told (F [stD C, .ptup (P.map itP)]) = .ret (dueD due) := by
  intro F hF
  have hPl : P.length ≤ 100 := by rw [h.len]; omega
  have hck := h.ck
  have e0 := x_checkPlan C P hPl h.wd
  rw [hck] at e0
  cases due with
  | some k =>
    dsimp only at e0
    have ef : m_least_fixed [stD C, .ptup (P.map itP)] = .err "InvalidPlan" [.int (k : Nat)] := by
      generalize P.map itP = PD at *
      simp -implicitDefEqProofs only [defM, defR, lawM, fin, sSeq, sExpr, sAsg, sAsgB, sPat, sPatB, sOwn, sOwnB, sPar, sPar3, sRet, sRetN, sIf, sFor, sForB, sApp, sAppB, sExt, sExtB, sSet, sFz, sNext, sBreak, sCont, sAug, sAugL, sErrF, sErr, sParX, sParX3, agGo, Fl.next, Fl.turn, vB, ok1, okL, mVar, mC, mOp, mUn, mNil, mCons, mCB, mCBn, mCall, mTup, mLst, mNew, asB, cOf, cAnd, cOr, cNot, cYes, mAnd, mOr, mNot, mIf, mChain, oNone, asI, oSome, mOpN, mPt, iL, iT, mFld, mProp, mLenI, mSlT, mSlL, pName, pGo, pTup, pLst, wipeE, mIsT, mCallR, mDraw, isRow, look, M.bind_ret, M.bind_err, M.bind_bad, M.bind_draw, M.ofO_some, M.ofO_none, M.calm_ret, M.calm_bad, M.calm_draw, M.bind_assoc, M.wp_ret, List.length_cons, List.length_nil, List.map_cons, List.map_nil, List.replicate_zero, List.replicate_succ, List.cons_append, List.nil_append, List.set_cons_zero, List.set_cons_succ, List.getElem?_cons_zero, List.getElem?_cons_succ, Nat.reduceAdd, Nat.reduceSub, Nat.reduceLeDiff, Nat.reduceEqDiff, if_true, if_false, ite_true, ite_false, reduceIte, Bool.not_true, Bool.not_false, Bool.false_eq_true, m_least_fixed, e0]
    have ep : m_least_plan [stD C, .ptup (P.map itP)] = .err "InvalidPlan" [.int (k : Nat)] := by
      generalize P.map itP = PD at *
      simp -implicitDefEqProofs only [defM, defR, lawM, fin, sSeq, sExpr, sAsg, sAsgB, sPat, sPatB, sOwn, sOwnB, sPar, sPar3, sRet, sRetN, sIf, sFor, sForB, sApp, sAppB, sExt, sExtB, sSet, sFz, sNext, sBreak, sCont, sAug, sAugL, sErrF, sErr, sParX, sParX3, agGo, Fl.next, Fl.turn, vB, ok1, okL, mVar, mC, mOp, mUn, mNil, mCons, mCB, mCBn, mCall, mTup, mLst, mNew, asB, cOf, cAnd, cOr, cNot, cYes, mAnd, mOr, mNot, mIf, mChain, oNone, asI, oSome, mOpN, mPt, iL, iT, mFld, mProp, mLenI, mSlT, mSlL, pName, pGo, pTup, pLst, wipeE, mIsT, mCallR, mDraw, isRow, look, M.bind_ret, M.bind_err, M.bind_bad, M.bind_draw, M.ofO_some, M.ofO_none, M.calm_ret, M.calm_bad, M.calm_draw, M.bind_assoc, M.wp_ret, List.length_cons, List.length_nil, List.map_cons, List.map_nil, List.replicate_zero, List.replicate_succ, List.cons_append, List.nil_append, List.set_cons_zero, List.set_cons_succ, List.getElem?_cons_zero, List.getElem?_cons_succ, Nat.reduceAdd, Nat.reduceSub, Nat.reduceLeDiff, Nat.reduceEqDiff, if_true, if_false, ite_true, ite_false, reduceIte, Bool.not_true, Bool.not_false, Bool.false_eq_true, m_least_plan, e0]
    have ew : m_worth_moving [stD C, .ptup (P.map itP)] = .err "InvalidPlan" [.int (k : Nat)] := by
      generalize P.map itP = PD at *
      simp -implicitDefEqProofs only [defM, defR, lawM, fin, sSeq, sExpr, sAsg, sAsgB, sPat, sPatB, sOwn, sOwnB, sPar, sPar3, sRet, sRetN, sIf, sFor, sForB, sApp, sAppB, sExt, sExtB, sSet, sFz, sNext, sBreak, sCont, sAug, sAugL, sErrF, sErr, sParX, sParX3, agGo, Fl.next, Fl.turn, vB, ok1, okL, mVar, mC, mOp, mUn, mNil, mCons, mCB, mCBn, mCall, mTup, mLst, mNew, asB, cOf, cAnd, cOr, cNot, cYes, mAnd, mOr, mNot, mIf, mChain, oNone, asI, oSome, mOpN, mPt, iL, iT, mFld, mProp, mLenI, mSlT, mSlL, pName, pGo, pTup, pLst, wipeE, mIsT, mCallR, mDraw, isRow, look, M.bind_ret, M.bind_err, M.bind_bad, M.bind_draw, M.ofO_some, M.ofO_none, M.calm_ret, M.calm_bad, M.calm_draw, M.bind_assoc, M.wp_ret, List.length_cons, List.length_nil, List.map_cons, List.map_nil, List.replicate_zero, List.replicate_succ, List.cons_append, List.nil_append, List.set_cons_zero, List.set_cons_succ, List.getElem?_cons_zero, List.getElem?_cons_succ, Nat.reduceAdd, Nat.reduceSub, Nat.reduceLeDiff, Nat.reduceEqDiff, if_true, if_false, ite_true, ite_false, reduceIte, Bool.not_true, Bool.not_false, Bool.false_eq_true, m_worth_moving, ef]
    rcases hF with rfl | rfl | rfl
    · rw [ep, x_told1]; rfl
    · rw [ef, x_told1]; rfl
    · rw [ew, x_told1]; rfl
  | none =>
    have hl := chk_len P 0 _ (by omega) hck
    rw [Nat.zero_add] at hl
    obtain ⟨_, s2⟩ := h.st rfl
    rcases hF with rfl | rfl | rfl
    · obtain ⟨a, p, e⟩ := x_plan C P hl h.wd hck s2
      rw [e, x_told0]; rfl
    · obtain ⟨a, p, e⟩ := x_fixed C P hl h.wd (fun p hq => by simpa [words3] using (s2 p hq).2) hck
      rw [e, x_told0]; rfl
    · obtain ⟨a, e⟩ := x_worth C P hl h.wd hck s2
      rw [e, x_told0]; rfl
theorem ne_due (d : Option Nat) : fNe (dueD d) (dueD d) = some (.bl false) := by
  cases d with
  | none => exact f_neSame (n := 1) (by decide) (by decide)
  | some k => show fNe (.int (k : Nat)) (.int (k : Nat)) = _; rw [f_neI]; simp
theorem fn_three (a : Addr) (ha : a = A1 ∨ a = A2 ∨ a = A3) : ∃ F, fnAt [(A2, m_least_plan), (A1, m_least_fixed), (A3, m_worth_moving)] a = some F ∧ (F = m_least_plan ∨ F = m_least_fixed ∨ F = m_worth_moving) := by
  unfold fnAt
  by_cases h2 : a = A2
  · exact ⟨_, if_pos h2, .inl rfl⟩
  · rw [if_neg h2]
    unfold fnAt
    by_cases h1 : a = A1
    · exact ⟨_, if_pos h1, .inr (.inl rfl)⟩
    · rw [if_neg h1]
      unfold fnAt
      have h3 : a = A3 := by
        rcases ha with h | h | h
        · exact absurd h h1
        · exact absurd h h2
        · exact h
      exact ⟨_, if_pos h3, .inr (.inr rfl)⟩
theorem x_run (h : IvP i th due P) (hi : i ≤ 10) {z2 : D} {s5 s6 s7 s8 : Sl} (h5 : Ds s5) (h6 : Ds s6) (h7 : Ds s7) (h8 : Ds s8) (a : Addr) (ha : a = A1 ∨ a = A2 ∨ a = A3) : x0 C A1 A2 A3 (rhoI C z2 th due P s5 s6 s7 s8 (.dat (.adr a))) = .ret (.nx (rhoI C z2 th due P s5 s6 s7 s8 (.dat (.adr a)))) := by
  obtain ⟨F, hF, hF3⟩ := fn_three (A1 := A1) (A2 := A2) (A3 := A3) a ha
  have e1 := x_three (C := C) h hi F hF3
  have e2 := ne_due due
  have e3 : fTup [.lst (P.map itP)] = some (.ptup (P.map itP)) := rfl
  unfold x0 rhoI
  generalize dueD due = dd at *
  generalize th.map D.str = T at *
  generalize P.map itP = PD at *
  rcases h5 with rfl | ⟨z5, rfl⟩ <;> rcases h6 with rfl | ⟨z6, rfl⟩ <;> rcases h7 with rfl | ⟨z7, rfl⟩ <;> rcases h8 with rfl | ⟨z8, rfl⟩ <;> simp -implicitDefEqProofs only [defM, defR, lawM, fin, sSeq, sExpr, sAsg, sAsgB, sPat, sPatB, sOwn, sOwnB, sPar, sPar3, sRet, sRetN, sIf, sFor, sForB, sApp, sAppB, sExt, sExtB, sSet, sFz, sNext, sBreak, sCont, sAug, sAugL, sErrF, sErr, sParX, sParX3, agGo, Fl.next, Fl.turn, vB, ok1, okL, mVar, mC, mOp, mUn, mNil, mCons, mCB, mCBn, mCall, mTup, mLst, mNew, asB, cOf, cAnd, cOr, cNot, cYes, mAnd, mOr, mNot, mIf, mChain, oNone, asI, oSome, mOpN, mPt, iL, iT, mFld, mProp, mLenI, mSlT, mSlL, pName, pGo, pTup, pLst, wipeE, mIsT, mCallR, mDraw, isRow, look, M.bind_ret, M.bind_err, M.bind_bad, M.bind_draw, M.ofO_some, M.ofO_none, M.calm_ret, M.calm_bad, M.calm_draw, M.bind_assoc, M.wp_ret, List.length_cons, List.length_nil, List.map_cons, List.map_nil, List.replicate_zero, List.replicate_succ, List.cons_append, List.nil_append, List.set_cons_zero, List.set_cons_succ, List.getElem?_cons_zero, List.getElem?_cons_succ, Nat.reduceAdd, Nat.reduceSub, Nat.reduceLeDiff, Nat.reduceEqDiff, if_true, if_false, ite_true, ite_false, reduceIte, Bool.not_true, Bool.not_false, Bool.false_eq_true, mCallV, hF, e3, e1, e2]
theorem v_2 (h : IvP i th due P) (hi : i ≤ 10) {z2 : D} {s5 s6 s7 s8 s11 : Sl} (h5 : Ds s5) (h6 : Ds s6) (h7 : Ds s7) (h8 : Ds s8) (h11 : Ds s11) : v2 C A1 A2 A3 (rhoI C z2 th due P s5 s6 s7 s8 s11) = .ret (.nx (rhoI C z2 th due P s5 s6 s7 s8 (.dat (.adr A3)))) := by
  have r1 := x_run (C := C) (A1 := A1) (A2 := A2) (A3 := A3) h hi (z2 := z2) h5 h6 h7 h8 A2 (.inr (.inl rfl))
  have r2 := x_run (C := C) (A1 := A1) (A2 := A2) (A3 := A3) h hi (z2 := z2) h5 h6 h7 h8 A1 (.inl rfl)
  have r3 := x_run (C := C) (A1 := A1) (A2 := A2) (A3 := A3) h hi (z2 := z2) h5 h6 h7 h8 A3 (.inr (.inr rfl))
  have hit : iT (mTup (mCons (mC (.adr A2)) (mCons (mC (.adr A1)) (mCons (mC (.adr A3)) mNil)))) (rhoI C z2 th due P s5 s6 s7 s8 s11) = .ret [.adr A2, .adr A1, .adr A3] := by
    have k3 : (3 : Nat) ≤ 100000 := by omega
    simp -implicitDefEqProofs only [defM, defR, lawM, fin, sSeq, sExpr, sAsg, sAsgB, sPat, sPatB, sOwn, sOwnB, sPar, sPar3, sRet, sRetN, sIf, sFor, sForB, sApp, sAppB, sExt, sExtB, sSet, sFz, sNext, sBreak, sCont, sAug, sAugL, sErrF, sErr, sParX, sParX3, agGo, Fl.next, Fl.turn, vB, ok1, okL, mVar, mC, mOp, mUn, mNil, mCons, mCB, mCBn, mCall, mTup, mLst, mNew, asB, cOf, cAnd, cOr, cNot, cYes, mAnd, mOr, mNot, mIf, mChain, oNone, asI, oSome, mOpN, mPt, iL, iT, mFld, mProp, mLenI, mSlT, mSlL, pName, pGo, pTup, pLst, wipeE, mIsT, mCallR, mDraw, isRow, look, M.bind_ret, M.bind_err, M.bind_bad, M.bind_draw, M.ofO_some, M.ofO_none, M.calm_ret, M.calm_bad, M.calm_draw, M.bind_assoc, M.wp_ret, List.length_cons, List.length_nil, List.map_cons, List.map_nil, List.replicate_zero, List.replicate_succ, List.cons_append, List.nil_append, List.set_cons_zero, List.set_cons_succ, List.getElem?_cons_zero, List.getElem?_cons_succ, Nat.reduceAdd, Nat.reduceSub, Nat.reduceLeDiff, Nat.reduceEqDiff, if_true, if_false, ite_true, ite_false, reduceIte, Bool.not_true, Bool.not_false, Bool.false_eq_true, k3]
  unfold v2 sFor
  rw [hit, M.bind_ret]
  unfold forGo
  show (M.bind (x0 C A1 A2 A3 (rhoI C z2 th due P s5 s6 s7 s8 (.dat (.adr A2)))) _) = _
  rw [r1, M.bind_ret]
  show forGo (pName 11) (x0 C A1 A2 A3) [.adr A1, .adr A3] (rhoI C z2 th due P s5 s6 s7 s8 (.dat (.adr A2))) = _
  unfold forGo
  show (M.bind (x0 C A1 A2 A3 (rhoI C z2 th due P s5 s6 s7 s8 (.dat (.adr A1)))) _) = _
  rw [r2, M.bind_ret]
  show forGo (pName 11) (x0 C A1 A2 A3) [.adr A3] (rhoI C z2 th due P s5 s6 s7 s8 (.dat (.adr A1))) = _
  unfold forGo
  show (M.bind (x0 C A1 A2 A3 (rhoI C z2 th due P s5 s6 s7 s8 (.dat (.adr A3)))) _) = _
  rw [r3, M.bind_ret]
  rfl
def Dx (t : Sl) : Prop := t = .no ∨ (∃ z, t = .dat z) ∨ ∃ ds, t = .own ds
theorem iv0 : IvP 0 [] none [] := { len := rfl, ck := rfl, wd := (fun p h => by cases h), nd := List.nodup_nil, ws := (fun x h => by cases h), st := fun _ => ⟨rfl, fun p h => by cases h⟩ }
abbrev rhoT (C : Addr) (z2 : D) (s3 s4 s5 s6 s7 s8 s9 s11 : Sl) : Mi.Env := [.no, .row, .dat z2, s3, s4, s5, s6, s7, s8, s9, .dat (stD C), s11]
theorem items_run {z2 : D} {s11 : Sl} (h11 : Ds s11) : ∀ (m i : Nat) (th : List Str) (due : Option Nat) (P : List It2) (s5 s6 s7 s8 : Sl), i + m ≤ 10 → Ds s5 → Ds s6 → Ds s7 → Ds s8 → IvP i th due P →
    (forGo (pName 5) (w0 C A1 A2 A3) ((List.range' i m).map fun k : Nat => D.int (k : Int)) (rhoI C z2 th due P s5 s6 s7 s8 s11)).wp (fun fl => ∃ ρ', fl = .nx ρ' ∧ ∃ th due P s5 s6 s7 s8, Ds s5 ∧ Ds s6 ∧ Ds s7 ∧ Ds s8 ∧ IvP (i + m) th due P ∧ ρ' = rhoI C z2 th due P s5 s6 s7 s8 s11) E
  | 0, i, th, due, P, s5, s6, s7, s8, _, h5, h6, h7, h8, iv => ⟨_, rfl, th, due, P, s5, s6, s7, s8, h5, h6, h7, h8, iv, rfl⟩
  | m + 1, i, th, due, P, s5, s6, s7, s8, hm, h5, h6, h7, h8, iv => by
    rw [List.range'_succ, List.map_cons, forGo]
    show ((w0 C A1 A2 A3 (rhoI C z2 th due P (.dat (.int (i : Nat))) s6 s7 s8 s11)).bind _).wp _ _
    rw [M.wp_bind]
    refine M.wp_mono (fun fl hf => ?_) (fun _ _ h => h) _ (i_w0 (C := C) (A1 := A1) (A2 := A2) (A3 := A3) (E := E) iv (by omega) (z2 := z2) h6 h7 h8 h11).out
    obtain ⟨ρ', rfl, th', due', P', s6', s7', s8', g6, g7, g8, iv', rfl⟩ := hf
    have r := items_run h11 m (i + 1) th' due' P' (.dat (.int (i : Nat))) s6' s7' s8' (by omega) (.inr ⟨_, rfl⟩) g6 g7 g8 iv' (z2 := z2)
    rw [show i + 1 + m = i + (m + 1) by omega] at r
    exact r
theorem v_0 {z2 : D} {s3 s4 s5 s6 s7 s8 s9 s11 : Sl} (h3 : Dx s3) (h4 : Ds s4) (h5 : Ds s5) (h6 : Ds s6) (h7 : Ds s7) (h8 : Ds s8) (h9 : Dx s9) (h11 : Ds s11) : Wp (v0 C A1 A2 A3 (rhoT C z2 s3 s4 s5 s6 s7 s8 s9 s11)) (fun fl => ∃ ρ', fl = .nx ρ' ∧ ∃ s3 s4 s5 s6 s7 s8 s9 s11, Dx s3 ∧ Ds s4 ∧ Ds s5 ∧ Ds s6 ∧ Ds s7 ∧ Ds s8 ∧ Dx s9 ∧ Ds s11 ∧ ρ' = rhoT C z2 s3 s4 s5 s6 s7 s8 s9 s11) E := by
  unfold v0
  refine wp_next (ρ' := rhoI C z2 [] none [] s5 s6 s7 s8 s11) (by rfl) ?_
  unfold v1
  refine wp_seq ⟨?_⟩
  have hdr : sFor (rg1 (mDraw 1 (mC (.int 11)))) (pName 5) (w0 C A1 A2 A3) (rhoI C z2 [] none [] s5 s6 s7 s8 s11) = .draw 11 fun d => (if rgOk 0 d = true then M.ret (rgD 0 d) else .bad).bind fun ds => forGo (pName 5) (w0 C A1 A2 A3) ds (rhoI C z2 [] none [] s5 s6 s7 s8 s11) := by rfl
  rw [hdr, M.wp_draw]
  refine ⟨⟨by decide, by decide⟩, fun d d0 d1 => ?_⟩
  have hd : d = ((d.toNat : Nat) : Int) := by omega
  have hdl : d.toNat ≤ 10 := by omega
  generalize d.toNat = j at hd hdl
  subst hd
  rw [if_pos (rg_ok' (by omega)), M.bind_ret, rgD_nat, List.range_eq_range']
  refine M.wp_mono (fun fl hf => ?_) (fun _ _ h => h) _ (items_run (C := C) (A1 := A1) (A2 := A2) (A3 := A3) (E := E) h11 j 0 [] none [] s5 s6 s7 s8 (by omega) h5 h6 h7 h8 iv0 (z2 := z2))
  obtain ⟨ρ', rfl, th', due', P', s5', s6', s7', s8', g5, g6, g7, g8, iv', rfl⟩ := hf
  rw [Nat.zero_add] at iv'
  refine ⟨_, rfl, ?_⟩
  exact wp_ret (v_2 iv' hdl g5 g6 g7 g8 h11) ⟨_, rfl, _, _, _, _, _, _, _, _, .inr (.inr ⟨_, rfl⟩), .inr ⟨_, rfl⟩, g5, g6, g7, g8, .inr (.inr ⟨_, rfl⟩), .inr ⟨_, rfl⟩, rfl⟩
theorem law_pure (C A1 A2 A3 : Addr) : Wp (m_law C A1 A2 A3) (fun d => d = .bl true) (fun _ _ => False) := by
  unfold m_law
  rw [law_u]
  refine law_ofW ?_
  show Wp (u0 C A1 A2 A3 [.no, .row, .no, .no, .no, .no, .no, .no, .no, .no, .no, .no]) _ _
  unfold u0
  refine wp_next (ρ' := [.no, .row, .no, .no, .no, .no, .no, .no, .no, .no, .dat (stD C), .no]) ?_ ?_
  · have xm := x_made C
    have k2 : (2 : Nat) ≤ 100000 := by omega
    generalize stD C = s at *
    simp -implicitDefEqProofs only [defM, defR, lawM, fin, sSeq, sExpr, sAsg, sAsgB, sPat, sPatB, sOwn, sOwnB, sPar, sPar3, sRet, sRetN, sIf, sFor, sForB, sApp, sAppB, sExt, sExtB, sSet, sFz, sNext, sBreak, sCont, sAug, sAugL, sErrF, sErr, sParX, sParX3, agGo, Fl.next, Fl.turn, vB, ok1, okL, mVar, mC, mOp, mUn, mNil, mCons, mCB, mCBn, mCall, mTup, mLst, mNew, asB, cOf, cAnd, cOr, cNot, cYes, mAnd, mOr, mNot, mIf, mChain, oNone, asI, oSome, mOpN, mPt, iL, iT, mFld, mProp, mLenI, mSlT, mSlL, pName, pGo, pTup, pLst, wipeE, mIsT, mCallR, mDraw, isRow, look, M.bind_ret, M.bind_err, M.bind_bad, M.bind_draw, M.ofO_some, M.ofO_none, M.calm_ret, M.calm_bad, M.calm_draw, M.bind_assoc, M.wp_ret, List.length_cons, List.length_nil, List.map_cons, List.map_nil, List.replicate_zero, List.replicate_succ, List.cons_append, List.nil_append, List.set_cons_zero, List.set_cons_succ, List.getElem?_cons_zero, List.getElem?_cons_succ, Nat.reduceAdd, Nat.reduceSub, Nat.reduceLeDiff, Nat.reduceEqDiff, if_true, if_false, ite_true, ite_false, reduceIte, Bool.not_true, Bool.not_false, Bool.false_eq_true, k2, xm]
  unfold u1
  refine wp_rng (n := 8) (fun ρ => ∃ s2 s3 s4 s5 s6 s7 s8 s9 s11, Dx s3 ∧ Ds s4 ∧ Ds s5 ∧ Ds s6 ∧ Ds s7 ∧ Ds s8 ∧ Dx s9 ∧ Ds s11 ∧ ρ = [.no, .row, s2, s3, s4, s5, s6, s7, s8, s9, .dat (stD C), s11]) (by rfl) (by decide) ⟨.no, .no, .no, .no, .no, .no, .no, .no, .no, .inl rfl, .inl rfl, .inl rfl, .inl rfl, .inl rfl, .inl rfl, .inl rfl, .inl rfl, rfl⟩ (fun ρ k hk hp => ?_) fun ρ hp => ?_
  · obtain ⟨s2, s3, s4, s5, s6, s7, s8, s9, s11, h3, h4, h5, h6, h7, h8, h9, h11, rfl⟩ := hp
    have v := v_0 (C := C) (A1 := A1) (A2 := A2) (A3 := A3) (E := fun _ _ => False) (z2 := .int (k : Int)) h3 h4 h5 h6 h7 h8 h9 h11
    exact v.mono fun fl ⟨ρ', e, s3, s4, s5, s6, s7, s8, s9, s11, g3, g4, g5, g6, g7, g8, g9, g11, e2⟩ => ⟨ρ', e, _, s3, s4, s5, s6, s7, s8, s9, s11, g3, g4, g5, g6, g7, g8, g9, g11, e2⟩
  · unfold u2
    exact wp_ret (fl := .rt (.bl true)) (by rfl) rfl
end
end My

namespace My
open PySem L2 RZ Cc Mi
structure TkT (mg : Str → Option Value) : Prop where
  int : mg "int" = none
  len : mg "len" = none
section
variable {P : Program} {w : World} {K : Fg} {mg : Str → Option Value} {base : Heap}
theorem ok_taken {f : Addr} {fd : FuncData} (F : Fun K "_law_taken" "_law_taken" s__law_taken f fd) (T : TkT mg) : FnOk P w K mg base CX0 1 f fd ["_law_row", "_law_many"] (spTaken K) := by
  refine F.ok sc__law_taken (fun vs H Q E h => ?_) (fun cdv A outer s H vs Q E hr h => ?_)
  · obtain ⟨S, r, n, rfl, _⟩ := h
    rfl
  · obtain ⟨⟨a, ns⟩, r, n, rfl, ⟨pos, rng, rest, hr0, hs, hne, hl, hp⟩, hn, hn2, k⟩ := h
    dsimp only at hr0 hs hl
    refine ⟨_, (pss_cons (ps_if (pt_cmpR op_gt (pe_ix (ixL K) (pv 0) pe_int (fun _ _ => rfl)) pe_int (nomark _)) (pss_cons (ps_set (i := 2) sc__law_taken.nd rfl (Or.inl rfl) (pe_op op_mod (pe_callTy call_int1 (by rfl) T.int (by decide +kernel) (pa_cons (pe_ix (ixL K) (pv 0) pe_int (fun _ _ => rfl)) pa_nil)) (pv 1)))
      (pss_cons (ps_asg (pe_op op_fdiv (pe_ix (ixL K) (pv 0) pe_int (fun _ _ => rfl)) (pv 1)) (pg_sub (pv 0) pe_int set_list))
      (pss_one (ps_ret (pv 2))))) pss_nil)
      (pss_cons (ps_asg (pe_op op_add (pe_ix (ixL K) (pv 0) pe_int (fun _ _ => rfl)) pe_int) (pg_sub (pv 0) pe_int set_list))
      (pss_cons (ps_if (pt_cmpR op_gt (pe_ix (ixL K) (pv 0) pe_int (fun _ _ => rfl)) (pe_callB (lenK K) (by rfl) T.len PySem.boot_len (pa_cons (pe_ix (ixL K) (pv 0) pe_int (fun _ _ => rfl)) pa_nil)) (nomark _)) (pss_cons (ps_asg (pe_op op_mod (pe_callTy call_int1 (by rfl) T.int (by decide +kernel) (pa_cons (pe_op op_add (pe_op op_mul (pe_ix (ixL K) (pv 0) pe_int (fun _ _ => rfl)) pe_int) pe_int) pa_nil)) pe_int) (pg_sub (pv 0) pe_int set_list))
      (pss_one (ps_ret (pe_op op_mod (pe_callTy call_int1 (by rfl) T.int (by decide +kernel) (pa_cons (pe_op op_fdiv (pe_ix (ixL K) (pv 0) pe_int (fun _ _ => rfl)) pe_int) pa_nil)) (pv 1))))) pss_nil)
      (pss_cons (ps_set (i := 3) sc__law_taken.nd rfl (Or.inl rfl) (pe_ix (ixA K) (pe_ix (ixL K) (pv 0) pe_int (fun _ _ => rfl)) (pe_op op_sub (pe_ix (ixL K) (pv 0) pe_int (fun _ _ => rfl)) pe_int) (fun _ _ => rfl)))
      (pss_cons (ps_asg (pe_op op_mod (pe_callTy call_int1 (by rfl) T.int (by decide +kernel) (pa_cons (pe_op op_add (pe_op op_add (pe_op op_mul (pe_ix (ixL K) (pv 0) pe_int (fun _ _ => rfl)) pe_int) (pv 3)) pe_int) pa_nil)) pe_int) (pg_sub (pv 0) pe_int set_list))
      (pss_cons (ps_if (pt_cmpR op_ge (pv 3) (pe_op op_pow pe_int pe_int) (nomark _)) (pss_one (ps_asg (pe_op op_fdiv (pv 3) (pv 1)) (pg_sub (pv 0) pe_int set_list))) pss_nil)
      (pss_one (ps_ret (pe_op op_mod (pe_callTy call_int1 (by rfl) T.int (by decide +kernel) (pa_cons (pv 3) pa_nil)) (pv 1)))))))))), ?_⟩
    refine s_when (gt_test (gd_op (gd_ixV (j := 3) (i := 0) rfl hr0 rfl (.int rest)) gd_i r_intB)) (fun e H1 e1 => ?_) fun e H1 e1 => ?_
    · -- what is left of a great number
      have h1 := e1 _ _ hr0
      refine s_asg (K := K) (gd_op (gd_cb (ga1 (gd_ixV (j := 3) (i := 0) rfl h1 rfl (.int rest))) rc_int) (gd_var rfl (.int n)) (r_intC (by omega))) fun v H2 e2 hv => ?_
      cases hv
      have h2 := e2 _ _ h1
      dsimp only
      refine s_setL (K := K) (j := 3) h2 (at_var rfl) gd_i (by simp) (gd_op (gd_ixV (j := 3) (i := 0) rfl h2 rfl (.int rest)) (gd_var rfl (.int n)) (r_intC ⟨hn, hn2⟩)) fun v H3 e3 hv => ?_
      cases hv
      dsimp only
      refine s_ret (K := K) (gd_var rfl (.int _)) fun v H4 e4 hv => ?_
      cases hv
      have e13 := (e1.trans e2).trans e3
      refine k _ H4 (Int.emod_nonneg _ (by omega)) (Int.emod_lt_of_pos _ hn) (((But.of e13).trans (But.upd (by simp))).trans (.of e4)) ⟨pos, rng, _, e4 _ _ upd_same, same_l e4 (lkeep (S := (a, ns)) (same_l e13 hs) hne), hne, hl, hp⟩
    · dsimp only
      have h1 := e1 _ _ hr0
      refine s_setL (K := K) (j := 1) h1 (at_var rfl) gd_i (by simp) (gd_op (gd_ixV (j := 1) (i := 0) rfl h1 rfl (.int pos)) gd_i r_int) fun v H2 e2 hv => ?_
      cases hv
      have e12 := e1.trans e2
      generalize hG : upd H2 r _ = G
      have hGr : G r = some (.lst [.ref a, .int (pos + 1), .int rng, .int rest]) := by rw [← hG]; exact upd_same
      have hGs : SqL K G a (ns.map V.int) := by rw [← hG]; exact lkeep (S := (a, ns)) (same_l e12 hs) hne
      have hGb : But [r] H G := by rw [← hG]; exact (But.of e12).trans (But.upd (by simp))
      dsimp only
      have hlen : GD K (tCB (Cc.rLen K) (tCons (tOp (rIxL K) (tVar 0) (tC (.int 0))) tNil)) [some (.ref r), some (.int n), none, none] G (.int (ns.length : Nat)) := fun H3 e Q q =>
        ⟨.ref r, rfl, r, _, 0, .ref a, rfl, rfl, SqL.of (e _ _ hGr), rfl, .ref a, ns.length, rfl, .inl ⟨_, same_l e hGs, by simp⟩, q _ H3 (Same.refl _) (.int _)⟩
      refine s_when (gt_test (gd_op (gd_ixV (j := 1) (i := 0) rfl hGr rfl (.int (pos + 1))) hlen r_intB)) (fun e H3 e3 => ?_) fun e H3 e3 => ?_
      · -- behind the script's end
        have h3 := e3 _ _ hGr
        refine s_setL (K := K) (j := 2) h3 (at_var rfl) gd_i (by simp) (gd_op (gd_cb (ga1 (gd_op (gd_op (gd_ixV (j := 2) (i := 0) rfl h3 rfl (.int rng)) gd_i (r_intC (.inr (by decide)))) gd_i r_int)) rc_int) gd_i (r_intC (by decide))) fun v H4 e4 hv => ?_
        cases hv
        dsimp only
        generalize hR : (rng * 48271 + 11) % 2147483647 = R
        refine s_ret (K := K) (gd_op (gd_cb (ga1 (gd_op (gd_ixV (xs := [.ref a, .int (pos + 1), .int R, .int rest]) (j := 2) (i := 0) rfl upd_same rfl (.int R)) gd_i (r_intC ⟨by decide, by decide⟩))) rc_int) (gd_var rfl (.int n)) (r_intC hn)) fun v H5 e5 hv => ?_
        cases hv
        refine k _ H5 (Int.emod_nonneg _ (by omega)) (Int.emod_lt_of_pos _ hn) ((hGb.trans (.of (e3.trans e4))).trans ((But.upd (by simp)).trans (.of e5))) ⟨pos + 1, R, rest, e5 _ _ upd_same, same_l e5 (lkeep (S := (a, ns)) (same_l (e3.trans e4) hGs) hne), hne, hl, by omega⟩
      · have hlt : pos < ns.length := by
          simp at e
          omega
        obtain ⟨j, rfl⟩ : ∃ j : Nat, pos = j := ⟨pos.toNat, by omega⟩
        obtain ⟨c, hc⟩ : ∃ c, ns[j]? = some c := ⟨ns[j]'(by omega), by simp⟩
        have h3 := e3 _ _ hGr
        have hcell : GD K (tOp (rIx K) (tOp (rIxL K) (tVar 0) (tC (.int 0))) (tOp (rI0 fun i j => .int (i - j)) (tOp (rIxL K) (tVar 0) (tC (.int 1))) (tC (.int 1)))) [some (.ref r), some (.int n), none, none] H3 (.int c) := fun H4 e Q q =>
          ⟨.ref r, rfl, r, _, 0, .ref a, rfl, rfl, SqL.of (e _ _ h3), rfl, .ref r, rfl, r, _, 1, .int ((j : Nat) + 1), rfl, rfl, SqL.of (e _ _ h3), rfl, (j : Nat) + 1, 1, rfl, rfl, .inl ⟨a, _, (j : Nat) + 1 - 1, .int c, rfl, rfl, same_l (e3.trans e) hGs, by
            rw [show ((j : Nat) : Int) + 1 - 1 = (j : Nat) by omega]
            exact atI_nat (by rw [List.getElem?_map, hc]; rfl), q _ H4 (Same.refl _) (.int _)⟩⟩
        dsimp only
        refine s_asg (K := K) hcell fun v H4 e4 hv => ?_
        cases hv
        have h4 := e4 _ _ h3
        dsimp only
        refine s_setL (K := K) (j := 2) h4 (at_var rfl) gd_i (by simp) (gd_op (gd_cb (ga1 (gd_op (gd_op (gd_op (gd_ixV (j := 2) (i := 0) rfl h4 rfl (.int rng)) gd_i (r_intC (.inr (by decide)))) (gd_var rfl (.int c)) r_int) gd_i r_int)) rc_int) gd_i (r_intC (by decide))) fun v H5 e5 hv => ?_
        cases hv
        generalize hR : (rng * 48271 + c + 11) % 2147483647 = R
        dsimp only
        have hu : upd H5 r (.lst ([.ref a, .int ((j : Nat) + 1), .int rng, .int rest].set 2 (.int R))) r = some (.lst [.ref a, .int ((j : Nat) + 1), .int R, .int rest]) := upd_same
        generalize hV : upd H5 r (.lst ([.ref a, .int ((j : Nat) + 1), .int rng, .int rest].set 2 (.int R))) = W at hu
        have hWb : But [r] H W := by rw [← hV]; exact (hGb.trans (.of ((e3.trans e4).trans e5))).trans (But.upd (by simp))
        have hWs : SqL K W a (ns.map V.int) := by rw [← hV]; exact lkeep (S := (a, ns)) (same_l ((e3.trans e4).trans e5) hGs) hne
        have big : Cc.GT (tTest (tOp (rI0 fun i j => .bl (decide (j ≤ i))) (tVar 3) (tOp (rI CPow fun i j => .int (i ^ j.toNat)) (tC (.int 10)) (tC (.int 18))))) [some (.ref r), some (.int n), none, some (.int c)] W (decide ((10 : Int) ^ ((18 : Int).toNat) ≤ c)) := gt_test (K := K) (gd_op (gd_var rfl (.int c)) (gd_op gd_i gd_i (r_intC ⟨by decide, by decide, by decide⟩)) r_intB)
        refine s_if big (fun _ H6 e6 => ?_) (fun _ H6 e6 => ?_)
        · have hu6 := e6 _ _ hu
          refine s_setL (K := K) (j := 3) hu6 (at_var rfl) gd_i (by simp) (gd_op (gd_var rfl (.int c)) (gd_var rfl (.int n)) (r_intC ⟨hn, hn2⟩)) fun v H7 e7 hv => ?_
          cases hv
          dsimp only
          refine s_ret (K := K) (gd_op (gd_cb (ga1 (gd_var rfl (.int c))) rc_int) (gd_var rfl (.int n)) (r_intC hn)) fun v H8 e8 hv => ?_
          cases hv
          exact k _ H8 (Int.emod_nonneg _ (by omega)) (Int.emod_lt_of_pos _ hn) ((hWb.trans (.of (e6.trans e7))).trans ((But.upd (by simp)).trans (.of e8))) ⟨(j : Nat) + 1, R, c / n, e8 _ _ upd_same, same_l e8 (lkeep (S := (a, ns)) (same_l (e6.trans e7) hWs) hne), hne, hl, by omega⟩
        · dsimp only
          refine s_ret (K := K) (gd_op (gd_cb (ga1 (gd_var rfl (.int c))) rc_int) (gd_var rfl (.int n)) (r_intC hn)) fun v H7 e7 hv => ?_
          cases hv
          exact k _ H7 (Int.emod_nonneg _ (by omega)) (Int.emod_lt_of_pos _ hn) (hWb.trans (.of (e6.trans e7))) ⟨(j : Nat) + 1, R, rest, (e6.trans e7) _ _ hu, same_l (e6.trans e7) hWs, hne, hl, by omega⟩
end
end My

namespace My
open PySem L2 RZ Cc Mi PyProof.Rows
abbrev pwK : Program := PySem.Challenge.pw_coldcrates_k37_plans_rejected
def CT (C : Addr) : List Str → Option Addr := fun ns => if stP ns = true then some C else none
def CL (C : Addr) : Nat → Addr
  | _ => C
def EAf (e_InvalidPlan e_InvalidStore e_UnknownPlace f_least_fixed f_least_plan f_worth_moving : Addr) : Str → Addr := fun x => if x = ("InvalidPlan" : Str) then e_InvalidPlan else if x = ("InvalidStore" : Str) then e_InvalidStore else if x = ("UnknownPlace" : Str) then e_UnknownPlace else if x = ("least_fixed" : Str) then f_least_fixed else if x = ("least_plan" : Str) then f_least_plan else if x = ("worth_moving" : Str) then f_worth_moving else 0
def FIf (fI_InvalidPlan fI_InvalidStore : Addr) : Str → Addr := fun x => if x = ("InvalidPlan" : Str) then fI_InvalidPlan else if x = ("InvalidStore" : Str) then fI_InvalidStore else 0
def EFf : Str → List Str := fun x => if x = ("InvalidPlan" : Str) then ["index"] else if x = ("InvalidStore" : Str) then ["part"] else []
theorem all_mk {w : World} {K : Fg} {h : Heap} {mg : Str → Option Value} {fa : Addr} (X : K.In h) (G : h.Ns mainGlobals mg) (hfa : mg "law" = some (.ref fa)) (own : LamX.OwnTab K fa h)
    {C CE : Addr}
    {c0 P0 : Addr}
    {oc_is_number kV_is_number dc_is_number pm_is_number ct_is_number cd_is_number : Value}
    {od_is_number an_is_number : Option Addr}
    {sl_is_number : Array (Option Value)}
    {f_is_number : Addr}
    {oc_is_word kV_is_word dc_is_word pm_is_word ct_is_word cd_is_word : Value}
    {od_is_word an_is_word : Option Addr}
    {sl_is_word : Array (Option Value)}
    {f_is_word : Addr}
    {oc_is_door kV_is_door dc_is_door pm_is_door ct_is_door cd_is_door : Value}
    {od_is_door an_is_door : Option Addr}
    {sl_is_door : Array (Option Value)}
    {f_is_door : Addr}
    {oc_doors_fit kV_doors_fit dc_doors_fit pm_doors_fit ct_doors_fit cd_doors_fit : Value}
    {od_doors_fit an_doors_fit : Option Addr}
    {sl_doors_fit : Array (Option Value)}
    {f_doors_fit : Addr}
    {oc_crates_fit kV_crates_fit dc_crates_fit pm_crates_fit ct_crates_fit cd_crates_fit : Value}
    {od_crates_fit an_crates_fit : Option Addr}
    {sl_crates_fit : Array (Option Value)}
    {f_crates_fit : Addr}
    {oc_places_behind kV_places_behind dc_places_behind pm_places_behind ct_places_behind cd_places_behind : Value}
    {od_places_behind an_places_behind : Option Addr}
    {sl_places_behind : Array (Option Value)}
    {f_places_behind : Addr}
    {oc_arrangements kV_arrangements dc_arrangements pm_arrangements ct_arrangements cd_arrangements : Value}
    {od_arrangements an_arrangements : Option Addr}
    {sl_arrangements : Array (Option Value)}
    {f_arrangements : Addr}
    {oc_all_layouts kV_all_layouts dc_all_layouts pm_all_layouts ct_all_layouts cd_all_layouts : Value}
    {od_all_layouts an_all_layouts : Option Addr}
    {sl_all_layouts : Array (Option Value)}
    {f_all_layouts : Addr}
    {oc_check_place kV_check_place dc_check_place pm_check_place ct_check_place cd_check_place : Value}
    {od_check_place an_check_place : Option Addr}
    {sl_check_place : Array (Option Value)}
    {f_check_place : Addr}
    {oc_warmth_of kV_warmth_of dc_warmth_of pm_warmth_of ct_warmth_of cd_warmth_of : Value}
    {od_warmth_of an_warmth_of : Option Addr}
    {sl_warmth_of : Array (Option Value)}
    {f_warmth_of : Addr}
    {oc_warmth_in_turn kV_warmth_in_turn dc_warmth_in_turn pm_warmth_in_turn ct_warmth_in_turn cd_warmth_in_turn : Value}
    {od_warmth_in_turn an_warmth_in_turn : Option Addr}
    {sl_warmth_in_turn : Array (Option Value)}
    {f_warmth_in_turn : Addr}
    {oc_check_plan kV_check_plan dc_check_plan pm_check_plan ct_check_plan cd_check_plan : Value}
    {od_check_plan an_check_plan : Option Addr}
    {sl_check_plan : Array (Option Value)}
    {f_check_plan : Addr}
    {oc_least_of kV_least_of dc_least_of pm_least_of ct_least_of cd_least_of : Value}
    {od_least_of an_least_of : Option Addr}
    {sl_least_of : Array (Option Value)}
    {f_least_of : Addr}
    {oc_allowed kV_allowed dc_allowed pm_allowed ct_allowed cd_allowed : Value}
    {od_allowed an_allowed : Option Addr}
    {sl_allowed : Array (Option Value)}
    {f_allowed : Addr}
    {oc_replaced kV_replaced dc_replaced pm_replaced ct_replaced cd_replaced : Value}
    {od_replaced an_replaced : Option Addr}
    {sl_replaced : Array (Option Value)}
    {f_replaced : Addr}
    {oc_moving_places kV_moving_places dc_moving_places pm_moving_places ct_moving_places cd_moving_places : Value}
    {od_moving_places an_moving_places : Option Addr}
    {sl_moving_places : Array (Option Value)}
    {f_moving_places : Addr}
    {oc_least_plan kV_least_plan dc_least_plan pm_least_plan ct_least_plan cd_least_plan : Value}
    {od_least_plan an_least_plan : Option Addr}
    {sl_least_plan : Array (Option Value)}
    {f_least_plan : Addr}
    {oc_least_fixed kV_least_fixed dc_least_fixed pm_least_fixed ct_least_fixed cd_least_fixed : Value}
    {od_least_fixed an_least_fixed : Option Addr}
    {sl_least_fixed : Array (Option Value)}
    {f_least_fixed : Addr}
    {oc_worth_moving kV_worth_moving dc_worth_moving pm_worth_moving ct_worth_moving cd_worth_moving : Value}
    {od_worth_moving an_worth_moving : Option Addr}
    {sl_worth_moving : Array (Option Value)}
    {f_worth_moving : Addr}
    {oc__law_taken kV__law_taken dc__law_taken pm__law_taken ct__law_taken cd__law_taken : Value}
    {od__law_taken an__law_taken : Option Addr}
    {sl__law_taken : Array (Option Value)}
    {f__law_taken : Addr}
    {oc_law kV_law dc_law pm_law ct_law : Value}
    {od_law an_law : Option Addr}
    {sl_law : Array (Option Value)}
    {f_law : Addr}
    {oc__law_told kV__law_told dc__law_told pm__law_told ct__law_told cd__law_told : Value}
    {od__law_told an__law_told : Option Addr}
    {sl__law_told : Array (Option Value)}
    {f__law_told : Addr}
    {oc_mdoor_of kV_mdoor_of dc_mdoor_of pm_mdoor_of ct_mdoor_of cd_mdoor_of : Value}
    {od_mdoor_of an_mdoor_of : Option Addr}
    {sl_mdoor_of : Array (Option Value)}
    {f_mdoor_of : Addr}
    {oc_m__init__ kV_m__init__ dc_m__init__ pm_m__init__ ct_m__init__ cd_m__init__ : Value}
    {od_m__init__ an_m__init__ : Option Addr}
    {sl_m__init__ : Array (Option Value)}
    {f_m__init__ : Addr}
    {p_pcrates : Addr}
    {r_pcrates : List Value}
    {oc_pcrates kV_pcrates dc_pcrates pm_pcrates ct_pcrates cd_pcrates : Value}
    {od_pcrates an_pcrates : Option Addr}
    {sl_pcrates : Array (Option Value)}
    {f_pcrates : Addr}
    {p_psize : Addr}
    {r_psize : List Value}
    {oc_psize kV_psize dc_psize pm_psize ct_psize cd_psize : Value}
    {od_psize an_psize : Option Addr}
    {sl_psize : Array (Option Value)}
    {f_psize : Addr}
    {p_pdoors : Addr}
    {r_pdoors : List Value}
    {oc_pdoors kV_pdoors dc_pdoors pm_pdoors ct_pdoors cd_pdoors : Value}
    {od_pdoors an_pdoors : Option Addr}
    {sl_pdoors : Array (Option Value)}
    {f_pdoors : Addr}
    {e_InvalidPlan : Addr}
    {nm_InvalidPlan qn_InvalidPlan : Str}
    {N_InvalidPlan : Addr}
    {bs_InvalidPlan sub_InvalidPlan : List Value}
    {sn_InvalidPlan : List Str}
    {ab_InvalidPlan : Bool}
    {col_InvalidPlan : Option Bool}
    {dd_InvalidPlan : Option Addr}
    {k0_InvalidPlan k1_InvalidPlan k2_InvalidPlan k3_InvalidPlan k5_InvalidPlan : Option Value}
    {fI_InvalidPlan cda_InvalidPlan ccI_InvalidPlan : Addr}
    {ocI_InvalidPlan dcI_InvalidPlan pmI_InvalidPlan ctI_InvalidPlan cclI_InvalidPlan clI_InvalidPlan : Value}
    {odI_InvalidPlan anI_InvalidPlan cddI_InvalidPlan cldI_InvalidPlan : Option Addr}
    {slI_InvalidPlan ccsI_InvalidPlan cslI_InvalidPlan : Array (Option Value)}
    {vsI_InvalidPlan : Array Value}
    {fileI_InvalidPlan : Str}
    {tfI_InvalidPlan : Tok}
    {e_InvalidStore : Addr}
    {nm_InvalidStore qn_InvalidStore : Str}
    {N_InvalidStore : Addr}
    {bs_InvalidStore sub_InvalidStore : List Value}
    {sn_InvalidStore : List Str}
    {ab_InvalidStore : Bool}
    {col_InvalidStore : Option Bool}
    {dd_InvalidStore : Option Addr}
    {k0_InvalidStore k1_InvalidStore k2_InvalidStore k3_InvalidStore k5_InvalidStore : Option Value}
    {fI_InvalidStore cda_InvalidStore ccI_InvalidStore : Addr}
    {ocI_InvalidStore dcI_InvalidStore pmI_InvalidStore ctI_InvalidStore cclI_InvalidStore clI_InvalidStore : Value}
    {odI_InvalidStore anI_InvalidStore cddI_InvalidStore cldI_InvalidStore : Option Addr}
    {slI_InvalidStore ccsI_InvalidStore cslI_InvalidStore : Array (Option Value)}
    {vsI_InvalidStore : Array Value}
    {fileI_InvalidStore : Str}
    {tfI_InvalidStore : Tok}
    {e_UnknownPlace : Addr}
    {t_LETTERS : Tok}
    {t_LONGEST_WORD : Tok}
    {t_MOST_BEHIND : Tok}
    {t_MOST_CRATES : Tok}
    {t_MOST_DOORS : Tok}
    {t_MOST_IN_PLAN : Tok}
    {t_MOST_PLACES : Tok}
    {t_MOST_WARMTH : Tok}
    {ecd : Value}
    {dcd : Option Addr}
    {vcd : Array Value}
    {slcd : Array (Option Value)}
    (a_is_number : PySem.W.nsIn K mainGlobals "is_number" = some (some (.ref f_is_number)))
    (l_is_number : K.lookup f_is_number = some ⟨oc_is_number, od_is_number, .func (PySem.W.fnOf "is_number" "is_number" (defArgs s_is_number) (defBody s_is_number) (defScope s_is_number) .none kV_is_number dc_is_number pm_is_number an_is_number cd_is_number ct_is_number), sl_is_number⟩)
    (c_is_number : PySem.W.codeIn K cd_is_number "is_number" = true)
    (k_is_number : PySem.W.keepIn K (.ref f_is_number) = true)
    (a_is_word : PySem.W.nsIn K mainGlobals "is_word" = some (some (.ref f_is_word)))
    (l_is_word : K.lookup f_is_word = some ⟨oc_is_word, od_is_word, .func (PySem.W.fnOf "is_word" "is_word" (defArgs s_is_word) (defBody s_is_word) (defScope s_is_word) .none kV_is_word dc_is_word pm_is_word an_is_word cd_is_word ct_is_word), sl_is_word⟩)
    (c_is_word : PySem.W.codeIn K cd_is_word "is_word" = true)
    (k_is_word : PySem.W.keepIn K (.ref f_is_word) = true)
    (a_is_door : PySem.W.nsIn K mainGlobals "is_door" = some (some (.ref f_is_door)))
    (l_is_door : K.lookup f_is_door = some ⟨oc_is_door, od_is_door, .func (PySem.W.fnOf "is_door" "is_door" (defArgs s_is_door) (defBody s_is_door) (defScope s_is_door) .none kV_is_door dc_is_door pm_is_door an_is_door cd_is_door ct_is_door), sl_is_door⟩)
    (c_is_door : PySem.W.codeIn K cd_is_door "is_door" = true)
    (k_is_door : PySem.W.keepIn K (.ref f_is_door) = true)
    (a_doors_fit : PySem.W.nsIn K mainGlobals "doors_fit" = some (some (.ref f_doors_fit)))
    (l_doors_fit : K.lookup f_doors_fit = some ⟨oc_doors_fit, od_doors_fit, .func (PySem.W.fnOf "doors_fit" "doors_fit" (defArgs s_doors_fit) (defBody s_doors_fit) (defScope s_doors_fit) .none kV_doors_fit dc_doors_fit pm_doors_fit an_doors_fit cd_doors_fit ct_doors_fit), sl_doors_fit⟩)
    (c_doors_fit : PySem.W.codeIn K cd_doors_fit "doors_fit" = true)
    (k_doors_fit : PySem.W.keepIn K (.ref f_doors_fit) = true)
    (a_crates_fit : PySem.W.nsIn K mainGlobals "crates_fit" = some (some (.ref f_crates_fit)))
    (l_crates_fit : K.lookup f_crates_fit = some ⟨oc_crates_fit, od_crates_fit, .func (PySem.W.fnOf "crates_fit" "crates_fit" (defArgs s_crates_fit) (defBody s_crates_fit) (defScope s_crates_fit) .none kV_crates_fit dc_crates_fit pm_crates_fit an_crates_fit cd_crates_fit ct_crates_fit), sl_crates_fit⟩)
    (c_crates_fit : PySem.W.codeIn K cd_crates_fit "crates_fit" = true)
    (k_crates_fit : PySem.W.keepIn K (.ref f_crates_fit) = true)
    (a_places_behind : PySem.W.nsIn K mainGlobals "places_behind" = some (some (.ref f_places_behind)))
    (l_places_behind : K.lookup f_places_behind = some ⟨oc_places_behind, od_places_behind, .func (PySem.W.fnOf "places_behind" "places_behind" (defArgs s_places_behind) (defBody s_places_behind) (defScope s_places_behind) .none kV_places_behind dc_places_behind pm_places_behind an_places_behind cd_places_behind ct_places_behind), sl_places_behind⟩)
    (c_places_behind : PySem.W.codeIn K cd_places_behind "places_behind" = true)
    (k_places_behind : PySem.W.keepIn K (.ref f_places_behind) = true)
    (a_arrangements : PySem.W.nsIn K mainGlobals "arrangements" = some (some (.ref f_arrangements)))
    (l_arrangements : K.lookup f_arrangements = some ⟨oc_arrangements, od_arrangements, .func (PySem.W.fnOf "arrangements" "arrangements" (defArgs s_arrangements) (defBody s_arrangements) (defScope s_arrangements) .none kV_arrangements dc_arrangements pm_arrangements an_arrangements cd_arrangements ct_arrangements), sl_arrangements⟩)
    (c_arrangements : PySem.W.codeIn K cd_arrangements "arrangements" = true)
    (k_arrangements : PySem.W.keepIn K (.ref f_arrangements) = true)
    (a_all_layouts : PySem.W.nsIn K mainGlobals "all_layouts" = some (some (.ref f_all_layouts)))
    (l_all_layouts : K.lookup f_all_layouts = some ⟨oc_all_layouts, od_all_layouts, .func (PySem.W.fnOf "all_layouts" "all_layouts" (defArgs s_all_layouts) (defBody s_all_layouts) (defScope s_all_layouts) .none kV_all_layouts dc_all_layouts pm_all_layouts an_all_layouts cd_all_layouts ct_all_layouts), sl_all_layouts⟩)
    (c_all_layouts : PySem.W.codeIn K cd_all_layouts "all_layouts" = true)
    (k_all_layouts : PySem.W.keepIn K (.ref f_all_layouts) = true)
    (a_check_place : PySem.W.nsIn K mainGlobals "check_place" = some (some (.ref f_check_place)))
    (l_check_place : K.lookup f_check_place = some ⟨oc_check_place, od_check_place, .func (PySem.W.fnOf "check_place" "check_place" (defArgs s_check_place) (defBody s_check_place) (defScope s_check_place) .none kV_check_place dc_check_place pm_check_place an_check_place cd_check_place ct_check_place), sl_check_place⟩)
    (c_check_place : PySem.W.codeIn K cd_check_place "check_place" = true)
    (k_check_place : PySem.W.keepIn K (.ref f_check_place) = true)
    (a_warmth_of : PySem.W.nsIn K mainGlobals "warmth_of" = some (some (.ref f_warmth_of)))
    (l_warmth_of : K.lookup f_warmth_of = some ⟨oc_warmth_of, od_warmth_of, .func (PySem.W.fnOf "warmth_of" "warmth_of" (defArgs s_warmth_of) (defBody s_warmth_of) (defScope s_warmth_of) .none kV_warmth_of dc_warmth_of pm_warmth_of an_warmth_of cd_warmth_of ct_warmth_of), sl_warmth_of⟩)
    (c_warmth_of : PySem.W.codeIn K cd_warmth_of "warmth_of" = true)
    (k_warmth_of : PySem.W.keepIn K (.ref f_warmth_of) = true)
    (a_warmth_in_turn : PySem.W.nsIn K mainGlobals "warmth_in_turn" = some (some (.ref f_warmth_in_turn)))
    (l_warmth_in_turn : K.lookup f_warmth_in_turn = some ⟨oc_warmth_in_turn, od_warmth_in_turn, .func (PySem.W.fnOf "warmth_in_turn" "warmth_in_turn" (defArgs s_warmth_in_turn) (defBody s_warmth_in_turn) (defScope s_warmth_in_turn) .none kV_warmth_in_turn dc_warmth_in_turn pm_warmth_in_turn an_warmth_in_turn cd_warmth_in_turn ct_warmth_in_turn), sl_warmth_in_turn⟩)
    (c_warmth_in_turn : PySem.W.codeIn K cd_warmth_in_turn "warmth_in_turn" = true)
    (k_warmth_in_turn : PySem.W.keepIn K (.ref f_warmth_in_turn) = true)
    (a_check_plan : PySem.W.nsIn K mainGlobals "check_plan" = some (some (.ref f_check_plan)))
    (l_check_plan : K.lookup f_check_plan = some ⟨oc_check_plan, od_check_plan, .func (PySem.W.fnOf "check_plan" "check_plan" (defArgs s_check_plan) (defBody s_check_plan) (defScope s_check_plan) .none kV_check_plan dc_check_plan pm_check_plan an_check_plan cd_check_plan ct_check_plan), sl_check_plan⟩)
    (c_check_plan : PySem.W.codeIn K cd_check_plan "check_plan" = true)
    (k_check_plan : PySem.W.keepIn K (.ref f_check_plan) = true)
    (a_least_of : PySem.W.nsIn K mainGlobals "least_of" = some (some (.ref f_least_of)))
    (l_least_of : K.lookup f_least_of = some ⟨oc_least_of, od_least_of, .func (PySem.W.fnOf "least_of" "least_of" (defArgs s_least_of) (defBody s_least_of) (defScope s_least_of) .none kV_least_of dc_least_of pm_least_of an_least_of cd_least_of ct_least_of), sl_least_of⟩)
    (c_least_of : PySem.W.codeIn K cd_least_of "least_of" = true)
    (k_least_of : PySem.W.keepIn K (.ref f_least_of) = true)
    (a_allowed : PySem.W.nsIn K mainGlobals "allowed" = some (some (.ref f_allowed)))
    (l_allowed : K.lookup f_allowed = some ⟨oc_allowed, od_allowed, .func (PySem.W.fnOf "allowed" "allowed" (defArgs s_allowed) (defBody s_allowed) (defScope s_allowed) .none kV_allowed dc_allowed pm_allowed an_allowed cd_allowed ct_allowed), sl_allowed⟩)
    (c_allowed : PySem.W.codeIn K cd_allowed "allowed" = true)
    (k_allowed : PySem.W.keepIn K (.ref f_allowed) = true)
    (a_replaced : PySem.W.nsIn K mainGlobals "replaced" = some (some (.ref f_replaced)))
    (l_replaced : K.lookup f_replaced = some ⟨oc_replaced, od_replaced, .func (PySem.W.fnOf "replaced" "replaced" (defArgs s_replaced) (defBody s_replaced) (defScope s_replaced) .none kV_replaced dc_replaced pm_replaced an_replaced cd_replaced ct_replaced), sl_replaced⟩)
    (c_replaced : PySem.W.codeIn K cd_replaced "replaced" = true)
    (k_replaced : PySem.W.keepIn K (.ref f_replaced) = true)
    (a_moving_places : PySem.W.nsIn K mainGlobals "moving_places" = some (some (.ref f_moving_places)))
    (l_moving_places : K.lookup f_moving_places = some ⟨oc_moving_places, od_moving_places, .func (PySem.W.fnOf "moving_places" "moving_places" (defArgs s_moving_places) (defBody s_moving_places) (defScope s_moving_places) .none kV_moving_places dc_moving_places pm_moving_places an_moving_places cd_moving_places ct_moving_places), sl_moving_places⟩)
    (c_moving_places : PySem.W.codeIn K cd_moving_places "moving_places" = true)
    (k_moving_places : PySem.W.keepIn K (.ref f_moving_places) = true)
    (a_least_plan : PySem.W.nsIn K mainGlobals "least_plan" = some (some (.ref f_least_plan)))
    (l_least_plan : K.lookup f_least_plan = some ⟨oc_least_plan, od_least_plan, .func (PySem.W.fnOf "least_plan" "least_plan" (defArgs s_least_plan) (defBody s_least_plan) (defScope s_least_plan) .none kV_least_plan dc_least_plan pm_least_plan an_least_plan cd_least_plan ct_least_plan), sl_least_plan⟩)
    (c_least_plan : PySem.W.codeIn K cd_least_plan "least_plan" = true)
    (k_least_plan : PySem.W.keepIn K (.ref f_least_plan) = true)
    (a_least_fixed : PySem.W.nsIn K mainGlobals "least_fixed" = some (some (.ref f_least_fixed)))
    (l_least_fixed : K.lookup f_least_fixed = some ⟨oc_least_fixed, od_least_fixed, .func (PySem.W.fnOf "least_fixed" "least_fixed" (defArgs s_least_fixed) (defBody s_least_fixed) (defScope s_least_fixed) .none kV_least_fixed dc_least_fixed pm_least_fixed an_least_fixed cd_least_fixed ct_least_fixed), sl_least_fixed⟩)
    (c_least_fixed : PySem.W.codeIn K cd_least_fixed "least_fixed" = true)
    (k_least_fixed : PySem.W.keepIn K (.ref f_least_fixed) = true)
    (a_worth_moving : PySem.W.nsIn K mainGlobals "worth_moving" = some (some (.ref f_worth_moving)))
    (l_worth_moving : K.lookup f_worth_moving = some ⟨oc_worth_moving, od_worth_moving, .func (PySem.W.fnOf "worth_moving" "worth_moving" (defArgs s_worth_moving) (defBody s_worth_moving) (defScope s_worth_moving) .none kV_worth_moving dc_worth_moving pm_worth_moving an_worth_moving cd_worth_moving ct_worth_moving), sl_worth_moving⟩)
    (c_worth_moving : PySem.W.codeIn K cd_worth_moving "worth_moving" = true)
    (k_worth_moving : PySem.W.keepIn K (.ref f_worth_moving) = true)
    (a__law_taken : PySem.W.nsIn K mainGlobals "_law_taken" = some (some (.ref f__law_taken)))
    (l__law_taken : K.lookup f__law_taken = some ⟨oc__law_taken, od__law_taken, .func (PySem.W.fnOf "_law_taken" "_law_taken" (defArgs s__law_taken) (defBody s__law_taken) (defScope s__law_taken) .none kV__law_taken dc__law_taken pm__law_taken an__law_taken cd__law_taken ct__law_taken), sl__law_taken⟩)
    (c__law_taken : PySem.W.codeIn K cd__law_taken "_law_taken" = true)
    (k__law_taken : PySem.W.keepIn K (.ref f__law_taken) = true)
    (a_law : PySem.W.nsIn K mainGlobals "law" = some (some (.ref f_law)))
    (l_law : K.lookup f_law = some ⟨oc_law, od_law, .func (PySem.W.fnOf "law" "law" (defArgs s_law) (defBody s_law) (defScope s_law) .none kV_law dc_law pm_law an_law (.ref c0) ct_law), sl_law⟩)
    (c_law : PySem.W.codeIn K (.ref c0) "law" = true)
    (k_law : PySem.W.keepIn K (.ref f_law) = true)
    (a__law_told : PySem.W.nsIn K mainGlobals "_law_told" = some (some (.ref f__law_told)))
    (l__law_told : K.lookup f__law_told = some ⟨oc__law_told, od__law_told, .func (PySem.W.fnOf "_law_told" "_law_told" (defArgs s__law_told) (defBody s__law_told) (defScope s__law_told) .none kV__law_told dc__law_told pm__law_told an__law_told cd__law_told ct__law_told), sl__law_told⟩)
    (c__law_told : PySem.W.codeIn K cd__law_told "_law_told" = true)
    (k__law_told : PySem.W.keepIn K (.ref f__law_told) = true)
    (a_Store : PySem.W.nsIn K mainGlobals "Store" = some (some (.ref C)))
    (a_mdoor_of : PySem.W.findIn K (.ref C) "door_of" = some (some (.ref f_mdoor_of)))
    (i_mdoor_of : PySem.W.isFn K (.ref f_mdoor_of) = true)
    (l_mdoor_of : K.lookup f_mdoor_of = some ⟨oc_mdoor_of, od_mdoor_of, .func (PySem.W.fnOf "door_of" "Store.door_of" (defArgs s_Store_door_of) (defBody s_Store_door_of) (defScope s_Store_door_of) .none kV_mdoor_of dc_mdoor_of pm_mdoor_of an_mdoor_of cd_mdoor_of ct_mdoor_of), sl_mdoor_of⟩)
    (c_mdoor_of : PySem.W.codeIn K cd_mdoor_of "Store.door_of" = true)
    (k_mdoor_of : PySem.W.keepIn K (.ref f_mdoor_of) = true)
    (a_m__init__ : PySem.W.findIn K (.ref C) "__init__" = some (some (.ref f_m__init__)))
    (i_m__init__ : PySem.W.isFn K (.ref f_m__init__) = true)
    (l_m__init__ : K.lookup f_m__init__ = some ⟨oc_m__init__, od_m__init__, .func (PySem.W.fnOf "__init__" "Store.__init__" (defArgs s_Store___init__) (defBody s_Store___init__) (defScope s_Store___init__) .none kV_m__init__ dc_m__init__ pm_m__init__ an_m__init__ cd_m__init__ ct_m__init__), sl_m__init__⟩)
    (c_m__init__ : PySem.W.codeIn K cd_m__init__ "Store.__init__" = true)
    (k_m__init__ : PySem.W.keepIn K (.ref f_m__init__) = true)
    (a_pcrates : PySem.W.findIn K (.ref C) "crates" = some (some (.ref p_pcrates)))
    (g_pcrates : PySem.W.specialIn K (.ref p_pcrates) "__get__" = some (some (.builtin "property.__get__")))
    (t_pcrates : PySem.W.takesIn K (.ref p_pcrates) = some true)
    (e_pcrates : PySem.W.recIn K p_pcrates "property" = some (.ref f_pcrates :: r_pcrates))
    (l_pcrates : K.lookup f_pcrates = some ⟨oc_pcrates, od_pcrates, .func (PySem.W.fnOf "crates" "Store.crates" (defArgs s_Store_crates) (defBody s_Store_crates) (defScope s_Store_crates) .none kV_pcrates dc_pcrates pm_pcrates an_pcrates cd_pcrates ct_pcrates), sl_pcrates⟩)
    (c_pcrates : PySem.W.codeIn K cd_pcrates "Store.crates" = true)
    (k_pcrates : PySem.W.keepIn K (.ref f_pcrates) = true)
    (a_psize : PySem.W.findIn K (.ref C) "size" = some (some (.ref p_psize)))
    (g_psize : PySem.W.specialIn K (.ref p_psize) "__get__" = some (some (.builtin "property.__get__")))
    (t_psize : PySem.W.takesIn K (.ref p_psize) = some true)
    (e_psize : PySem.W.recIn K p_psize "property" = some (.ref f_psize :: r_psize))
    (l_psize : K.lookup f_psize = some ⟨oc_psize, od_psize, .func (PySem.W.fnOf "size" "Store.size" (defArgs s_Store_size) (defBody s_Store_size) (defScope s_Store_size) .none kV_psize dc_psize pm_psize an_psize cd_psize ct_psize), sl_psize⟩)
    (c_psize : PySem.W.codeIn K cd_psize "Store.size" = true)
    (k_psize : PySem.W.keepIn K (.ref f_psize) = true)
    (a_pdoors : PySem.W.findIn K (.ref C) "doors" = some (some (.ref p_pdoors)))
    (g_pdoors : PySem.W.specialIn K (.ref p_pdoors) "__get__" = some (some (.builtin "property.__get__")))
    (t_pdoors : PySem.W.takesIn K (.ref p_pdoors) = some true)
    (e_pdoors : PySem.W.recIn K p_pdoors "property" = some (.ref f_pdoors :: r_pdoors))
    (l_pdoors : K.lookup f_pdoors = some ⟨oc_pdoors, od_pdoors, .func (PySem.W.fnOf "doors" "Store.doors" (defArgs s_Store_doors) (defBody s_Store_doors) (defScope s_Store_doors) .none kV_pdoors dc_pdoors pm_pdoors an_pdoors cd_pdoors ct_pdoors), sl_pdoors⟩)
    (c_pdoors : PySem.W.codeIn K cd_pdoors "Store.doors" = true)
    (k_pdoors : PySem.W.keepIn K (.ref f_pdoors) = true)
    (s_pg : PySem.W.plainGet K C Str.empty = true)
    (s_hd : PySem.W.hasDictIn K C = true)
    (s_po : PySem.W.plainOver K C = true)
    (s_sa : PySem.W.findIn K (.ref C) "__setattr__" = some (some (.builtin "object.__setattr__")))
    (s_mk : PySem.W.makesIn K C = true)
    (s_kc : PySem.W.keepIn K (.ref C) = true)
    (s_nplaces : PySem.W.findIn K (.ref C) "_places" = some none)
    (s_nsize : PySem.W.findIn K (.ref C) "_size" = some none)
    (s_ndoors : PySem.W.findIn K (.ref C) "_doors" = some none)
    (s_ncrates : PySem.W.findIn K (.ref C) "_crates" = some none)
    (a_InvalidPlan : PySem.W.nsIn K mainGlobals "InvalidPlan" = some (some (.ref e_InvalidPlan)))
    (ob_InvalidPlan : K.lookup e_InvalidPlan = some (excClassObj nm_InvalidPlan qn_InvalidPlan e_InvalidPlan N_InvalidPlan bs_InvalidPlan [.ref CE, .type "ValueError", .type "Exception", .type "BaseException", .type "object"] true sn_InvalidPlan sub_InvalidPlan ab_InvalidPlan col_InvalidPlan dd_InvalidPlan k0_InvalidPlan k1_InvalidPlan k2_InvalidPlan k3_InvalidPlan k5_InvalidPlan "ValueError.__new__"))
    (sa_InvalidPlan : PySem.W.findIn K (.ref e_InvalidPlan) "__setattr__" = some (some (.builtin "object.__setattr__")))
    (iC_InvalidPlan : PySem.W.findIn K (.ref e_InvalidPlan) "__init__" = some (some (.ref fI_InvalidPlan)))
    (tC_InvalidPlan : PySem.W.typeIn K (.ref fI_InvalidPlan) = some (.type "function"))
    (ve_InvalidPlan : PySem.W.subIn K (.ref e_InvalidPlan) (.type "ValueError") = some true)
    (slf_InvalidPlan : PySem.W.mroIn K e_InvalidPlan (.ref e_InvalidPlan) = some true)
    (op_InvalidPlan : PySem.W.nsIn K cStatics "thirdparty.any" = some none)
    (al_InvalidPlan : PySem.W.ks_superIn K e_InvalidPlan e_InvalidPlan "__init__" = some (some (.builtin "ValueError.__init__")))
    (li_InvalidPlan : K.lookup fI_InvalidPlan = some ⟨ocI_InvalidPlan, odI_InvalidPlan, .func (PySem.W.ksFn "__init__" "InvalidPlan.__init__" (defArgs s_InvalidPlan___init__) (defBody s_InvalidPlan___init__) (defScope s_InvalidPlan___init__) .none .none dcI_InvalidPlan pmI_InvalidPlan anI_InvalidPlan (.ref cda_InvalidPlan) ctI_InvalidPlan ccI_InvalidPlan), slI_InvalidPlan⟩)
    (ci_InvalidPlan : PySem.W.codeIn K (.ref cda_InvalidPlan) "InvalidPlan.__init__" = true)
    (cd_InvalidPlan : K.lookup cda_InvalidPlan = some ⟨cclI_InvalidPlan, cddI_InvalidPlan, .fields vsI_InvalidPlan, ccsI_InvalidPlan⟩)
    (v2_InvalidPlan : vsI_InvalidPlan[2]? = some (.str fileI_InvalidPlan tfI_InvalidPlan))
    (fi_InvalidPlan : ((PySem.Challenge.pw_coldcrates_k37_plans_rejected.main.file : Str) == fileI_InvalidPlan) = true)
    (cc_InvalidPlan : K.lookup ccI_InvalidPlan = some ⟨clI_InvalidPlan, cldI_InvalidPlan, .cell (some (.ref e_InvalidPlan)), cslI_InvalidPlan⟩)
    (no_InvalidPlan : PySem.W.findIn K (.ref e_InvalidPlan) "index" = some none)
    (kC_InvalidPlan : PySem.W.keepIn K (.ref e_InvalidPlan) = true)
    (exC_InvalidPlan : PySem.W.subIn K (.ref e_InvalidPlan) (.type "BaseException") = some true)
    (tyC_InvalidPlan : PySem.W.typeIn K (.ref e_InvalidPlan) = some (.type "type"))
    (a_InvalidStore : PySem.W.nsIn K mainGlobals "InvalidStore" = some (some (.ref e_InvalidStore)))
    (ob_InvalidStore : K.lookup e_InvalidStore = some (excClassObj nm_InvalidStore qn_InvalidStore e_InvalidStore N_InvalidStore bs_InvalidStore [.ref CE, .type "ValueError", .type "Exception", .type "BaseException", .type "object"] true sn_InvalidStore sub_InvalidStore ab_InvalidStore col_InvalidStore dd_InvalidStore k0_InvalidStore k1_InvalidStore k2_InvalidStore k3_InvalidStore k5_InvalidStore "ValueError.__new__"))
    (sa_InvalidStore : PySem.W.findIn K (.ref e_InvalidStore) "__setattr__" = some (some (.builtin "object.__setattr__")))
    (iC_InvalidStore : PySem.W.findIn K (.ref e_InvalidStore) "__init__" = some (some (.ref fI_InvalidStore)))
    (tC_InvalidStore : PySem.W.typeIn K (.ref fI_InvalidStore) = some (.type "function"))
    (ve_InvalidStore : PySem.W.subIn K (.ref e_InvalidStore) (.type "ValueError") = some true)
    (slf_InvalidStore : PySem.W.mroIn K e_InvalidStore (.ref e_InvalidStore) = some true)
    (op_InvalidStore : PySem.W.nsIn K cStatics "thirdparty.any" = some none)
    (al_InvalidStore : PySem.W.ks_superIn K e_InvalidStore e_InvalidStore "__init__" = some (some (.builtin "ValueError.__init__")))
    (li_InvalidStore : K.lookup fI_InvalidStore = some ⟨ocI_InvalidStore, odI_InvalidStore, .func (PySem.W.ksFn "__init__" "InvalidStore.__init__" (defArgs s_InvalidStore___init__) (defBody s_InvalidStore___init__) (defScope s_InvalidStore___init__) .none .none dcI_InvalidStore pmI_InvalidStore anI_InvalidStore (.ref cda_InvalidStore) ctI_InvalidStore ccI_InvalidStore), slI_InvalidStore⟩)
    (ci_InvalidStore : PySem.W.codeIn K (.ref cda_InvalidStore) "InvalidStore.__init__" = true)
    (cd_InvalidStore : K.lookup cda_InvalidStore = some ⟨cclI_InvalidStore, cddI_InvalidStore, .fields vsI_InvalidStore, ccsI_InvalidStore⟩)
    (v2_InvalidStore : vsI_InvalidStore[2]? = some (.str fileI_InvalidStore tfI_InvalidStore))
    (fi_InvalidStore : ((PySem.Challenge.pw_coldcrates_k37_plans_rejected.main.file : Str) == fileI_InvalidStore) = true)
    (cc_InvalidStore : K.lookup ccI_InvalidStore = some ⟨clI_InvalidStore, cldI_InvalidStore, .cell (some (.ref e_InvalidStore)), cslI_InvalidStore⟩)
    (no_InvalidStore : PySem.W.findIn K (.ref e_InvalidStore) "part" = some none)
    (kC_InvalidStore : PySem.W.keepIn K (.ref e_InvalidStore) = true)
    (exC_InvalidStore : PySem.W.subIn K (.ref e_InvalidStore) (.type "BaseException") = some true)
    (tyC_InvalidStore : PySem.W.typeIn K (.ref e_InvalidStore) = some (.type "type"))
    (a_UnknownPlace : PySem.W.nsIn K mainGlobals "UnknownPlace" = some (some (.ref e_UnknownPlace)))
    (kC_UnknownPlace : PySem.W.keepIn K (.ref e_UnknownPlace) = true)
    (exC_UnknownPlace : PySem.W.subIn K (.ref e_UnknownPlace) (.type "BaseException") = some true)
    (tyC_UnknownPlace : PySem.W.typeIn K (.ref e_UnknownPlace) = some (.type "type"))
    (q_UnknownPlace : PySem.W.excIn K e_UnknownPlace [.type "ValueError", .type "Exception", .type "BaseException", .type "object"] "ValueError.__new__" = true)
    (z_all : PySem.W.nsIn K mainGlobals "all" = some none)
    (z_bool : PySem.W.nsIn K mainGlobals "bool" = some none)
    (z_enumerate : PySem.W.nsIn K mainGlobals "enumerate" = some none)
    (z_int : PySem.W.nsIn K mainGlobals "int" = some none)
    (z_isinstance : PySem.W.nsIn K mainGlobals "isinstance" = some none)
    (z_len : PySem.W.nsIn K mainGlobals "len" = some none)
    (z_min : PySem.W.nsIn K mainGlobals "min" = some none)
    (z_range : PySem.W.nsIn K mainGlobals "range" = some none)
    (z_str : PySem.W.nsIn K mainGlobals "str" = some none)
    (z_sum : PySem.W.nsIn K mainGlobals "sum" = some none)
    (z_super : PySem.W.nsIn K mainGlobals "super" = some none)
    (z_tuple : PySem.W.nsIn K mainGlobals "tuple" = some none)
    (z_zip : PySem.W.nsIn K mainGlobals "zip" = some none)
    (v_LETTERS : PySem.W.nsIn K mainGlobals "LETTERS" = some (some (.str "abcdefghijklmnopqrstuvwxyz" t_LETTERS)))
    (v_LONGEST_WORD : PySem.W.nsIn K mainGlobals "LONGEST_WORD" = some (some (.int 8 t_LONGEST_WORD)))
    (v_MOST_BEHIND : PySem.W.nsIn K mainGlobals "MOST_BEHIND" = some (some (.int 4 t_MOST_BEHIND)))
    (v_MOST_CRATES : PySem.W.nsIn K mainGlobals "MOST_CRATES" = some (some (.int 5 t_MOST_CRATES)))
    (v_MOST_DOORS : PySem.W.nsIn K mainGlobals "MOST_DOORS" = some (some (.int 4 t_MOST_DOORS)))
    (v_MOST_IN_PLAN : PySem.W.nsIn K mainGlobals "MOST_IN_PLAN" = some (some (.int 8 t_MOST_IN_PLAN)))
    (v_MOST_PLACES : PySem.W.nsIn K mainGlobals "MOST_PLACES" = some (some (.int 6 t_MOST_PLACES)))
    (v_MOST_WARMTH : PySem.W.nsIn K mainGlobals "MOST_WARMTH" = some (some (.int 99 t_MOST_WARMTH)))
    (y_cd : K.lookup c0 = some ⟨ecd, dcd, .fields vcd, slcd⟩)
    (y_11 : vcd[11]? = some (.ref P0))
    (y_no : K.lookup P0 = none)
    (y_hd : PySem.W.codeHdIn K c0 P0 = true)
    (s_cl : PySem.W.findIn K (.ref C) "__class__" = some (some (.builtin "object.__class__")))
    (g_cl : PySem.W.specialIn K (.builtin "object.__class__") "__get__" = some (some (.builtin "getset_descriptor.__get__")))
    (g_tk : PySem.W.takesIn K (.builtin "object.__class__") = some true)
    (s_mo : PySem.W.mroIn K C (.type "object") = some true)
    (xm_InvalidPlan_InvalidPlan : PySem.W.exmOne K (.ref e_InvalidPlan) (.ref e_InvalidPlan) = some true)
    (xm_InvalidPlan_InvalidStore : PySem.W.exmOne K (.ref e_InvalidStore) (.ref e_InvalidPlan) = some false)
    (xm_InvalidPlan_UnknownPlace : PySem.W.exmOne K (.ref e_UnknownPlace) (.ref e_InvalidPlan) = some false)
    (xg_InvalidPlan : PySem.W.findIn K (.ref e_InvalidPlan) "__getattribute__" = some (some (.builtin "BaseException.__getattribute__")))
    (xa_InvalidPlan : PySem.W.findIn K (.ref e_InvalidPlan) "__getattr__" = some none)
    (xh_InvalidPlan : PySem.W.hasDictIn K e_InvalidPlan = true) :
    LamX.LawAtS PySem.Challenge.rw_coldcrates_k37_plans_rejected w K CX0 20 63 "_law_script" mg fa h := by
  have e := hfa.symm.trans (PySem.W.mg_of X G a_law)
  cases e
  have SC_InvalidPlan : CcX.SupC pwK K e_InvalidPlan fI_InvalidPlan "InvalidPlan.__init__" "index" (defBody s_InvalidPlan___init__) (defArgs s_InvalidPlan___init__) (defScope s_InvalidPlan___init__) := { cls := ⟨_, _, _, _, _, _, _, _, _, _, _, _, _, _, _, ob_InvalidPlan, rfl⟩, sa := sa_InvalidPlan, noN := no_InvalidPlan, iC := iC_InvalidPlan, tC := tC_InvalidPlan, kC := kC_InvalidPlan, exC := exC_InvalidPlan, veC := ve_InvalidPlan, slfC := slf_InvalidPlan, tyC := tyC_InvalidPlan, opq := op_InvalidPlan, alg := al_InvalidPlan, top := by decide +kernel, fn := ⟨_, _, _, _, _, _, _, _, _, _, _, _, _, _, _, _, _, _, li_InvalidPlan, ci_InvalidPlan, cd_InvalidPlan, v2_InvalidPlan, fi_InvalidPlan, cc_InvalidPlan⟩ }
  have SI_InvalidPlan : CcX.SupI pwK w K mg e_InvalidPlan fI_InvalidPlan "index" := CcX.sup_of (ar := "index") SC_InvalidPlan (by first | exact .inl rfl | exact .inr (.inl rfl) | exact .inr (.inr (.inl rfl)) | exact .inr (.inr (.inr (.inl rfl))) | exact .inr (.inr (.inr (.inr rfl)))) (fun e he => by
    simp only [List.mem_cons, List.not_mem_nil, or_false] at he
    first
      | (rcases he with rfl | rfl | rfl <;> first | exact .inr ⟨_, _, rfl⟩ | exact .inl ⟨_, _, _, rfl, by decide +kernel⟩)
      | (rcases he with rfl | rfl <;> first | exact .inr ⟨_, _, rfl⟩ | exact .inl ⟨_, _, _, rfl, by decide +kernel⟩)
      | (subst he; first | exact .inr ⟨_, _, rfl⟩ | exact .inl ⟨_, _, _, rfl, by decide +kernel⟩)) (by decide) (by decide +kernel) (PySem.W.mg_none_of X G z_super)
  have SC_InvalidStore : CcX.SupC pwK K e_InvalidStore fI_InvalidStore "InvalidStore.__init__" "part" (defBody s_InvalidStore___init__) (defArgs s_InvalidStore___init__) (defScope s_InvalidStore___init__) := { cls := ⟨_, _, _, _, _, _, _, _, _, _, _, _, _, _, _, ob_InvalidStore, rfl⟩, sa := sa_InvalidStore, noN := no_InvalidStore, iC := iC_InvalidStore, tC := tC_InvalidStore, kC := kC_InvalidStore, exC := exC_InvalidStore, veC := ve_InvalidStore, slfC := slf_InvalidStore, tyC := tyC_InvalidStore, opq := op_InvalidStore, alg := al_InvalidStore, top := by decide +kernel, fn := ⟨_, _, _, _, _, _, _, _, _, _, _, _, _, _, _, _, _, _, li_InvalidStore, ci_InvalidStore, cd_InvalidStore, v2_InvalidStore, fi_InvalidStore, cc_InvalidStore⟩ }
  have SI_InvalidStore : CcX.SupI pwK w K mg e_InvalidStore fI_InvalidStore "part" := CcX.sup_of (ar := "part") SC_InvalidStore (by first | exact .inl rfl | exact .inr (.inl rfl) | exact .inr (.inr (.inl rfl)) | exact .inr (.inr (.inr (.inl rfl))) | exact .inr (.inr (.inr (.inr rfl)))) (fun e he => by
    simp only [List.mem_cons, List.not_mem_nil, or_false] at he
    first
      | (rcases he with rfl | rfl | rfl <;> first | exact .inr ⟨_, _, rfl⟩ | exact .inl ⟨_, _, _, rfl, by decide +kernel⟩)
      | (rcases he with rfl | rfl <;> first | exact .inr ⟨_, _, rfl⟩ | exact .inl ⟨_, _, _, rfl, by decide +kernel⟩)
      | (subst he; first | exact .inr ⟨_, _, rfl⟩ | exact .inl ⟨_, _, _, rfl, by decide +kernel⟩)) (by decide) (by decide +kernel) (PySem.W.mg_none_of X G z_super)
  have F_is_number := fun_mk (st := s_is_number) l_is_number c_is_number k_is_number
  have b_is_number := F_is_number.binds (ps := ["value", "low", "high"]) fun _ _ _ _ _ _ us hl => match us, hl with | [_, _, _], _ => rfl
  have F_is_word := fun_mk (st := s_is_word) l_is_word c_is_word k_is_word
  have b_is_word := F_is_word.binds (ps := ["value"]) fun _ _ _ _ _ _ us hl => match us, hl with | [_], _ => rfl
  have F_is_door := fun_mk (st := s_is_door) l_is_door c_is_door k_is_door
  have b_is_door := F_is_door.binds (ps := ["value"]) fun _ _ _ _ _ _ us hl => match us, hl with | [_], _ => rfl
  have F_doors_fit := fun_mk (st := s_doors_fit) l_doors_fit c_doors_fit k_doors_fit
  have b_doors_fit := F_doors_fit.binds (ps := ["doors"]) fun _ _ _ _ _ _ us hl => match us, hl with | [_], _ => rfl
  have F_crates_fit := fun_mk (st := s_crates_fit) l_crates_fit c_crates_fit k_crates_fit
  have b_crates_fit := F_crates_fit.binds (ps := ["crates", "size"]) fun _ _ _ _ _ _ us hl => match us, hl with | [_, _], _ => rfl
  have F_places_behind := fun_mk (st := s_places_behind) l_places_behind c_places_behind k_places_behind
  have b_places_behind := F_places_behind.binds (ps := ["doors"]) fun _ _ _ _ _ _ us hl => match us, hl with | [_], _ => rfl
  have F_arrangements := fun_mk (st := s_arrangements) l_arrangements c_arrangements k_arrangements
  have b_arrangements := F_arrangements.binds (ps := ["names", "free"]) fun _ _ _ _ _ _ us hl => match us, hl with | [_, _], _ => rfl
  have F_all_layouts := fun_mk (st := s_all_layouts) l_all_layouts c_all_layouts k_all_layouts
  have b_all_layouts := F_all_layouts.binds (ps := ["store"]) fun _ _ _ _ _ _ us hl => match us, hl with | [_], _ => rfl
  have F_check_place := fun_mk (st := s_check_place) l_check_place c_check_place k_check_place
  have b_check_place := F_check_place.binds (ps := ["store", "place"]) fun _ _ _ _ _ _ us hl => match us, hl with | [_, _], _ => rfl
  have F_warmth_of := fun_mk (st := s_warmth_of) l_warmth_of c_warmth_of k_warmth_of
  have b_warmth_of := F_warmth_of.binds (ps := ["store", "doors"]) fun _ _ _ _ _ _ us hl => match us, hl with | [_, _], _ => rfl
  have F_warmth_in_turn := fun_mk (st := s_warmth_in_turn) l_warmth_in_turn c_warmth_in_turn k_warmth_in_turn
  have b_warmth_in_turn := F_warmth_in_turn.binds (ps := ["store", "doors"]) fun _ _ _ _ _ _ us hl => match us, hl with | [_, _], _ => rfl
  have F_check_plan := fun_mk (st := s_check_plan) l_check_plan c_check_plan k_check_plan
  have b_check_plan := F_check_plan.binds (ps := ["store", "plan"]) fun _ _ _ _ _ _ us hl => match us, hl with | [_, _], _ => rfl
  have F_least_of := fun_mk (st := s_least_of) l_least_of c_least_of k_least_of
  have b_least_of := F_least_of.binds (ps := ["store", "ways"]) fun _ _ _ _ _ _ us hl => match us, hl with | [_, _], _ => rfl
  have F_allowed := fun_mk (st := s_allowed) l_allowed c_allowed k_allowed
  have b_allowed := F_allowed.binds (ps := ["lying", "word", "name"]) fun _ _ _ _ _ _ us hl => match us, hl with | [_, _, _], _ => rfl
  have F_replaced := fun_mk (st := s_replaced) l_replaced c_replaced k_replaced
  have b_replaced := F_replaced.binds (ps := ["lying", "place", "name"]) fun _ _ _ _ _ _ us hl => match us, hl with | [_, _, _], _ => rfl
  have F_moving_places := fun_mk (st := s_moving_places) l_moving_places c_moving_places k_moving_places
  have b_moving_places := F_moving_places.binds (ps := ["store", "plan"]) fun _ _ _ _ _ _ us hl => match us, hl with | [_, _], _ => rfl
  have F_least_plan := fun_mk (st := s_least_plan) l_least_plan c_least_plan k_least_plan
  have b_least_plan := F_least_plan.binds (ps := ["store", "plan"]) fun _ _ _ _ _ _ us hl => match us, hl with | [_, _], _ => rfl
  have F_least_fixed := fun_mk (st := s_least_fixed) l_least_fixed c_least_fixed k_least_fixed
  have b_least_fixed := F_least_fixed.binds (ps := ["store", "plan"]) fun _ _ _ _ _ _ us hl => match us, hl with | [_, _], _ => rfl
  have F_worth_moving := fun_mk (st := s_worth_moving) l_worth_moving c_worth_moving k_worth_moving
  have b_worth_moving := F_worth_moving.binds (ps := ["store", "plan"]) fun _ _ _ _ _ _ us hl => match us, hl with | [_, _], _ => rfl
  have F__law_taken := fun_mk (st := s__law_taken) l__law_taken c__law_taken k__law_taken
  have b__law_taken := F__law_taken.binds (ps := ["_law_row", "_law_many"]) fun _ _ _ _ _ _ us hl => match us, hl with | [_, _], _ => rfl
  have F_law := fun_mk (st := s_law) l_law c_law k_law
  have F__law_told := fun_mk (st := s__law_told) l__law_told c__law_told k__law_told
  have b__law_told := F__law_told.binds (ps := ["_law_work"]) fun _ _ _ _ _ _ us hl => match us, hl with | [_], _ => rfl
  have F_mdoor_of := fun_mk (st := s_Store_door_of) l_mdoor_of c_mdoor_of k_mdoor_of
  have b_mdoor_of := F_mdoor_of.binds (ps := ["self", "place"]) fun _ _ _ _ _ _ us hl => match us, hl with | [_, _], _ => rfl
  have F_m__init__ := fun_mk (st := s_Store___init__) l_m__init__ c_m__init__ k_m__init__
  have b_m__init__ := F_m__init__.binds (ps := ["self", "doors", "crates"]) fun _ _ _ _ _ _ us hl => match us, hl with | [_, _, _], _ => rfl
  have F_pcrates := fun_mk (st := s_Store_crates) l_pcrates c_pcrates k_pcrates
  have b_pcrates := F_pcrates.binds (ps := ["self"]) fun _ _ _ _ _ _ us hl => match us, hl with | [_], _ => rfl
  have F_psize := fun_mk (st := s_Store_size) l_psize c_psize k_psize
  have b_psize := F_psize.binds (ps := ["self"]) fun _ _ _ _ _ _ us hl => match us, hl with | [_], _ => rfl
  have F_pdoors := fun_mk (st := s_Store_doors) l_pdoors c_pdoors k_pdoors
  have b_pdoors := F_pdoors.binds (ps := ["self"]) fun _ _ _ _ _ _ us hl => match us, hl with | [_], _ => rfl
  have hE_InvalidPlan : EAf e_InvalidPlan e_InvalidStore e_UnknownPlace f_least_fixed f_least_plan f_worth_moving "InvalidPlan" = e_InvalidPlan := by unfold EAf; rw [if_pos rfl]
  have hE_InvalidStore : EAf e_InvalidPlan e_InvalidStore e_UnknownPlace f_least_fixed f_least_plan f_worth_moving "InvalidStore" = e_InvalidStore := by unfold EAf; rw [if_neg (by decide), if_pos rfl]
  have hE_UnknownPlace : EAf e_InvalidPlan e_InvalidStore e_UnknownPlace f_least_fixed f_least_plan f_worth_moving "UnknownPlace" = e_UnknownPlace := by unfold EAf; rw [if_neg (by decide), if_neg (by decide), if_pos rfl]
  have hE_least_fixed : EAf e_InvalidPlan e_InvalidStore e_UnknownPlace f_least_fixed f_least_plan f_worth_moving "least_fixed" = f_least_fixed := by unfold EAf; rw [if_neg (by decide), if_neg (by decide), if_neg (by decide), if_pos rfl]
  have hE_least_plan : EAf e_InvalidPlan e_InvalidStore e_UnknownPlace f_least_fixed f_least_plan f_worth_moving "least_plan" = f_least_plan := by unfold EAf; rw [if_neg (by decide), if_neg (by decide), if_neg (by decide), if_neg (by decide), if_pos rfl]
  have hE_worth_moving : EAf e_InvalidPlan e_InvalidStore e_UnknownPlace f_least_fixed f_least_plan f_worth_moving "worth_moving" = f_worth_moving := by unfold EAf; rw [if_neg (by decide), if_neg (by decide), if_neg (by decide), if_neg (by decide), if_neg (by decide), if_pos rfl]
  have hF_InvalidPlan : FIf fI_InvalidPlan fI_InvalidStore "InvalidPlan" = fI_InvalidPlan := by unfold FIf; rw [if_pos rfl]
  have hG_InvalidPlan : EFf "InvalidPlan" = (["index"] : List Str) := by unfold EFf; rw [if_pos rfl]
  have hF_InvalidStore : FIf fI_InvalidPlan fI_InvalidStore "InvalidStore" = fI_InvalidStore := by unfold FIf; rw [if_neg (by decide), if_pos rfl]
  have hG_InvalidStore : EFf "InvalidStore" = (["part"] : List Str) := by unfold EFf; rw [if_neg (by decide), if_pos rfl]
  have TXX : ∀ (S : Addr × List Int) (r : Addr), Tx pwK w K mg C (lamB K (CT C) (CL C) (fun x => some (EAf e_InvalidPlan e_InvalidStore e_UnknownPlace f_least_fixed f_least_plan f_worth_moving x)) EFf S r P0 qLam) (EAf e_InvalidPlan e_InvalidStore e_UnknownPlace f_least_fixed f_least_plan f_worth_moving) (FIf fI_InvalidPlan fI_InvalidStore) := fun S r => { b_all := (PySem.W.mg_none_of X G z_all), b_bool := (PySem.W.mg_none_of X G z_bool), b_enumerate := (PySem.W.mg_none_of X G z_enumerate), b_int := (PySem.W.mg_none_of X G z_int), b_isinstance := (PySem.W.mg_none_of X G z_isinstance), b_len := (PySem.W.mg_none_of X G z_len), b_min := (PySem.W.mg_none_of X G z_min), b_range := (PySem.W.mg_none_of X G z_range), b_str := (PySem.W.mg_none_of X G z_str), b_sum := (PySem.W.mg_none_of X G z_sum), b_tuple := (PySem.W.mg_none_of X G z_tuple), b_zip := (PySem.W.mg_none_of X G z_zip), m_LETTERS := ⟨_, (PySem.W.mg_of X G v_LETTERS), ⟨_, rfl⟩⟩, m_LONGEST_WORD := ⟨_, (PySem.W.mg_of X G v_LONGEST_WORD), ⟨_, rfl⟩⟩, m_MOST_BEHIND := ⟨_, (PySem.W.mg_of X G v_MOST_BEHIND), ⟨_, rfl⟩⟩, m_MOST_CRATES := ⟨_, (PySem.W.mg_of X G v_MOST_CRATES), ⟨_, rfl⟩⟩, m_MOST_DOORS := ⟨_, (PySem.W.mg_of X G v_MOST_DOORS), ⟨_, rfl⟩⟩, m_MOST_IN_PLAN := ⟨_, (PySem.W.mg_of X G v_MOST_IN_PLAN), ⟨_, rfl⟩⟩, m_MOST_PLACES := ⟨_, (PySem.W.mg_of X G v_MOST_PLACES), ⟨_, rfl⟩⟩, m_MOST_WARMTH := ⟨_, (PySem.W.mg_of X G v_MOST_WARMTH), ⟨_, rfl⟩⟩, cls := ⟨s_pg, s_hd, s_po, s_sa⟩, hp := fun ns C' h e => (Option.some.inj ((if_pos h).symm.trans (show (if stP ns = true then some C else _) = some C' from e))).symm, hcp := fun ns h => if_pos h, cls0 := rfl, n_places := s_nplaces, n_size := s_nsize, n_doors := s_ndoors, n_crates := s_ncrates, g_Store := ⟨_, (PySem.W.mg_of X G a_Store), rfl⟩, isi := ⟨s_cl, g_cl, g_tk, s_mo⟩, x_InvalidPlan := by rw [hE_InvalidPlan, hF_InvalidPlan]; exact ⟨(PySem.W.mg_of X G a_InvalidPlan), SI_InvalidPlan⟩, ef_InvalidPlan := hG_InvalidPlan, ea_InvalidPlan := rfl, x_InvalidStore := by rw [hE_InvalidStore, hF_InvalidStore]; exact ⟨(PySem.W.mg_of X G a_InvalidStore), SI_InvalidStore⟩, ef_InvalidStore := hG_InvalidStore, ea_InvalidStore := rfl, x_UnknownPlace := by rw [hE_UnknownPlace]; exact ⟨(PySem.W.mg_of X G a_UnknownPlace), q_UnknownPlace, kC_UnknownPlace, exC_UnknownPlace, tyC_UnknownPlace⟩, ea_UnknownPlace := rfl, h_InvalidPlan := by rw [hE_InvalidPlan]; exact (PySem.W.mg_of X G a_InvalidPlan), xm_InvalidPlan := (fun c hc A hA => by cases hA; simp only [errNames, List.mem_cons, List.not_mem_nil, or_false] at hc; rcases hc with rfl | rfl | rfl <;> first | (rw [hE_InvalidPlan]; (try rw [hE_InvalidPlan]); exact xm_InvalidPlan_InvalidPlan) | (rw [hE_InvalidStore]; (try rw [hE_InvalidPlan]); exact xm_InvalidPlan_InvalidStore) | (rw [hE_UnknownPlace]; (try rw [hE_InvalidPlan]); exact xm_InvalidPlan_UnknownPlace)), xr_InvalidPlan := by rw [hE_InvalidPlan]; exact ⟨xg_InvalidPlan, xa_InvalidPlan, exC_InvalidPlan, xh_InvalidPlan⟩, xn_InvalidPlan_index := by rw [hE_InvalidPlan]; exact no_InvalidPlan, fv_least_fixed := by rw [hE_least_fixed]; exact (PySem.W.mg_of X G a_least_fixed), fc_least_fixed := by rw [hE_least_fixed]; exact ⟨_, (PySem.W.mg_of X G a_least_fixed), rfl⟩, fv_least_plan := by rw [hE_least_plan]; exact (PySem.W.mg_of X G a_least_plan), fc_least_plan := by rw [hE_least_plan]; exact ⟨_, (PySem.W.mg_of X G a_least_plan), rfl⟩, fv_worth_moving := by rw [hE_worth_moving]; exact (PySem.W.mg_of X G a_worth_moving), fc_worth_moving := by rw [hE_worth_moving]; exact ⟨_, (PySem.W.mg_of X G a_worth_moving), rfl⟩ }
  have hP : h.get? P0 = some { cls := Value.none, data := .fields #[] } := own c0 P0 _ _ _ _ _ _ l_law rfl rfl y_cd y_11
  refine ⟨PySem.W.fnOf "law" "law" (defArgs s_law) (defBody s_law) (defScope s_law) .none kV_law dc_law pm_law an_law (.ref c0) ct_law, [(c0, P0)], Mi.spLawP K P0, fun p hp => by rw [List.mem_singleton.mp hp]; exact hP, fun p hp => by rw [List.mem_singleton.mp hp]; exact y_no, fun p hp => by rw [List.mem_singleton.mp hp]; exact PySem.W.codeHd_of_K X y_hd, fun s u => .of_eq rfl, fun H a ns hl _ hH hS => ⟨a, ns, rfl, hS, hl, hH (c0, P0) (List.mem_singleton.mpr rfl), fun _ => rfl⟩, fun base _ _ tbs => ?_⟩
  have C_is_number : ∀ (S : Addr × List Int) (r : Addr), Cal pwK w K mg base CX0 1 "is_number" ["value", "low", "high"] (spC (lamB K (CT C) (CL C) (fun x => some (EAf e_InvalidPlan e_InvalidStore e_UnknownPlace f_least_fixed f_least_plan f_worth_moving x)) EFf S r P0 qLam) m_is_number) := fun S r => ⟨_, _, ok_is_number F_is_number (TXX S r) , (PySem.W.mg_of X G a_is_number), k_is_number, b_is_number⟩
  have C_is_word : ∀ (S : Addr × List Int) (r : Addr), Cal pwK w K mg base CX0 1 "is_word" ["value"] (spC (lamB K (CT C) (CL C) (fun x => some (EAf e_InvalidPlan e_InvalidStore e_UnknownPlace f_least_fixed f_least_plan f_worth_moving x)) EFf S r P0 qLam) m_is_word) := fun S r => ⟨_, _, ok_is_word F_is_word (TXX S r) , (PySem.W.mg_of X G a_is_word), k_is_word, b_is_word⟩
  have C_is_door : ∀ (S : Addr × List Int) (r : Addr), Cal pwK w K mg base CX0 2 "is_door" ["value"] (spC (lamB K (CT C) (CL C) (fun x => some (EAf e_InvalidPlan e_InvalidStore e_UnknownPlace f_least_fixed f_least_plan f_worth_moving x)) EFf S r P0 qLam) m_is_door) := fun S r => ⟨_, _, ok_is_door F_is_door (TXX S r) (C_is_number S r), (PySem.W.mg_of X G a_is_door), k_is_door, b_is_door⟩
  have C_doors_fit : ∀ (S : Addr × List Int) (r : Addr), Cal pwK w K mg base CX0 3 "doors_fit" ["doors"] (spC (lamB K (CT C) (CL C) (fun x => some (EAf e_InvalidPlan e_InvalidStore e_UnknownPlace f_least_fixed f_least_plan f_worth_moving x)) EFf S r P0 qLam) m_doors_fit) := fun S r => ⟨_, _, ok_doors_fit F_doors_fit (TXX S r) (C_is_door S r), (PySem.W.mg_of X G a_doors_fit), k_doors_fit, b_doors_fit⟩
  have C_crates_fit : ∀ (S : Addr × List Int) (r : Addr), Cal pwK w K mg base CX0 2 "crates_fit" ["crates", "size"] (spC (lamB K (CT C) (CL C) (fun x => some (EAf e_InvalidPlan e_InvalidStore e_UnknownPlace f_least_fixed f_least_plan f_worth_moving x)) EFf S r P0 qLam) m_crates_fit) := fun S r => ⟨_, _, ok_crates_fit F_crates_fit (TXX S r) (C_is_word S r), (PySem.W.mg_of X G a_crates_fit), k_crates_fit, b_crates_fit⟩
  have C_places_behind : ∀ (S : Addr × List Int) (r : Addr), Cal pwK w K mg base CX0 1 "places_behind" ["doors"] (spC (lamB K (CT C) (CL C) (fun x => some (EAf e_InvalidPlan e_InvalidStore e_UnknownPlace f_least_fixed f_least_plan f_worth_moving x)) EFf S r P0 qLam) m_places_behind) := fun S r => ⟨_, _, ok_places_behind F_places_behind (TXX S r) , (PySem.W.mg_of X G a_places_behind), k_places_behind, b_places_behind⟩
  have M_crates : ∀ (S : Addr × List Int) (r : Addr), CPrp pwK w K mg base CX0 1 C "crates" (spC (lamB K (CT C) (CL C) (fun x => some (EAf e_InvalidPlan e_InvalidStore e_UnknownPlace f_least_fixed f_least_plan f_worth_moving x)) EFf S r P0 qLam) m_Store_crates) := fun S r => ⟨_, _, _, ⟨s_pg, s_hd, s_po, s_sa⟩, ⟨a_pcrates, g_pcrates, t_pcrates, _, e_pcrates⟩, ok_Store_crates F_pcrates (TXX S r) , b_pcrates⟩
  have M_size : ∀ (S : Addr × List Int) (r : Addr), CPrp pwK w K mg base CX0 1 C "size" (spC (lamB K (CT C) (CL C) (fun x => some (EAf e_InvalidPlan e_InvalidStore e_UnknownPlace f_least_fixed f_least_plan f_worth_moving x)) EFf S r P0 qLam) m_Store_size) := fun S r => ⟨_, _, _, ⟨s_pg, s_hd, s_po, s_sa⟩, ⟨a_psize, g_psize, t_psize, _, e_psize⟩, ok_Store_size F_psize (TXX S r) , b_psize⟩
  have C_arrangements : ∀ (S : Addr × List Int) (r : Addr), Cal pwK w K mg base CX0 14 "arrangements" ["names", "free"] (spC (lamB K (CT C) (CL C) (fun x => some (EAf e_InvalidPlan e_InvalidStore e_UnknownPlace f_least_fixed f_least_plan f_worth_moving x)) EFf S r P0 qLam) (m_arrangements 13)) := fun S r => ⟨_, _, ok_arrangements F_arrangements (TXX S r)  (PySem.W.mg_of X G a_arrangements) k_arrangements b_arrangements 13, (PySem.W.mg_of X G a_arrangements), k_arrangements, b_arrangements⟩
  have C_all_layouts : ∀ (S : Addr × List Int) (r : Addr), Cal pwK w K mg base CX0 15 "all_layouts" ["store"] (spC (lamB K (CT C) (CL C) (fun x => some (EAf e_InvalidPlan e_InvalidStore e_UnknownPlace f_least_fixed f_least_plan f_worth_moving x)) EFf S r P0 qLam) m_all_layouts) := fun S r => ⟨_, _, ok_all_layouts F_all_layouts (TXX S r) (M_crates S r) (M_size S r) (C_arrangements S r), (PySem.W.mg_of X G a_all_layouts), k_all_layouts, b_all_layouts⟩
  have C_check_place : ∀ (S : Addr × List Int) (r : Addr), Cal pwK w K mg base (L2.CX pwK w) 3 "check_place" ["store", "place"] (spM (lamB K (CT C) (CL C) (fun x => some (EAf e_InvalidPlan e_InvalidStore e_UnknownPlace f_least_fixed f_least_plan f_worth_moving x)) EFf S r P0 qLam) m_check_place) := fun S r => ⟨_, _, ok_check_place F_check_place (TXX S r) (M_size S r) (C_is_number S r), (PySem.W.mg_of X G a_check_place), k_check_place, b_check_place⟩
  have M_doors : ∀ (S : Addr × List Int) (r : Addr), CPrp pwK w K mg base CX0 1 C "doors" (spC (lamB K (CT C) (CL C) (fun x => some (EAf e_InvalidPlan e_InvalidStore e_UnknownPlace f_least_fixed f_least_plan f_worth_moving x)) EFf S r P0 qLam) m_Store_doors) := fun S r => ⟨_, _, _, ⟨s_pg, s_hd, s_po, s_sa⟩, ⟨a_pdoors, g_pdoors, t_pdoors, _, e_pdoors⟩, ok_Store_doors F_pdoors (TXX S r) , b_pdoors⟩
  have C_warmth_of : ∀ (S : Addr × List Int) (r : Addr), Cal pwK w K mg base CX0 3 "warmth_of" ["store", "doors"] (spC (lamB K (CT C) (CL C) (fun x => some (EAf e_InvalidPlan e_InvalidStore e_UnknownPlace f_least_fixed f_least_plan f_worth_moving x)) EFf S r P0 qLam) m_warmth_of) := fun S r => ⟨_, _, ok_warmth_of F_warmth_of (TXX S r) (M_doors S r), (PySem.W.mg_of X G a_warmth_of), k_warmth_of, b_warmth_of⟩
  have C_warmth_in_turn : ∀ (S : Addr × List Int) (r : Addr), Cal pwK w K mg base CX0 4 "warmth_in_turn" ["store", "doors"] (spC (lamB K (CT C) (CL C) (fun x => some (EAf e_InvalidPlan e_InvalidStore e_UnknownPlace f_least_fixed f_least_plan f_worth_moving x)) EFf S r P0 qLam) m_warmth_in_turn) := fun S r => ⟨_, _, ok_warmth_in_turn F_warmth_in_turn (TXX S r) (C_warmth_of S r), (PySem.W.mg_of X G a_warmth_in_turn), k_warmth_in_turn, b_warmth_in_turn⟩
  have C_check_plan : ∀ (S : Addr × List Int) (r : Addr), Cal pwK w K mg base (L2.CX pwK w) 3 "check_plan" ["store", "plan"] (spM (lamB K (CT C) (CL C) (fun x => some (EAf e_InvalidPlan e_InvalidStore e_UnknownPlace f_least_fixed f_least_plan f_worth_moving x)) EFf S r P0 qLam) m_check_plan) := fun S r => ⟨_, _, ok_check_plan F_check_plan (TXX S r) (M_crates S r), (PySem.W.mg_of X G a_check_plan), k_check_plan, b_check_plan⟩
  have M_door_of : ∀ (S : Addr × List Int) (r : Addr), CMet pwK w K mg base (L2.CX pwK w) 4 C "door_of" ["self", "place"] (spM (lamB K (CT C) (CL C) (fun x => some (EAf e_InvalidPlan e_InvalidStore e_UnknownPlace f_least_fixed f_least_plan f_worth_moving x)) EFf S r P0 qLam) m_Store_door_of) := fun S r => ⟨_, _, ⟨s_pg, s_hd, s_po, s_sa⟩, ⟨a_mdoor_of, i_mdoor_of, k_mdoor_of⟩, ok_Store_door_of F_mdoor_of (TXX S r) (C_check_place S r), b_mdoor_of⟩
  have C_least_of : ∀ (S : Addr × List Int) (r : Addr), Cal pwK w K mg base (L2.CX pwK w) 5 "least_of" ["store", "ways"] (spM (lamB K (CT C) (CL C) (fun x => some (EAf e_InvalidPlan e_InvalidStore e_UnknownPlace f_least_fixed f_least_plan f_worth_moving x)) EFf S r P0 qLam) m_least_of) := fun S r => ⟨_, _, ok_least_of F_least_of (TXX S r) (M_door_of S r) (C_warmth_in_turn S r), (PySem.W.mg_of X G a_least_of), k_least_of, b_least_of⟩
  have C_allowed : ∀ (S : Addr × List Int) (r : Addr), Cal pwK w K mg base CX0 1 "allowed" ["lying", "word", "name"] (spC (lamB K (CT C) (CL C) (fun x => some (EAf e_InvalidPlan e_InvalidStore e_UnknownPlace f_least_fixed f_least_plan f_worth_moving x)) EFf S r P0 qLam) m_allowed) := fun S r => ⟨_, _, ok_allowed F_allowed (TXX S r) , (PySem.W.mg_of X G a_allowed), k_allowed, b_allowed⟩
  have C_replaced : ∀ (S : Addr × List Int) (r : Addr), Cal pwK w K mg base CX0 1 "replaced" ["lying", "place", "name"] (spC (lamB K (CT C) (CL C) (fun x => some (EAf e_InvalidPlan e_InvalidStore e_UnknownPlace f_least_fixed f_least_plan f_worth_moving x)) EFf S r P0 qLam) m_replaced) := fun S r => ⟨_, _, ok_replaced F_replaced (TXX S r) , (PySem.W.mg_of X G a_replaced), k_replaced, b_replaced⟩
  have C_moving_places : ∀ (S : Addr × List Int) (r : Addr), Cal pwK w K mg base CX0 3 "moving_places" ["store", "plan"] (spC (lamB K (CT C) (CL C) (fun x => some (EAf e_InvalidPlan e_InvalidStore e_UnknownPlace f_least_fixed f_least_plan f_worth_moving x)) EFf S r P0 qLam) m_moving_places) := fun S r => ⟨_, _, ok_moving_places F_moving_places (TXX S r) (M_size S r) (C_allowed S r) (C_replaced S r), (PySem.W.mg_of X G a_moving_places), k_moving_places, b_moving_places⟩
  have C_least_plan : ∀ (S : Addr × List Int) (r : Addr), Cal pwK w K mg base (L2.CX pwK w) 6 "least_plan" ["store", "plan"] (spM (lamB K (CT C) (CL C) (fun x => some (EAf e_InvalidPlan e_InvalidStore e_UnknownPlace f_least_fixed f_least_plan f_worth_moving x)) EFf S r P0 qLam) m_least_plan) := fun S r => ⟨_, _, ok_least_plan F_least_plan (TXX S r) (C_check_plan S r) (C_least_of S r) (C_moving_places S r), (PySem.W.mg_of X G a_least_plan), k_least_plan, b_least_plan⟩
  have C_least_fixed : ∀ (S : Addr × List Int) (r : Addr), Cal pwK w K mg base (L2.CX pwK w) 16 "least_fixed" ["store", "plan"] (spM (lamB K (CT C) (CL C) (fun x => some (EAf e_InvalidPlan e_InvalidStore e_UnknownPlace f_least_fixed f_least_plan f_worth_moving x)) EFf S r P0 qLam) m_least_fixed) := fun S r => ⟨_, _, ok_least_fixed F_least_fixed (TXX S r) (C_all_layouts S r) (C_check_plan S r) (C_least_of S r), (PySem.W.mg_of X G a_least_fixed), k_least_fixed, b_least_fixed⟩
  have C_worth_moving : ∀ (S : Addr × List Int) (r : Addr), Cal pwK w K mg base (L2.CX pwK w) 17 "worth_moving" ["store", "plan"] (spM (lamB K (CT C) (CL C) (fun x => some (EAf e_InvalidPlan e_InvalidStore e_UnknownPlace f_least_fixed f_least_plan f_worth_moving x)) EFf S r P0 qLam) m_worth_moving) := fun S r => ⟨_, _, ok_worth_moving F_worth_moving (TXX S r) (C_least_fixed S r) (C_least_plan S r), (PySem.W.mg_of X G a_worth_moving), k_worth_moving, b_worth_moving⟩
  have C__law_taken : ∀ (S : Addr × List Int) (r : Addr), Cal pwK w K mg base CX0 1 "_law_taken" ["_law_row", "_law_many"] (spTaken K) := fun S r => ⟨_, _, ok_taken F__law_taken ⟨(PySem.W.mg_none_of X G z_int), (PySem.W.mg_none_of X G z_len)⟩, (PySem.W.mg_of X G a__law_taken), k__law_taken, b__law_taken⟩
  have C_Store : ∀ (S : Addr × List Int) (r : Addr), CMk pwK w K mg base (L2.CX pwK w) 4 "Store" C ["self", "doors", "crates"] (spI (lamB K (CT C) (CL C) (fun x => some (EAf e_InvalidPlan e_InvalidStore e_UnknownPlace f_least_fixed f_least_plan f_worth_moving x)) EFf S r P0 qLam) C (m_Store___init__ C)) := fun S r => ⟨_, _, ⟨s_mk, a_m__init__, i_m__init__, s_kc⟩, ok_Store___init__ F_m__init__ (TXX S r) (C_crates_fit S r) (C_doors_fit S r) (C_places_behind S r), (PySem.W.mg_of X G a_Store), b_m__init__⟩
  have G__law_told : ∀ X2 : Cx, X2.K = K → X2.mg = mg → Taker X2 "_law_told" "_law_work" ["_law_work", "e"] f__law_told (defBody s__law_told) (defScope s__law_told) cd__law_told := fun X2 hK hm => ⟨by rw [hm]; exact (PySem.W.mg_of X G a__law_told), by rw [hK]; exact k__law_told, by rw [hK]; exact ⟨_, _, _, _, _, _, _, _, _, _, l__law_told, b__law_told⟩, by rw [hK]; exact c__law_told⟩
  exact ok_law (ct := CT C) (cls := CL C) (ea' := fun x => some (EAf e_InvalidPlan e_InvalidStore e_UnknownPlace f_least_fixed f_least_plan f_worth_moving x)) (ef := EFf) l_law c_law (tbs (c0, P0) (List.mem_singleton.mpr rfl)) G__law_told TXX C_Store C__law_taken C_least_fixed C_least_plan C_worth_moving (law_pure C _ _ _)
end My

open PySem PySem.W PyProof.Rows
set_option maxRecDepth 100000 in
set_option maxHeartbeats 0 in
theorem PySem.Challenge.cw_coldcrates_k37_plans_rejected_holds : PySem.Challenge.rw_coldcrates_k37_plans_rejected.Holds := by
  w_on; o_law; k_head; (case hw => w_witness2)
  k_fill
  refine LamX.walk_ofOwn (l := PySem.Challenge.rw_coldcrates_k37_plans_rejected) (n := 63) (k := 20) (x := "_law_script") (CX := fun _ => L2.CX0) rfl (by decide) rfl ⟨rfl, by decide, by decide⟩ (by decide +kernel) (fun w h Y => PySem.W.km_in_of Y) ?F (fun _ _ _ _ _ z => z)
  case F =>
    intro w mg fa h Y KX G hmg own
    refine' My.all_mk KX G hmg own ?a_is_number ?l_is_number ?c_is_number ?k_is_number ?a_is_word ?l_is_word ?c_is_word ?k_is_word ?a_is_door ?l_is_door ?c_is_door ?k_is_door ?a_doors_fit ?l_doors_fit ?c_doors_fit ?k_doors_fit ?a_crates_fit ?l_crates_fit ?c_crates_fit ?k_crates_fit ?a_places_behind ?l_places_behind ?c_places_behind ?k_places_behind ?a_arrangements ?l_arrangements ?c_arrangements ?k_arrangements ?a_all_layouts ?l_all_layouts ?c_all_layouts ?k_all_layouts ?a_check_place ?l_check_place ?c_check_place ?k_check_place ?a_warmth_of ?l_warmth_of ?c_warmth_of ?k_warmth_of ?a_warmth_in_turn ?l_warmth_in_turn ?c_warmth_in_turn ?k_warmth_in_turn ?a_check_plan ?l_check_plan ?c_check_plan ?k_check_plan ?a_least_of ?l_least_of ?c_least_of ?k_least_of ?a_allowed ?l_allowed ?c_allowed ?k_allowed ?a_replaced ?l_replaced ?c_replaced ?k_replaced ?a_moving_places ?l_moving_places ?c_moving_places ?k_moving_places ?a_least_plan ?l_least_plan ?c_least_plan ?k_least_plan ?a_least_fixed ?l_least_fixed ?c_least_fixed ?k_least_fixed ?a_worth_moving ?l_worth_moving ?c_worth_moving ?k_worth_moving ?a__law_taken ?l__law_taken ?c__law_taken ?k__law_taken ?a_law ?l_law ?c_law ?k_law ?a__law_told ?l__law_told ?c__law_told ?k__law_told ?a_Store ?a_mdoor_of ?i_mdoor_of ?l_mdoor_of ?c_mdoor_of ?k_mdoor_of ?a_m__init__ ?i_m__init__ ?l_m__init__ ?c_m__init__ ?k_m__init__ ?a_pcrates ?g_pcrates ?t_pcrates ?e_pcrates ?l_pcrates ?c_pcrates ?k_pcrates ?a_psize ?g_psize ?t_psize ?e_psize ?l_psize ?c_psize ?k_psize ?a_pdoors ?g_pdoors ?t_pdoors ?e_pdoors ?l_pdoors ?c_pdoors ?k_pdoors ?s_pg ?s_hd ?s_po ?s_sa ?s_mk ?s_kc ?s_nplaces ?s_nsize ?s_ndoors ?s_ncrates ?a_InvalidPlan ?ob_InvalidPlan ?sa_InvalidPlan ?iC_InvalidPlan ?tC_InvalidPlan ?ve_InvalidPlan ?slf_InvalidPlan ?op_InvalidPlan ?al_InvalidPlan ?li_InvalidPlan ?ci_InvalidPlan ?cd_InvalidPlan ?v2_InvalidPlan ?fi_InvalidPlan ?cc_InvalidPlan ?no_InvalidPlan ?kC_InvalidPlan ?exC_InvalidPlan ?tyC_InvalidPlan ?a_InvalidStore ?ob_InvalidStore ?sa_InvalidStore ?iC_InvalidStore ?tC_InvalidStore ?ve_InvalidStore ?slf_InvalidStore ?op_InvalidStore ?al_InvalidStore ?li_InvalidStore ?ci_InvalidStore ?cd_InvalidStore ?v2_InvalidStore ?fi_InvalidStore ?cc_InvalidStore ?no_InvalidStore ?kC_InvalidStore ?exC_InvalidStore ?tyC_InvalidStore ?a_UnknownPlace ?kC_UnknownPlace ?exC_UnknownPlace ?tyC_UnknownPlace ?q_UnknownPlace ?z_all ?z_bool ?z_enumerate ?z_int ?z_isinstance ?z_len ?z_min ?z_range ?z_str ?z_sum ?z_super ?z_tuple ?z_zip ?v_LETTERS ?v_LONGEST_WORD ?v_MOST_BEHIND ?v_MOST_CRATES ?v_MOST_DOORS ?v_MOST_IN_PLAN ?v_MOST_PLACES ?v_MOST_WARMTH ?y_cd ?y_11 ?y_no ?y_hd ?s_cl ?g_cl ?g_tk ?s_mo ?xm_InvalidPlan_InvalidPlan ?xm_InvalidPlan_InvalidStore ?xm_InvalidPlan_UnknownPlace ?xg_InvalidPlan ?xa_InvalidPlan ?xh_InvalidPlan
    (case a_is_number => first | k_is | k_exc | rfl | kernel_rfl)
    (case l_is_number => first | k_is | k_exc | rfl | kernel_rfl)
    (case c_is_number => first | k_is | k_exc | rfl | kernel_rfl)
    (case k_is_number => first | k_is | k_exc | rfl | kernel_rfl)
    (case a_is_word => first | k_is | k_exc | rfl | kernel_rfl)
    (case l_is_word => first | k_is | k_exc | rfl | kernel_rfl)
    (case c_is_word => first | k_is | k_exc | rfl | kernel_rfl)
    (case k_is_word => first | k_is | k_exc | rfl | kernel_rfl)
    (case a_is_door => first | k_is | k_exc | rfl | kernel_rfl)
    (case l_is_door => first | k_is | k_exc | rfl | kernel_rfl)
    (case c_is_door => first | k_is | k_exc | rfl | kernel_rfl)
    (case k_is_door => first | k_is | k_exc | rfl | kernel_rfl)
    (case a_doors_fit => first | k_is | k_exc | rfl | kernel_rfl)
    (case l_doors_fit => first | k_is | k_exc | rfl | kernel_rfl)
    (case c_doors_fit => first | k_is | k_exc | rfl | kernel_rfl)
    (case k_doors_fit => first | k_is | k_exc | rfl | kernel_rfl)
    (case a_crates_fit => first | k_is | k_exc | rfl | kernel_rfl)
    (case l_crates_fit => first | k_is | k_exc | rfl | kernel_rfl)
    (case c_crates_fit => first | k_is | k_exc | rfl | kernel_rfl)
    (case k_crates_fit => first | k_is | k_exc | rfl | kernel_rfl)
    (case a_places_behind => first | k_is | k_exc | rfl | kernel_rfl)
    (case l_places_behind => first | k_is | k_exc | rfl | kernel_rfl)
    (case c_places_behind => first | k_is | k_exc | rfl | kernel_rfl)
    (case k_places_behind => first | k_is | k_exc | rfl | kernel_rfl)
    (case a_arrangements => first | k_is | k_exc | rfl | kernel_rfl)
    (case l_arrangements => first | k_is | k_exc | rfl | kernel_rfl)
    (case c_arrangements => first | k_is | k_exc | rfl | kernel_rfl)
    (case k_arrangements => first | k_is | k_exc | rfl | kernel_rfl)
    (case a_all_layouts => first | k_is | k_exc | rfl | kernel_rfl)
    (case l_all_layouts => first | k_is | k_exc | rfl | kernel_rfl)
    (case c_all_layouts => first | k_is | k_exc | rfl | kernel_rfl)
    (case k_all_layouts => first | k_is | k_exc | rfl | kernel_rfl)
    (case a_check_place => first | k_is | k_exc | rfl | kernel_rfl)
    (case l_check_place => first | k_is | k_exc | rfl | kernel_rfl)
    (case c_check_place => first | k_is | k_exc | rfl | kernel_rfl)
    (case k_check_place => first | k_is | k_exc | rfl | kernel_rfl)
    (case a_warmth_of => first | k_is | k_exc | rfl | kernel_rfl)
    (case l_warmth_of => first | k_is | k_exc | rfl | kernel_rfl)
    (case c_warmth_of => first | k_is | k_exc | rfl | kernel_rfl)
    (case k_warmth_of => first | k_is | k_exc | rfl | kernel_rfl)
    (case a_warmth_in_turn => first | k_is | k_exc | rfl | kernel_rfl)
    (case l_warmth_in_turn => first | k_is | k_exc | rfl | kernel_rfl)
    (case c_warmth_in_turn => first | k_is | k_exc | rfl | kernel_rfl)
    (case k_warmth_in_turn => first | k_is | k_exc | rfl | kernel_rfl)
    (case a_check_plan => first | k_is | k_exc | rfl | kernel_rfl)
    (case l_check_plan => first | k_is | k_exc | rfl | kernel_rfl)
    (case c_check_plan => first | k_is | k_exc | rfl | kernel_rfl)
    (case k_check_plan => first | k_is | k_exc | rfl | kernel_rfl)
    (case a_least_of => first | k_is | k_exc | rfl | kernel_rfl)
    (case l_least_of => first | k_is | k_exc | rfl | kernel_rfl)
    (case c_least_of => first | k_is | k_exc | rfl | kernel_rfl)
    (case k_least_of => first | k_is | k_exc | rfl | kernel_rfl)
    (case a_allowed => first | k_is | k_exc | rfl | kernel_rfl)
    (case l_allowed => first | k_is | k_exc | rfl | kernel_rfl)
    (case c_allowed => first | k_is | k_exc | rfl | kernel_rfl)
    (case k_allowed => first | k_is | k_exc | rfl | kernel_rfl)
    (case a_replaced => first | k_is | k_exc | rfl | kernel_rfl)
    (case l_replaced => first | k_is | k_exc | rfl | kernel_rfl)
    (case c_replaced => first | k_is | k_exc | rfl | kernel_rfl)
    (case k_replaced => first | k_is | k_exc | rfl | kernel_rfl)
    (case a_moving_places => first | k_is | k_exc | rfl | kernel_rfl)
    (case l_moving_places => first | k_is | k_exc | rfl | kernel_rfl)
    (case c_moving_places => first | k_is | k_exc | rfl | kernel_rfl)
    (case k_moving_places => first | k_is | k_exc | rfl | kernel_rfl)
    (case a_least_plan => first | k_is | k_exc | rfl | kernel_rfl)
    (case l_least_plan => first | k_is | k_exc | rfl | kernel_rfl)
    (case c_least_plan => first | k_is | k_exc | rfl | kernel_rfl)
    (case k_least_plan => first | k_is | k_exc | rfl | kernel_rfl)
    (case a_least_fixed => first | k_is | k_exc | rfl | kernel_rfl)
    (case l_least_fixed => first | k_is | k_exc | rfl | kernel_rfl)
    (case c_least_fixed => first | k_is | k_exc | rfl | kernel_rfl)
    (case k_least_fixed => first | k_is | k_exc | rfl | kernel_rfl)
    (case a_worth_moving => first | k_is | k_exc | rfl | kernel_rfl)
    (case l_worth_moving => first | k_is | k_exc | rfl | kernel_rfl)
    (case c_worth_moving => first | k_is | k_exc | rfl | kernel_rfl)
    (case k_worth_moving => first | k_is | k_exc | rfl | kernel_rfl)
    (case a__law_taken => first | k_is | k_exc | rfl | kernel_rfl)
    (case l__law_taken => first | k_is | k_exc | rfl | kernel_rfl)
    (case c__law_taken => first | k_is | k_exc | rfl | kernel_rfl)
    (case k__law_taken => first | k_is | k_exc | rfl | kernel_rfl)
    (case a_law => first | k_is | k_exc | rfl | kernel_rfl)
    (case l_law => first | k_is | k_exc | rfl | kernel_rfl)
    (case c_law => first | k_is | k_exc | rfl | kernel_rfl)
    (case k_law => first | k_is | k_exc | rfl | kernel_rfl)
    (case a__law_told => first | k_is | k_exc | rfl | kernel_rfl)
    (case l__law_told => first | k_is | k_exc | rfl | kernel_rfl)
    (case c__law_told => first | k_is | k_exc | rfl | kernel_rfl)
    (case k__law_told => first | k_is | k_exc | rfl | kernel_rfl)
    (case a_Store => first | k_is | k_exc | rfl | kernel_rfl)
    (case a_mdoor_of => first | k_is | k_exc | rfl | kernel_rfl)
    (case i_mdoor_of => first | k_is | k_exc | rfl | kernel_rfl)
    (case l_mdoor_of => first | k_is | k_exc | rfl | kernel_rfl)
    (case c_mdoor_of => first | k_is | k_exc | rfl | kernel_rfl)
    (case k_mdoor_of => first | k_is | k_exc | rfl | kernel_rfl)
    (case a_m__init__ => first | k_is | k_exc | rfl | kernel_rfl)
    (case i_m__init__ => first | k_is | k_exc | rfl | kernel_rfl)
    (case l_m__init__ => first | k_is | k_exc | rfl | kernel_rfl)
    (case c_m__init__ => first | k_is | k_exc | rfl | kernel_rfl)
    (case k_m__init__ => first | k_is | k_exc | rfl | kernel_rfl)
    (case a_pcrates => first | k_is | k_exc | rfl | kernel_rfl)
    (case g_pcrates => first | k_is | k_exc | rfl | kernel_rfl)
    (case t_pcrates => first | k_is | k_exc | rfl | kernel_rfl)
    (case e_pcrates => first | k_is | k_exc | rfl | kernel_rfl)
    (case l_pcrates => first | k_is | k_exc | rfl | kernel_rfl)
    (case c_pcrates => first | k_is | k_exc | rfl | kernel_rfl)
    (case k_pcrates => first | k_is | k_exc | rfl | kernel_rfl)
    (case a_psize => first | k_is | k_exc | rfl | kernel_rfl)
    (case g_psize => first | k_is | k_exc | rfl | kernel_rfl)
    (case t_psize => first | k_is | k_exc | rfl | kernel_rfl)
    (case e_psize => first | k_is | k_exc | rfl | kernel_rfl)
    (case l_psize => first | k_is | k_exc | rfl | kernel_rfl)
    (case c_psize => first | k_is | k_exc | rfl | kernel_rfl)
    (case k_psize => first | k_is | k_exc | rfl | kernel_rfl)
    (case a_pdoors => first | k_is | k_exc | rfl | kernel_rfl)
    (case g_pdoors => first | k_is | k_exc | rfl | kernel_rfl)
    (case t_pdoors => first | k_is | k_exc | rfl | kernel_rfl)
    (case e_pdoors => first | k_is | k_exc | rfl | kernel_rfl)
    (case l_pdoors => first | k_is | k_exc | rfl | kernel_rfl)
    (case c_pdoors => first | k_is | k_exc | rfl | kernel_rfl)
    (case k_pdoors => first | k_is | k_exc | rfl | kernel_rfl)
    (case s_pg => first | k_is | k_exc | rfl | kernel_rfl)
    (case s_hd => first | k_is | k_exc | rfl | kernel_rfl)
    (case s_po => first | k_is | k_exc | rfl | kernel_rfl)
    (case s_sa => first | k_is | k_exc | rfl | kernel_rfl)
    (case s_mk => first | k_is | k_exc | rfl | kernel_rfl)
    (case s_kc => first | k_is | k_exc | rfl | kernel_rfl)
    (case s_nplaces => first | k_is | k_exc | rfl | kernel_rfl)
    (case s_nsize => first | k_is | k_exc | rfl | kernel_rfl)
    (case s_ndoors => first | k_is | k_exc | rfl | kernel_rfl)
    (case s_ncrates => first | k_is | k_exc | rfl | kernel_rfl)
    (case a_InvalidPlan => first | k_is | k_exc | rfl | kernel_rfl)
    (case ob_InvalidPlan => first | k_is | k_exc | rfl | kernel_rfl)
    (case sa_InvalidPlan => first | k_is | k_exc | rfl | kernel_rfl)
    (case iC_InvalidPlan => first | k_is | k_exc | rfl | kernel_rfl)
    (case tC_InvalidPlan => first | k_is | k_exc | rfl | kernel_rfl)
    (case ve_InvalidPlan => first | k_is | k_exc | rfl | kernel_rfl)
    (case slf_InvalidPlan => first | k_is | k_exc | rfl | kernel_rfl)
    (case op_InvalidPlan => first | k_is | k_exc | rfl | kernel_rfl)
    (case al_InvalidPlan => first | k_is | k_exc | rfl | kernel_rfl)
    (case li_InvalidPlan => first | k_is | k_exc | rfl | kernel_rfl)
    (case ci_InvalidPlan => first | k_is | k_exc | rfl | kernel_rfl)
    (case cd_InvalidPlan => first | k_is | k_exc | rfl | kernel_rfl)
    (case v2_InvalidPlan => first | k_is | k_exc | rfl | kernel_rfl)
    (case fi_InvalidPlan => first | k_is | k_exc | rfl | kernel_rfl)
    (case cc_InvalidPlan => first | k_is | k_exc | rfl | kernel_rfl)
    (case no_InvalidPlan => first | k_is | k_exc | rfl | kernel_rfl)
    (case kC_InvalidPlan => first | k_is | k_exc | rfl | kernel_rfl)
    (case exC_InvalidPlan => first | k_is | k_exc | rfl | kernel_rfl)
    (case tyC_InvalidPlan => first | k_is | k_exc | rfl | kernel_rfl)
    (case a_InvalidStore => first | k_is | k_exc | rfl | kernel_rfl)
    (case ob_InvalidStore => first | k_is | k_exc | rfl | kernel_rfl)
    (case sa_InvalidStore => first | k_is | k_exc | rfl | kernel_rfl)
    (case iC_InvalidStore => first | k_is | k_exc | rfl | kernel_rfl)
    (case tC_InvalidStore => first | k_is | k_exc | rfl | kernel_rfl)
    (case ve_InvalidStore => first | k_is | k_exc | rfl | kernel_rfl)
    (case slf_InvalidStore => first | k_is | k_exc | rfl | kernel_rfl)
    (case op_InvalidStore => first | k_is | k_exc | rfl | kernel_rfl)
    (case al_InvalidStore => first | k_is | k_exc | rfl | kernel_rfl)
    (case li_InvalidStore => first | k_is | k_exc | rfl | kernel_rfl)
    (case ci_InvalidStore => first | k_is | k_exc | rfl | kernel_rfl)
    (case cd_InvalidStore => first | k_is | k_exc | rfl | kernel_rfl)
    (case v2_InvalidStore => first | k_is | k_exc | rfl | kernel_rfl)
    (case fi_InvalidStore => first | k_is | k_exc | rfl | kernel_rfl)
    (case cc_InvalidStore => first | k_is | k_exc | rfl | kernel_rfl)
    (case no_InvalidStore => first | k_is | k_exc | rfl | kernel_rfl)
    (case kC_InvalidStore => first | k_is | k_exc | rfl | kernel_rfl)
    (case exC_InvalidStore => first | k_is | k_exc | rfl | kernel_rfl)
    (case tyC_InvalidStore => first | k_is | k_exc | rfl | kernel_rfl)
    (case a_UnknownPlace => first | k_is | k_exc | rfl | kernel_rfl)
    (case kC_UnknownPlace => first | k_is | k_exc | rfl | kernel_rfl)
    (case exC_UnknownPlace => first | k_is | k_exc | rfl | kernel_rfl)
    (case tyC_UnknownPlace => first | k_is | k_exc | rfl | kernel_rfl)
    (case q_UnknownPlace => first | k_is | k_exc | rfl | kernel_rfl)
    (case z_all => first | k_is | k_exc | rfl | kernel_rfl)
    (case z_bool => first | k_is | k_exc | rfl | kernel_rfl)
    (case z_enumerate => first | k_is | k_exc | rfl | kernel_rfl)
    (case z_int => first | k_is | k_exc | rfl | kernel_rfl)
    (case z_isinstance => first | k_is | k_exc | rfl | kernel_rfl)
    (case z_len => first | k_is | k_exc | rfl | kernel_rfl)
    (case z_min => first | k_is | k_exc | rfl | kernel_rfl)
    (case z_range => first | k_is | k_exc | rfl | kernel_rfl)
    (case z_str => first | k_is | k_exc | rfl | kernel_rfl)
    (case z_sum => first | k_is | k_exc | rfl | kernel_rfl)
    (case z_super => first | k_is | k_exc | rfl | kernel_rfl)
    (case z_tuple => first | k_is | k_exc | rfl | kernel_rfl)
    (case z_zip => first | k_is | k_exc | rfl | kernel_rfl)
    (case v_LETTERS => first | k_is | k_exc | rfl | kernel_rfl)
    (case v_LONGEST_WORD => first | k_is | k_exc | rfl | kernel_rfl)
    (case v_MOST_BEHIND => first | k_is | k_exc | rfl | kernel_rfl)
    (case v_MOST_CRATES => first | k_is | k_exc | rfl | kernel_rfl)
    (case v_MOST_DOORS => first | k_is | k_exc | rfl | kernel_rfl)
    (case v_MOST_IN_PLAN => first | k_is | k_exc | rfl | kernel_rfl)
    (case v_MOST_PLACES => first | k_is | k_exc | rfl | kernel_rfl)
    (case v_MOST_WARMTH => first | k_is | k_exc | rfl | kernel_rfl)
    (case y_cd => first | k_is | k_exc | rfl | kernel_rfl)
    (case y_11 => first | k_is | k_exc | rfl | kernel_rfl)
    (case y_no => first | k_is | k_exc | rfl | kernel_rfl)
    (case y_hd => first | k_is | k_exc | rfl | kernel_rfl)
    (case s_cl => first | k_is | k_exc | rfl | kernel_rfl)
    (case g_cl => first | k_is | k_exc | rfl | kernel_rfl)
    (case g_tk => first | k_is | k_exc | rfl | kernel_rfl)
    (case s_mo => first | k_is | k_exc | rfl | kernel_rfl)
    (case xm_InvalidPlan_InvalidPlan => first | k_is | k_exc | rfl | kernel_rfl)
    (case xm_InvalidPlan_InvalidStore => first | k_is | k_exc | rfl | kernel_rfl)
    (case xm_InvalidPlan_UnknownPlace => first | k_is | k_exc | rfl | kernel_rfl)
    (case xg_InvalidPlan => first | k_is | k_exc | rfl | kernel_rfl)
    (case xa_InvalidPlan => first | k_is | k_exc | rfl | kernel_rfl)
    (case xh_InvalidPlan => first | k_is | k_exc | rfl | kernel_rfl)
