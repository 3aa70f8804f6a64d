import PyProof.Rows.All
import Wide.All
import OpenK.AllK
import Wide.FinOn
import HandS.ForMost
import HandS.ForExc
import HandS.IsInst
import HandS.Property
import HandS.OwnEq
import HandS.Wide
import HandS.TupAny
import HandS.Deep
import HandS.Zip
import HandS.Walk
import HandS.Conv
import KE.KExcSuper
import HandS.ExcInit
import HandS.ExcField
import HandS.ExcIs
import HandS.Lambda
import HandS.FStr
import HandS.ExcOwn
import PyProof.InstNe
import KE.KExcIs
import HandS.TupMul
import HandS.EndTab
import PyProof.StrBlock2
import HandS.NoneIn
import HandS.SortKw
import HandS.WideBits
import HandS.Style
import KE.DataMinMax
import HandS.Strs
import PyProof.EnumMake
import PyProof.Draws
import HandS.RaiseMore
import KE.SortData
import HandS.Text
import HandS.Replace
import HandS.DictComp
import HandS.Dict
import KE.GoesRaise
import PySem.Challenge.RW_coldcrates_k47_codes_rejected
import PyProof.Rows.StrSplitJoin
set_option Elab.async false
set_option linter.all false
set_option maxRecDepth 100000
set_option maxHeartbeats 8000000
/-! Cc: data seen through the abstract heap; what a reading gives, told by data. -/
namespace Cc
open PySem L2

/-- the data of the program: plain values, lists, tuples, instances that never change -/
inductive D where
  | non
  | bl (b : Bool)
  | int (i : Int)
  | str (x : Str)
  | lst (ds : List D)
  | tup (ds : List D)
  /-- a tuple that is known to have no dict of its own -/
  | ptup (ds : List D)
  | ob (C : Addr) (ns : List Str) (ds : List D)
  /-- a reference, nothing is said of what stands there -/
  | adr (a : Addr)
abbrev Fg := PySem.W.Frag
/-- a tuple without a dict of its own -/
def PlO (o : Obj) : Prop := o.cls = .type "tuple" ∧ o.dict = none
def PlT (H : Hp) (p : Addr) (xs : List V) : Prop := ∃ o, PlO o ∧ H p = some (.frz o (.tup xs))
theorem PlT.sq {K : Fg} {H : Hp} {p : Addr} {xs : List V} (h : PlT H p xs) : SqT K H p xs := by
  obtain ⟨o, _, e⟩ := h
  exact .inl (.inr ⟨o, e⟩)
mutual
/-- the value v denotes the data d at the heap H -/
inductive Dn (K : Fg) (H : Hp) : V → D → Prop
  | non : Dn K H .non .non
  | bl (b : Bool) : Dn K H (.bl b) (.bl b)
  | int (i : Int) : Dn K H (.int i) (.int i)
  | str (x : Str) : Dn K H (.str x) (.str x)
  | lst {a : Addr} {xs : List V} {ds : List D} : H a = some (.lst xs) → Dns K H xs ds → Dn K H (.ref a) (.lst ds)
  | tup {a : Addr} {xs : List V} {ds : List D} : SqT K H a xs → Dns K H xs ds → Dn K H (.ref a) (.tup ds)
  | ptup {a : Addr} {xs : List V} {ds : List D} : PlT H a xs → Dns K H xs ds → Dn K H (.ref a) (.ptup ds)
  | ob {a C dx : Addr} {fs : List (Str × V)} {ns : List Str} {ds : List D} : H a = some (.ins C dx fs) → fs.map (·.1) = ns → Dns K H (fs.map (·.2)) ds → Dn K H (.ref a) (.ob C ns ds)
  | adr (a : Addr) : Dn K H (.ref a) (.adr a)
inductive Dns (K : Fg) (H : Hp) : List V → List D → Prop
  | nil : Dns K H [] []
  | cons {v : V} {vs : List V} {d : D} {ds : List D} : Dn K H v d → Dns K H vs ds → Dns K H (v :: vs) (d :: ds)
end
/-- what is kept through stores to lists: tuples, instances and so on -/
def immO : HO → Bool
  | .tup _ => true
  | .frz _ _ => true
  | .ins _ _ _ => true
  | _ => false
/-- the heap has grown, what never changes stands -/
def Kp (H H' : Hp) : Prop := ∀ b o, H b = some o → immO o = true → H' b = some o
theorem Kp.refl (H : Hp) : Kp H H := fun _ _ h _ => h
theorem Kp.trans {H H1 H2 : Hp} (a : Kp H H1) (b : Kp H1 H2) : Kp H H2 := fun c o h i => b c o (a c o h i) i
theorem Kp.of {H H' : Hp} (e : Same H H') : Kp H H' := fun b o h _ => e b o h
theorem Kp.upd {H : Hp} {l : Addr} {u o : HO} (h : H l = some u) (hi : immO u = false) : Kp H (upd H l o) := fun b q e i => by
  rw [upd_ne]
  · exact e
  · rintro rfl
    rw [h] at e
    cases e
    rw [hi] at i
    cases i
/-- all stands but what is at M -/
def But (M : List Addr) (H H' : Hp) : Prop := ∀ b o, H b = some o → b ∉ M → H' b = some o
theorem But.refl (M : List Addr) (H : Hp) : But M H H := fun _ _ h _ => h
theorem But.trans {M : List Addr} {H H1 H2 : Hp} (a : But M H H1) (b : But M H1 H2) : But M H H2 := fun c o h i => b c o (a c o h i) i
theorem But.of {M : List Addr} {H H' : Hp} (e : Same H H') : But M H H' := fun b o h _ => e b o h
theorem But.same {H H' : Hp} (e : But [] H H') : Same H H' := fun b o h => e b o h (by simp)
theorem But.upd {M : List Addr} {H : Hp} {l : Addr} {o : HO} (h : l ∈ M) : But M H (upd H l o) := fun b u e n => by
  have hb : b ≠ l := by
    rintro rfl
    exact n h
  rw [upd_ne hb]
  exact e
theorem But.mono {M M' : List Addr} {H H' : Hp} (e : But M H H') (h : ∀ m ∈ M, m ∈ M') : But M' H H' := fun b o q n => e b o q fun z => n (h b z)
theorem But.kp {M : List Addr} {H H' : Hp} (e : But M H H') (hm : ∀ m ∈ M, ∀ o, H m = some o → immO o = false) : Kp H H' := fun b o h i => e b o h fun z => by
  rw [hm b z o h] at i
  cases i
theorem kp_one {l : Addr} {xs : List V} {H H' : Hp} (e : But [l] H H') (h : H l = some (.lst xs)) : Kp H H' := e.kp fun m hm o q => by
  rw [List.mem_singleton.mp hm, h] at q
  cases q
  rfl
/-- what was not there at first does not count -/
theorem But.fresh {M : List Addr} {H H1 H2 : Hp} (e : Same H H1) (b : But M H1 H2) (hm : ∀ m ∈ M, H m = none) : Same H H2 := fun c o h => b c o (e c o h) fun z => by
  rw [hm c z] at h
  cases h
theorem Same.new {H : Hp} {p : Addr} {o : HO} (h : H p = none) : Same H (upd H p o) := fun a u e => by
  rw [upd_ne (ne_of_none e h)]
  exact e
/-- behind a store to an object that was not there at first -/
theorem Same.mut {H H' : Hp} {p : Addr} {o : HO} (e : Same H H') (h : H p = none) : Same H (upd H' p o) := fun a u ha => by
  rw [upd_ne (ne_of_none ha h)]
  exact e a u ha
mutual
/-- no lists in it -/
def D.fix : D → Bool
  | .lst _ => false
  | .tup ds => D.fixs ds
  | .ptup ds => D.fixs ds
  | .ob _ _ ds => D.fixs ds
  | _ => true
def D.fixs : List D → Bool
  | [] => true
  | d :: ds => d.fix && D.fixs ds
end
theorem D.fixs_iff {ds : List D} : D.fixs ds = true ↔ ∀ d ∈ ds, d.fix = true := by
  induction ds with
  | nil => simp [D.fixs]
  | cons d ds ih => simp [D.fixs, ih]
section
variable {K : Fg} {H H' : Hp}
theorem kp_t (e : Kp H H') {a : Addr} {xs : List V} (h : SqT K H a xs) : SqT K H' a xs := by
  rcases h with (h | ⟨o, h⟩) | h
  · exact .inl (.inl (e _ _ h rfl))
  · exact .inl (.inr ⟨o, e _ _ h rfl⟩)
  · exact .inr h
theorem same_t (e : Same H H') {a : Addr} {xs : List V} (h : SqT K H a xs) : SqT K H' a xs := kp_t (.of e) h
theorem same_l (e : Same H H') {a : Addr} {xs : List V} (h : SqL K H a xs) : SqL K H' a xs := e.seq h
mutual
theorem Dn.kp (e : Kp H H') : ∀ (d : D) (v : V), d.fix = true → Dn K H v d → Dn K H' v d
  | .non, _, _, h => by cases h; exact .non
  | .bl b, _, _, h => by cases h; exact .bl b
  | .int i, _, _, h => by cases h; exact .int i
  | .str x, _, _, h => by cases h; exact .str x
  | .lst _, _, f, _ => by cases f
  | .tup ds, _, f, h => by
    cases h with
    | tup hs ha => exact .tup (kp_t e hs) (Dns.kp e ds _ f ha)
  | .ptup ds, _, f, h => by
    cases h with
    | ptup hs ha =>
      obtain ⟨o, po, h⟩ := hs
      exact .ptup ⟨o, po, e _ _ h rfl⟩ (Dns.kp e ds _ f ha)
  | .ob C ns ds, _, f, h => by
    cases h with
    | ob ho hn ha => exact .ob (e _ _ ho rfl) hn (Dns.kp e ds _ f ha)
  | .adr a, _, _, h => by cases h; exact .adr a
theorem Dns.kp (e : Kp H H') : ∀ (ds : List D) (vs : List V), D.fixs ds = true → Dns K H vs ds → Dns K H' vs ds
  | [], _, _, h => by cases h; exact .nil
  | d :: ds, _, f, h => by
    cases h with
    | cons h1 h2 =>
      have f' : d.fix = true ∧ D.fixs ds = true := by simpa [D.fixs] using f
      exact .cons (Dn.kp e d _ f'.1 h1) (Dns.kp e ds _ f'.2 h2)
end
mutual
theorem Dn.same (e : Same H H') : ∀ (d : D) (v : V), Dn K H v d → Dn K H' v d
  | .non, _, h => by cases h; exact .non
  | .bl b, _, h => by cases h; exact .bl b
  | .int i, _, h => by cases h; exact .int i
  | .str x, _, h => by cases h; exact .str x
  | .lst ds, _, h => by
    cases h with
    | lst hs ha => exact .lst (e _ _ hs) (Dns.same e ds _ ha)
  | .tup ds, _, h => by
    cases h with
    | tup hs ha => exact .tup (same_t e hs) (Dns.same e ds _ ha)
  | .ptup ds, _, h => by
    cases h with
    | ptup hs ha =>
      obtain ⟨o, po, h⟩ := hs
      exact .ptup ⟨o, po, e _ _ h⟩ (Dns.same e ds _ ha)
  | .ob C ns ds, _, h => by
    cases h with
    | ob ho hn ha => exact .ob (e _ _ ho) hn (Dns.same e ds _ ha)
  | .adr a, _, h => by cases h; exact .adr a
theorem Dns.same (e : Same H H') : ∀ (ds : List D) (vs : List V), Dns K H vs ds → Dns K H' vs ds
  | [], _, h => by cases h; exact .nil
  | d :: ds, _, h => by
    cases h with
    | cons h1 h2 => exact .cons (Dn.same e d _ h1) (Dns.same e ds _ h2)
end
theorem Dn.up {v : V} {d : D} (h : Dn K H v d) (e : Same H H') : Dn K H' v d := Dn.same e d v h
theorem Dns.up {vs : List V} {ds : List D} (h : Dns K H vs ds) (e : Same H H') : Dns K H' vs ds := Dns.same e ds vs h
theorem Dn.keep {v : V} {d : D} (h : Dn K H v d) (e : Kp H H') (f : d.fix = true) : Dn K H' v d := Dn.kp e d v f h
theorem Dns.keep {vs : List V} {ds : List D} (h : Dns K H vs ds) (e : Kp H H') (f : D.fixs ds = true) : Dns K H' vs ds := Dns.kp e ds vs f h
theorem Dns.length : ∀ {vs : List V} {ds : List D}, Dns K H vs ds → vs.length = ds.length
  | _, _, .nil => rfl
  | _, _, .cons _ t => by simp [Dns.length t]
theorem Dns.app : ∀ {vs ws : List V} {ds es : List D}, Dns K H vs ds → Dns K H ws es → Dns K H (vs ++ ws) (ds ++ es)
  | _, _, _, _, .nil, h => h
  | _, _, _, _, .cons a t, h => .cons a (Dns.app t h)
theorem Dns.get : ∀ {vs : List V} {ds : List D} {i : Nat} {v : V}, Dns K H vs ds → vs[i]? = some v → ∃ d, ds[i]? = some d ∧ Dn K H v d
  | _, _, _, _, .nil, e => by simp at e
  | _, _, 0, _, .cons r _, e => by simp at e; subst e; exact ⟨_, rfl, r⟩
  | _, _, i + 1, x, .cons _ t, e => by
    obtain ⟨u, h1, h2⟩ := Dns.get (i := i) (v := x) t (by simpa using e)
    exact ⟨u, by simpa using h1, h2⟩
theorem Dns.getD : ∀ {vs : List V} {ds : List D} {i : Nat} {d : D}, Dns K H vs ds → ds[i]? = some d → ∃ v, vs[i]? = some v ∧ Dn K H v d
  | _, _, _, _, .nil, e => by simp at e
  | _, _, 0, _, .cons r _, e => by simp at e; subst e; exact ⟨_, rfl, r⟩
  | _, _, i + 1, x, .cons _ t, e => by
    obtain ⟨u, h1, h2⟩ := Dns.getD (i := i) (d := x) t (by simpa using e)
    exact ⟨u, by simpa using h1, h2⟩
theorem Dns.take : ∀ {vs : List V} {ds : List D} (n : Nat), Dns K H vs ds → Dns K H (vs.take n) (ds.take n)
  | _, _, 0, _ => .nil
  | _, _, _ + 1, .nil => .nil
  | _, _, n + 1, .cons r t => .cons r (Dns.take n t)
theorem Dns.drop : ∀ {vs : List V} {ds : List D} (n : Nat), Dns K H vs ds → Dns K H (vs.drop n) (ds.drop n)
  | _, _, 0, r => r
  | _, _, _ + 1, .nil => .nil
  | _, _, n + 1, .cons _ t => Dns.drop n t
theorem Dns.set {v : V} {d : D} (r : Dn K H v d) : ∀ {vs : List V} {ds : List D} (i : Nat), Dns K H vs ds → Dns K H (vs.set i v) (ds.set i d)
  | _, _, _, .nil => .nil
  | _, _, 0, .cons _ t => .cons r t
  | _, _, i + 1, .cons q t => .cons q (Dns.set r i t)
theorem Dns.of {α : Type} {f : α → V} {g : α → D} (h : ∀ a, Dn K H (f a) (g a)) : ∀ l : List α, Dns K H (l.map f) (l.map g)
  | [] => .nil
  | a :: l => .cons (h a) (Dns.of h l)
theorem Dns.one {v : V} {d : D} (h : Dn K H v d) : Dns K H [v] [d] := .cons h .nil

/-! ### to the library's data -/
mutual
def D.py : D → PyData
  | .non => .none
  | .bl b => .bool b
  | .int i => .int i
  | .str x => .str x
  | .lst ds => .list (D.pys ds)
  | .tup ds => .tuple (D.pys ds)
  | .ptup ds => .tuple (D.pys ds)
  | .ob _ _ _ => .none
  | .adr _ => .none
def D.pys : List D → List PyData
  | [] => []
  | d :: ds => d.py :: D.pys ds
end
mutual
/-- no instances in it -/
def D.pl : D → Bool
  | .lst ds => D.pls ds
  | .tup ds => D.pls ds
  | .ptup ds => D.pls ds
  | .ob _ _ _ => false
  | .adr _ => false
  | _ => true
def D.pls : List D → Bool
  | [] => true
  | d :: ds => d.pl && D.pls ds
end
theorem D.pys_map : ∀ ds : List D, D.pys ds = ds.map D.py
  | [] => rfl
  | d :: ds => by rw [D.pys, D.pys_map ds]; rfl
theorem D.pls_iff {ds : List D} : D.pls ds = true ↔ ∀ d ∈ ds, d.pl = true := by
  induction ds with
  | nil => simp [D.pls]
  | cons d ds ih => simp [D.pls, ih]
mutual
theorem Dn.dp : ∀ (d : D) (v : V), d.pl = true → Dn K H v d → Dp K H v d.py
  | .non, _, _, h => by cases h; exact .non
  | .bl b, _, _, h => by cases h; exact .bl b
  | .int i, _, _, h => by cases h; exact .int i
  | .str x, _, _, h => by cases h; exact .str x
  | .lst ds, _, f, h => by
    cases h with
    | lst hs ha => exact .lst (SqL.of hs) (Dns.dps ds _ f ha)
  | .tup ds, _, f, h => by
    cases h with
    | tup hs ha => exact .tup hs (Dns.dps ds _ f ha)
  | .ptup ds, _, f, h => by
    cases h with
    | ptup hs ha => exact .tup hs.sq (Dns.dps ds _ f ha)
  | .ob C ns ds, _, f, h => by cases f
  | .adr _, _, f, _ => by cases f
theorem Dns.dps : ∀ (ds : List D) (vs : List V), D.pls ds = true → Dns K H vs ds → DpAll K H vs (D.pys ds)
  | [], _, _, h => by cases h; exact .nil
  | d :: ds, _, f, h => by
    cases h with
    | cons h1 h2 =>
      have f' : d.pl = true ∧ D.pls ds = true := by simpa [D.pls] using f
      exact .cons (Dn.dp d _ f'.1 h1) (Dns.dps ds _ f'.2 h2)
end
end
end Cc

namespace Cc
open PySem L2
/-! what a reading gives, by data: an expression, a test, arguments, a new list -/
def GD (K : Fg) (te : TE) (σ : L2.St) (H : Hp) (d : D) : Prop := ∀ H1, Same H H1 → ∀ Q : VK, (∀ v H2, Same H1 H2 → Dn K H2 v d → Q v H2) → te σ H1 Q
def GT (tt : TT) (σ : L2.St) (H : Hp) (b : Bool) : Prop := ∀ H1, Same H H1 → ∀ Q : Bool → Hp → Prop, (∀ H2, Same H1 H2 → Q b H2) → tt σ H1 Q
def GA (K : Fg) (ta : TA) (σ : L2.St) (H : Hp) (ds : List D) : Prop := ∀ H1, Same H H1 → ∀ Q : List V → Hp → Prop, (∀ vs H2, Same H1 H2 → Dns K H2 vs ds → Q vs H2) → ta σ H1 Q
def GN (K : Fg) (te : TE) (σ : L2.St) (H : Hp) (ds : List D) : Prop := ∀ H1, Same H H1 → ∀ Q : VK, (∀ p xs H2, H1 p = none → Same H1 H2 → H2 p = some (.lst xs) → Dns K H2 xs ds → Q (.ref p) H2) → te σ H1 Q
/-- a part of a slice -/
def GO (to : TO) (σ : L2.St) (H : Hp) (o : Option Int) : Prop := ∀ H1, Same H H1 → ∀ Q : Option Int → Hp → Prop, (∀ H2, Same H1 H2 → Q o H2) → to σ H1 Q
/-- an operator, a one-place one, a call on values, by data -/
def R2D (K : Fg) (r : R2) (d e z : D) : Prop := ∀ x y H (Q : VK), Dn K H x d → Dn K H y e → (∀ v H2, Same H H2 → Dn K H2 v z → Q v H2) → r x y H Q
def R1D (K : Fg) (r : V → Hp → VK → Prop) (d z : D) : Prop := ∀ x H (Q : VK), Dn K H x d → (∀ v H2, Same H H2 → Dn K H2 v z → Q v H2) → r x H Q
def RCD (K : Fg) (r : List V → Hp → VK → Prop) (ds : List D) (z : D) : Prop := ∀ vs H (Q : VK), Dns K H vs ds → (∀ v H2, Same H H2 → Dn K H2 v z → Q v H2) → r vs H Q
def RMD (K : Fg) (r : V → List V → Hp → VK → Prop) (d : D) (ds : List D) (z : D) : Prop := ∀ x vs H (Q : VK), Dn K H x d → Dns K H vs ds → (∀ v H2, Same H H2 → Dn K H2 v z → Q v H2) → r x vs H Q
section
variable {K : Fg} {σ : L2.St} {H H' : Hp} {ta tb te : TE} {t u : TT} {d e z : D} {r : R2}
theorem GD.mono (a : Same H H') (h : GD K te σ H d) : GD K te σ H' d := fun H1 b Q q => h H1 (a.trans b) Q q
theorem GT.mono {b : Bool} (a : Same H H') (h : GT t σ H b) : GT t σ H' b := fun H1 c Q q => h H1 (a.trans c) Q q
theorem GA.mono {ta : TA} {ds : List D} (a : Same H H') (h : GA K ta σ H ds) : GA K ta σ H' ds := fun H1 c Q q => h H1 (a.trans c) Q q
theorem GN.mono {ds : List D} (a : Same H H') (h : GN K te σ H ds) : GN K te σ H' ds := fun H1 c Q q => h H1 (a.trans c) Q q
theorem GN.gd {ds : List D} (h : GN K te σ H ds) : GD K te σ H (.lst ds) := fun H1 a Q q => h H1 a Q fun p xs H2 _ e hp hd => q _ H2 e (.lst hp hd)
theorem GD.is (h : GD K te σ H d) (q : d = e) : GD K te σ H e := q ▸ h
theorem GT.is {b c : Bool} (h : GT t σ H b) (q : b = c) : GT t σ H c := q ▸ h
theorem GN.is {ds es : List D} (h : GN K te σ H ds) (q : ds = es) : GN K te σ H es := q ▸ h
theorem gd_var {i : Nat} {v : V} (h : σ[i]? = some (some v)) (hd : Dn K H v d) : GD K (tVar i) σ H d := fun H1 a Q q => ⟨v, h, q v H1 (Same.refl _) (hd.up a)⟩
theorem gd_c {v : V} (h : Dn K H v d) : GD K (tC v) σ H d := fun H1 a Q q => q v H1 (Same.refl _) (h.up a)
theorem gd_i {i : Int} : GD K (tC (.int i)) σ H (.int i) := gd_c (.int i)
theorem gd_s {x : Str} : GD K (tC (.str x)) σ H (.str x) := gd_c (.str x)
theorem gd_b {b : Bool} : GD K (tC (.bl b)) σ H (.bl b) := gd_c (.bl b)
theorem gd_n : GD K (tC .non) σ H .non := gd_c .non
theorem gd_op (ha : GD K ta σ H d) (hb : GD K tb σ H e) (hr : R2D K r d e z) : GD K (tOp r ta tb) σ H z := fun H1 a Q q =>
  ha H1 a _ fun x H2 a2 hx => hb H2 (a.trans a2) _ fun y H3 a3 hy => hr x y H3 Q (hx.up a3) hy fun v H4 a4 hv => q v H4 ((a2.trans a3).trans a4) hv
theorem gd_un {r : V → Hp → VK → Prop} (ha : GD K ta σ H d) (hr : R1D K r d z) : GD K (tUn r ta) σ H z := fun H1 a Q q =>
  ha H1 a _ fun x H2 a2 hx => hr x H2 Q hx fun v H4 a4 hv => q v H4 (a2.trans a4) hv
theorem ga_nil : GA K tNil σ H [] := fun H1 _ Q q => q [] H1 (Same.refl _) .nil
theorem ga_cons {tr : TA} {ds : List D} (ha : GD K ta σ H d) (hr : GA K tr σ H ds) : GA K (tCons ta tr) σ H (d :: ds) := fun H1 a Q q =>
  ha H1 a _ fun x H2 a2 hx => hr H2 (a.trans a2) _ fun xs H3 a3 hxs => q _ H3 (a2.trans a3) (.cons (hx.up a3) hxs)
theorem ga1 (ha : GD K ta σ H d) : GA K (tCons ta tNil) σ H [d] := ga_cons ha ga_nil
theorem ga2 (ha : GD K ta σ H d) (hb : GD K tb σ H e) : GA K (tCons ta (tCons tb tNil)) σ H [d, e] := ga_cons ha (ga1 hb)
theorem gd_cb {r : List V → Hp → VK → Prop} {ta : TA} {ds : List D} (ha : GA K ta σ H ds) (hr : RCD K r ds z) : GD K (tCB r ta) σ H z := fun H1 a Q q =>
  ha H1 a _ fun x H2 a2 hx => hr x H2 Q hx fun v H4 a4 hv => q v H4 (a2.trans a4) hv
theorem gd_tup {ta : TA} {ds : List D} (ha : GA K ta σ H ds) (hl : ds.length ≤ 100000) : GD K (tTup ta) σ H (.tup ds) := fun H1 a Q q =>
  ha H1 a _ fun x H2 a2 hx => ⟨by rw [hx.length, sizeLine_eq]; omega, fun p hp => q _ _ (a2.trans (Same.new hp)) (.tup (SqT.of upd_same) (hx.up (Same.new hp)))⟩
theorem gn_lst {ta : TA} {ds : List D} (ha : GA K ta σ H ds) (hl : ds.length ≤ 100000) : GN K (tLst ta) σ H ds := fun H1 a Q q =>
  ha H1 a _ fun x H2 a2 hx => ⟨by rw [hx.length, sizeLine_eq]; omega, fun p hp => q p x _ (a2.free hp) (a2.trans (Same.new hp)) upd_same (hx.up (Same.new hp))⟩
/-! tests -/
theorem gt_test {b : Bool} (h : GD K te σ H (.bl b)) : GT (tTest te) σ H b := fun H1 a Q q => h H1 a _ fun v H2 a2 hv => by
  cases hv
  exact ⟨b, rfl, q H2 a2⟩
theorem gt_B {b : Bool} (h : GD K te σ H (.bl b)) : GT (tB te) σ H b := fun H1 a Q q => h H1 a _ fun v H2 a2 hv => by
  cases hv
  exact ⟨b, rfl, q H2 a2⟩
theorem gt_and {a b : Bool} (h1 : GT t σ H a) (h2 : a = true → GT u σ H b) : GT (tAnd t u) σ H (a && b) := fun H1 c Q q => h1 H1 c _ fun H2 c2 => by
  cases a with
  | true => exact (if_pos rfl).mpr (h2 rfl H2 (c.trans c2) Q fun H3 c3 => q H3 (c2.trans c3))
  | false => exact (if_neg Bool.false_ne_true).mpr (q H2 c2)
theorem gt_or {a b : Bool} (h1 : GT t σ H a) (h2 : a = false → GT u σ H b) : GT (tOr t u) σ H (a || b) := fun H1 c Q q => h1 H1 c _ fun H2 c2 => by
  cases a with
  | true => exact (if_pos rfl).mpr (q H2 c2)
  | false => exact (if_neg Bool.false_ne_true).mpr (h2 rfl H2 (c.trans c2) Q fun H3 c3 => q H3 (c2.trans c3))
theorem gt_not {a : Bool} (h1 : GT t σ H a) : GT (tNot t) σ H (!a) := fun H1 c Q q => h1 H1 c _ fun H2 c2 => q H2 c2
theorem gd_and {a b : Bool} (h1 : GD K ta σ H (.bl a)) (h2 : a = true → GD K tb σ H (.bl b)) : GD K (tAndV ta tb) σ H (.bl (a && b)) := fun H1 c Q q => h1 H1 c _ fun v H2 c2 hv => by
  cases hv
  refine ⟨a, rfl, ?_⟩
  cases a with
  | true => exact (if_pos rfl).mpr (h2 rfl H2 (c.trans c2) Q fun v H3 c3 => q v H3 (c2.trans c3))
  | false => exact (if_neg Bool.false_ne_true).mpr (q _ H2 c2 (.bl _))
theorem gd_or {a b : Bool} (h1 : GD K ta σ H (.bl a)) (h2 : a = false → GD K tb σ H (.bl b)) : GD K (tOrV ta tb) σ H (.bl (a || b)) := fun H1 c Q q => h1 H1 c _ fun v H2 c2 hv => by
  cases hv
  refine ⟨a, rfl, ?_⟩
  cases a with
  | true => exact (if_pos rfl).mpr (q _ H2 c2 (.bl _))
  | false => exact (if_neg Bool.false_ne_true).mpr (h2 rfl H2 (c.trans c2) Q fun v H3 c3 => q v H3 (c2.trans c3))
theorem gd_not {a : Bool} (h1 : GD K ta σ H (.bl a)) : GD K (tNotV ta) σ H (.bl (!a)) := fun H1 c Q q => h1 H1 c _ fun v H2 c2 hv => by
  cases hv
  exact ⟨a, rfl, q _ H2 c2 (.bl _)⟩
theorem gd_if {b : Bool} (h : GT t σ H b) (h1 : b = true → GD K ta σ H d) (h2 : b = false → GD K tb σ H d) : GD K (tIf t ta tb) σ H d := fun H1 c Q q => h H1 c _ fun H2 c2 => by
  cases b with
  | true => exact (if_pos rfl).mpr (h1 rfl H2 (c.trans c2) Q fun v H3 c3 => q v H3 (c2.trans c3))
  | false => exact (if_neg Bool.false_ne_true).mpr (h2 rfl H2 (c.trans c2) Q fun v H3 c3 => q v H3 (c2.trans c3))
/-! operators -/
theorem r_int {g : Int → Int → Int} {i j : Int} : R2D K (rI0 fun i j => .int (g i j)) (.int i) (.int j) (.int (g i j)) := fun x y H Q hx hy q => by
  cases hx; cases hy
  exact ⟨i, j, rfl, rfl, q _ H (Same.refl _) (.int _)⟩
theorem r_intB {g : Int → Int → Bool} {i j : Int} : R2D K (rI0 fun i j => .bl (g i j)) (.int i) (.int j) (.bl (g i j)) := fun x y H Q hx hy q => by
  cases hx; cases hy
  exact ⟨i, j, rfl, rfl, q _ H (Same.refl _) (.bl _)⟩
theorem r_intC {C : Int → Int → Prop} {g : Int → Int → Int} {i j : Int} (hc : C i j) : R2D K (rI C fun i j => .int (g i j)) (.int i) (.int j) (.int (g i j)) := fun x y H Q hx hy q => by
  cases hx; cases hy
  exact ⟨i, j, rfl, rfl, hc, q _ H (Same.refl _) (.int _)⟩
/-- == by data -/
def D.eqv (d e : D) : Bool := PyData.eqv d.py e.py
def D.shp (d : D) : Bool := SeqAt.shaped d.py
theorem r_eq (p1 : d.pl = true) (p2 : e.pl = true) (s1 : d.shp = true) (s2 : e.shp = true) : R2D K (rEqD K) d e (.bl (d.eqv e)) := fun x y H Q hx hy q =>
  ⟨d.py, e.py, hx.dp d x p1, hy.dp e y p2, s1, s2, q _ H (Same.refl _) (.bl _)⟩
theorem r_ne (p1 : d.pl = true) (p2 : e.pl = true) (s1 : d.shp = true) (s2 : e.shp = true) : R2D K (rNeD K) d e (.bl (!d.eqv e)) := fun x y H Q hx hy q =>
  ⟨d.py, e.py, hx.dp d x p1, hy.dp e y p2, s1, s2, q _ H (Same.refl _) (.bl _)⟩
theorem r_isN : R2D K (fun x y H Q => y = .non ∧ Q (.bl (decide (x = .non))) H) d .non (.bl (match d with | .non => true | _ => false)) := fun x y H Q hx hy q => by
  cases hy
  refine ⟨rfl, q _ H (Same.refl _) ?_⟩
  cases hx <;> first | exact .bl _ | (simp; exact .bl _)
theorem r_notN : R2D K (fun x y H Q => y = .non ∧ Q (.bl (!decide (x = .non))) H) d .non (.bl (match d with | .non => false | _ => true)) := fun x y H Q hx hy q => by
  cases hy
  refine ⟨rfl, q _ H (Same.refl _) ?_⟩
  cases hx <;> first | exact .bl _ | (simp; exact .bl _)
/-- an item of a list, of a tuple -/
theorem r_ixT {ds : List D} {i : Int} (h : atI ds i = some z) : R2D K (rIxT K) (.tup ds) (.int i) z := fun x y H Q hx hy q => by
  cases hy
  cases hx with
  | @tup a xs ds hs ha =>
    have hl := ha.length
    unfold atI at h
    cases hj : ixN ds.length i with
    | none => rw [hj] at h; cases h
    | some j =>
      rw [hj] at h
      obtain ⟨v, hv, hd⟩ := ha.getD (i := j) h
      exact ⟨a, xs, i, v, rfl, rfl, hs, by unfold atI; rw [hl, hj]; exact hv, q v H (Same.refl _) hd⟩
theorem r_ixL {ds : List D} {i : Int} (h : atI ds i = some z) : R2D K (rIxL K) (.lst ds) (.int i) z := fun x y H Q hx hy q => by
  cases hy
  cases hx with
  | @lst a xs ds hs ha =>
    have hl := ha.length
    unfold atI at h
    cases hj : ixN ds.length i with
    | none => rw [hj] at h; cases h
    | some j =>
      rw [hj] at h
      obtain ⟨v, hv, hd⟩ := ha.getD (i := j) h
      exact ⟨a, xs, i, v, rfl, rfl, SqL.of hs, by unfold atI; rw [hl, hj]; exact hv, q v H (Same.refl _) hd⟩
theorem r_ixS {w : Str} {i : Int} {c : Nat} (h : w.length ≤ 100000) (ha : atI w.cps.toList i = some c) : R2D K rIxS (.str w) (.int i) (.str ⟨#[c]⟩) := fun x y H Q hx hy q => by
  cases hx; cases hy
  exact ⟨w, i, c, rfl, rfl, by rw [sizeLine_eq]; omega, ha, q _ H (Same.refl _) (.str _)⟩
theorem r_or1 {r' : R2} (h : R2D K r d e z) : R2D K (fun x y H Q => r x y H Q ∨ r' x y H Q) d e z := fun x y H Q hx hy q => .inl (h x y H Q hx hy q)
theorem r_or2 {r' : R2} (h : R2D K r' d e z) : R2D K (fun x y H Q => r x y H Q ∨ r' x y H Q) d e z := fun x y H Q hx hy q => .inr (h x y H Q hx hy q)
theorem r_ix_l {ds : List D} {i : Int} (h : atI ds i = some z) : R2D K (rIx K) (.lst ds) (.int i) z := fun x y H Q hx hy q => .inl (r_ixL h x y H Q hx hy q)
theorem r_ix_t {ds : List D} {i : Int} (h : atI ds i = some z) : R2D K (rIx K) (.tup ds) (.int i) z := fun x y H Q hx hy q => .inr (.inl (r_ixT h x y H Q hx hy q))
theorem r_ix_s {w : Str} {i : Int} {c : Nat} (h : w.length ≤ 100000) (ha : atI w.cps.toList i = some c) : R2D K (rIx K) (.str w) (.int i) (.str ⟨#[c]⟩) := fun x y H Q hx hy q => .inr (.inr (r_ixS h ha x y H Q hx hy q))
/-- + of lists, of tuples; * of a list -/
theorem r_catL {ds es : List D} (h : ds.length + es.length ≤ 100000) : R2D K rCat (.lst ds) (.lst es) (.lst (ds ++ es)) := fun x y H Q hx hy q => by
  cases hx with
  | @lst a xs _ hs ha =>
    cases hy with
    | @lst b ys _ hs2 hb =>
      exact ⟨a, b, xs, ys, rfl, rfl, hs, hs2, by rw [ha.length, hb.length, sizeLine_eq]; omega, fun p hp => q _ _ (Same.new hp) (.lst upd_same ((ha.app hb).up (Same.new hp)))⟩
theorem r_catT {ds es : List D} (h : ds.length + es.length ≤ 100000) : R2D K (rCatA K) (.tup ds) (.tup es) (.tup (ds ++ es)) := fun x y H Q hx hy q => by
  cases hx with
  | @tup a xs _ hs ha =>
    cases hy with
    | @tup b ys _ hs2 hb =>
      refine ⟨a, b, xs, ys, rfl, rfl, hs, hs2, by rw [ha.length, hb.length, sizeLine_eq]; omega, fun e => ?_, fun _ e => ?_, fun _ _ p hp => q _ _ (Same.new hp) (.tup (SqT.of upd_same) ((ha.app hb).up (Same.new hp)))⟩
      · subst e
        cases ha
        exact q _ H (Same.refl _) (.tup hs2 hb)
      · subst e
        cases hb
        rw [List.append_nil] at q
        exact q _ H (Same.refl _) (.tup hs ha)
theorem Dns.rep {H : Hp} {vs : List V} {ds : List D} (h : Dns K H vs ds) : ∀ k : Nat, Dns K H (List.replicate k vs).flatten (List.replicate k ds).flatten
  | 0 => .nil
  | k + 1 => by
    rw [List.replicate_succ, List.replicate_succ, List.flatten_cons, List.flatten_cons]
    exact h.app (Dns.rep h k)
end
end Cc

namespace Cc
open PySem L2
section
variable {K : Fg} {σ : L2.St} {H H' : Hp} {ta tb te : TE} {t u : TT} {d e z : D} {r : R2} {E : Ends} {tu tw tz : TS}
/-! statements -/
theorem s_asg {i : Nat} (h : GD K te σ H d) (k : ∀ v H1, Same H H1 → Dn K H1 v d → E.nx (σ.set i (some v)) H1) : tAsg te (gName i) E σ H := h H (Same.refl _) _ fun v H1 e hv => k v H1 e hv
theorem s_asgN {i : Nat} {ds : List D} (h : GN K te σ H ds) (k : ∀ p xs H1, H p = none → Same H H1 → H1 p = some (.lst xs) → Dns K H1 xs ds → E.nx (σ.set i (some (.ref p))) H1) : tAsg te (gName i) E σ H :=
  h H (Same.refl _) _ fun p xs H1 hp e h1 hd => k p xs H1 hp e h1 hd
theorem s_ret (h : GD K te σ H d) (k : ∀ v H1, Same H H1 → Dn K H1 v d → E.rt v H1) : tRet te E σ H := h H (Same.refl _) _ fun v H1 e hv => k v H1 e hv
theorem s_if {b : Bool} (h : GT t σ H b) (h1 : b = true → ∀ H1, Same H H1 → tu E σ H1) (h2 : b = false → ∀ H1, Same H H1 → tw E σ H1) : tIfS t tu tw E σ H := h H (Same.refl _) _ fun H1 e => by
  cases b with
  | true => exact (if_pos rfl).mpr (h1 rfl H1 e)
  | false => exact (if_neg Bool.false_ne_true).mpr (h2 rfl H1 e)
/-- an if without an else -/
theorem s_when {b : Bool} (h : GT t σ H b) (h1 : b = true → ∀ H1, Same H H1 → tu E σ H1) (h2 : b = false → ∀ H1, Same H H1 → E.nx σ H1) : tIfS t tu tNext E σ H := s_if h h1 h2
theorem s_drop (h : GD K te σ H d) (k : ∀ H1, Same H H1 → E.nx σ H1) : tDrop te E σ H := h H (Same.refl _) _ fun v H1 e hv => k H1 e
theorem s_par {i j : Nat} {ta : TA} (h : GA K ta σ H [d, e]) (k : ∀ v w H1, Same H H1 → Dn K H1 v d → Dn K H1 w e → E.nx ((σ.set i (some v)).set j (some w)) H1) : tPar i j ta E σ H :=
  h H (Same.refl _) _ fun vs H1 q hv => by
    cases hv with
    | cons h1 h2 =>
      cases h2 with
      | cons h2 h3 =>
        cases h3
        exact ⟨_, _, rfl, k _ _ H1 q h1 h2⟩
/-- xs.append(e), xs a list of one's own -/
theorem s_app {l : Addr} {xs : List V} (hl : H l = some (.lst xs)) (ha : ∀ H1, Same H H1 → ∀ Q : VK, Q (.ref l) H1 → ta σ H1 Q) (h : GD K te σ H d) (hz : xs.length < 100000)
    (k : ∀ v H1, Same H H1 → Dn K H1 v d → E.nx σ (upd H1 l (.lst (xs ++ [v])))) : tDrop (tBM K "list" rAppend ta (tCons te tNil)) E σ H :=
  ha H (Same.refl _) _ ⟨Or.inl ⟨rfl, xs, SqL.of hl⟩, h H (Same.refl _) _ fun v H2 e2 hv => ⟨l, xs, v, rfl, rfl, e2 l _ hl, by rw [sizeLine_eq]; omega, k v H2 e2 hv⟩⟩
theorem at_var {i : Nat} {v : V} (h : σ[i]? = some (some v)) : ∀ H1, Same H H1 → ∀ Q : VK, Q v H1 → tVar i σ H1 Q := fun H1 _ Q q => ⟨v, h, q⟩
/-! promises -/
/-- what is handed back denotes d, all that stood stands -/
def Ret (K : Fg) (d : D) (H : Hp) (Q : VK) : Prop := ∀ v H', Same H H' → Dn K H' v d → Q v H'
theorem Ret.up {Q : VK} (h : Ret K d H Q) (e : Same H H') : Ret K d H' Q := fun v H2 e2 hv => h v H2 (e.trans e2) hv
def spOf {α : Type} (K : Fg) (args : α → List D) (pre : α → Prop) (res : α → D) : Sp := fun vs H Q _ => ∃ a, Dns K H vs (args a) ∧ pre a ∧ Ret K (res a) H Q
/-- return e -/
theorem s_retK (k : Ret K d H E.rt) (h : GD K te σ H d) : tRet te E σ H := s_ret h k
theorem gd_call {α : Type} {args : α → List D} {pre : α → Prop} {res : α → D} {X : XK} {ta : TA} (a : α) (h : GA K ta σ H (args a)) (hp : pre a) {z : D} (hz : res a = z := by rfl) : GD K (tCall (spOf K args pre res) [] X ta) σ H z := fun H1 e Q q =>
  h H1 e _ fun vs H2 e2 hv => ⟨a, by rw [List.append_nil]; exact hv, hp, fun v H3 e3 hd => q v H3 (e2.trans e3) (hz ▸ hd)⟩
/-- .. a new list -/
def RetN (K : Fg) (ds : List D) (H : Hp) (Q : VK) : Prop := ∀ p xs H', H p = none → Same H H' → H' p = some (.lst xs) → Dns K H' xs ds → Q (.ref p) H'
def spNew {α : Type} (K : Fg) (args : α → List D) (pre : α → Prop) (res : α → List D) : Sp := fun vs H Q _ => ∃ a, Dns K H vs (args a) ∧ pre a ∧ RetN K (res a) H Q
theorem gn_call {α : Type} {args : α → List D} {pre : α → Prop} {res : α → List D} {X : XK} {ta : TA} (a : α) (h : GA K ta σ H (args a)) (hp : pre a) {z : List D} (hz : res a = z := by rfl) : GN K (tCall (spNew K args pre res) [] X ta) σ H z := fun H1 e Q q =>
  h H1 e _ fun vs H2 e2 hv => ⟨a, by rw [List.append_nil]; exact hv, hp, fun p xs H3 hn e3 h3 hd => q p xs H3 (e2.free hn) (e2.trans e3) h3 (hz ▸ hd)⟩
/-! what is walked -/
def GI (K : Fg) (M : List Addr) (wi : TI) (σ : L2.St) (H : Hp) (ds : List D) : Prop := ∀ R : It → Hp → Prop,
  (∀ (J : It) (G : Hp → Prop) (Y : Nat → Hp → V → Hp → Prop) (H2 : Hp), Same H H2 → Walk J ds.length G Y → (∀ H', But M H2 H' → G H') →
    (∀ i Ha x Hb, i < ds.length → But M H2 Ha → Y i Ha x Hb → Same Ha Hb ∧ ∃ d, ds[i]? = some d ∧ Dn K Hb x d) → R J H2) → wi σ H R
/-- all at M are lists -/
def Ls (M : List Addr) (H : Hp) : Prop := ∀ m ∈ M, ∃ xs, H m = some (.lst xs)
theorem Ls.kp {M : List Addr} {H1 : Hp} (h : Ls M H) (e : Same H H1) (b : But M H1 H') : Kp H1 H' := b.kp fun m hm o q => by
  obtain ⟨xs, hx⟩ := h m hm
  rw [e _ _ hx] at q
  cases q
  rfl
theorem ls_nil : Ls [] H := fun m hm => absurd hm (by simp)
theorem ls_one {l : Addr} {xs : List V} (h : H l = some (.lst xs)) : Ls [l] H := fun m hm => ⟨xs, by rw [List.mem_singleton.mp hm]; exact h⟩
theorem gi_range1 {M : List Addr} {ta : TA} {n : Int} (h : GA K ta σ H [.int n]) (h0 : -(2 ^ 62) ≤ n) (hn : n < 2 ^ 62) : GI K M (iRng1 ta) σ H ((List.range n.toNat).map fun i => D.int (i : Nat)) := fun R q =>
  h H (Same.refl _) _ fun vs H2 e2 hv => by
    cases hv with
    | cons h1 h2 =>
      cases h2
      cases h1
      refine ⟨n, rfl, h0, hn, q _ (fun _ => True) (YFn fun i => .int (0 + i)) H2 e2 (by simpa using walk_range (lo := 0) (n := n.toNat)) (fun _ _ => True.intro) fun i Ha x Hb hi _ y => ?_⟩
      obtain ⟨e, y⟩ := y
      subst e y
      refine ⟨Same.refl _, .int (i : Nat), ?_, ?_⟩
      · have hi' : i < n.toNat := by simpa using hi
        simp [hi']
      · have e0 : (0 : Int) + (i : Nat) = (i : Nat) := Int.zero_add _
        show Dn K Hb (V.int (0 + (i : Nat))) _
        rw [e0]
        exact .int _
theorem gi_tup {M : List Addr} {tl : TE} {ds : List D} (h : GD K tl σ H (.tup ds)) (hM : Ls M H) (hf : D.fixs ds = true) : GI K M (iTup K tl) σ H ds := fun R q =>
  h H (Same.refl _) _ fun v H2 e2 hv => by
    cases hv with
    | @tup a xs ds hs ha =>
      refine ⟨a, rfl, ⟨xs, hs⟩, q _ _ _ H2 e2 (by rw [← ha.length]; exact walk_tup) (fun H' b => kp_t (hM.kp e2 b) hs) fun i Ha x Hb hi b y => ?_⟩
      obtain ⟨e, y⟩ := y
      subst e
      obtain ⟨d, h1, h2⟩ := ha.get y
      exact ⟨Same.refl _, d, h1, h2.keep (hM.kp e2 b) (D.fixs_iff.mp hf d (List.mem_of_getElem? h1))⟩
/-- a list that nobody changes: one that stood, apart from M -/
theorem gi_list {M : List Addr} {tl : TE} {ds : List D} {a : Addr} (h : ∀ Q : VK, Q (.ref a) H → tl σ H Q) (hd : Dn K H (.ref a) (.lst ds)) (ha : a ∉ M) (hM : Ls M H) (hf : D.fixs ds = true) : GI K M (iList K tl) σ H ds := fun R q =>
  h _ (by
    cases hd with
    | @lst a xs ds hs hx =>
      refine ⟨a, rfl, ⟨xs, SqL.of hs⟩, q _ _ _ H (Same.refl _) (by rw [← hx.length]; exact walk_list) (fun H' b => SqL.of (b _ _ hs ha)) fun i Ha x Hb hi b y => ?_⟩
      obtain ⟨e, y⟩ := y
      subst e
      obtain ⟨d, h1, h2⟩ := hx.get y
      exact ⟨Same.refl _, d, h1, h2.keep (hM.kp (Same.refl _) b) (D.fixs_iff.mp hf d (List.mem_of_getElem? h1))⟩)
/-- a new list -/
theorem gi_new {M : List Addr} {tl : TE} {ds : List D} (h : GN K tl σ H ds) (hM : Ls M H) (hf : D.fixs ds = true) : GI K M (iList K tl) σ H ds := fun R q =>
  h H (Same.refl _) _ fun a xs H2 hn e2 hs hx => by
    have ha : a ∉ M := fun z => by
      obtain ⟨ys, hy⟩ := hM a z
      rw [hn] at hy
      cases hy
    refine ⟨a, rfl, ⟨xs, SqL.of hs⟩, q _ _ _ H2 e2 (by rw [← hx.length]; exact walk_list) (fun H' b => SqL.of (b _ _ hs ha)) fun i Ha x Hb hi b y => ?_⟩
    obtain ⟨e, y⟩ := y
    subst e
    obtain ⟨d, h1, h2⟩ := hx.get y
    exact ⟨Same.refl _, d, h1, h2.keep (hM.kp e2 b) (D.fixs_iff.mp hf d (List.mem_of_getElem? h1))⟩
/-- .. in a comprehension: any list -/
theorem gi_listC {tl : TE} {ds : List D} (h : GD K tl σ H (.lst ds)) : GI K [] (iList K tl) σ H ds := fun R q =>
  h H (Same.refl _) _ fun v H2 e2 hv => by
    cases hv with
    | @lst a xs ds hs hx =>
      refine ⟨a, rfl, ⟨xs, SqL.of hs⟩, q _ _ _ H2 e2 (by rw [← hx.length]; exact walk_list) (fun H' b => SqL.of (b _ _ hs (by simp))) fun i Ha x Hb hi b y => ?_⟩
      obtain ⟨e, y⟩ := y
      subst e
      obtain ⟨d, h1, h2⟩ := hx.get y
      exact ⟨Same.refl _, d, h1, h2.up b.same⟩
theorem gi_tupC {tl : TE} {ds : List D} (h : GD K tl σ H (.tup ds)) : GI K [] (iTup K tl) σ H ds := fun R q =>
  h H (Same.refl _) _ fun v H2 e2 hv => by
    cases hv with
    | @tup a xs ds hs hx =>
      refine ⟨a, rfl, ⟨xs, hs⟩, q _ _ _ H2 e2 (by rw [← hx.length]; exact walk_tup) (fun H' b => same_t b.same hs) fun i Ha x Hb hi b y => ?_⟩
      obtain ⟨e, y⟩ := y
      subst e
      obtain ⟨d, h1, h2⟩ := hx.get y
      exact ⟨Same.refl _, d, h1, h2.up b.same⟩
/-- the signs of a text -/
def signs (x : Str) : List D := x.cps.toList.map fun c => D.str ⟨#[c]⟩
theorem gi_str {M : List Addr} {tl : TE} {x : Str} (h : GD K tl σ H (.str x)) : GI K M (iStr tl) σ H (signs x) := fun R q =>
  h H (Same.refl _) _ fun v H2 e2 hv => by
    cases hv
    refine ⟨x, rfl, q _ _ _ H2 e2 (by simpa [signs] using walk_str (z := x)) (fun _ _ => True.intro) fun i Ha w Hb hi b y => ?_⟩
    obtain ⟨e, c, hc, hw⟩ := y
    subst e hw
    refine ⟨Same.refl _, .str ⟨#[c]⟩, ?_, .str _⟩
    unfold signs
    rw [List.getElem?_map, Array.getElem?_toList, hc]
    rfl
/-- a comprehension -/
theorem gn_lc {wi : TI} {j : Nat} {vs : List Nat} {ds : List D} (f : D → Bool) (g : D → D) (h : ∀ H1, Same H H1 → GI K [] wi σ H1 ds) (hz : ds.length ≤ 50000)
    (hw : ∀ x, wipe ((wipe σ vs).set j (some x)) vs = wipe σ vs) (hf : ∀ d ∈ ds, f d = true → (g d).fix = true)
    (ht : ∀ d x H1, d ∈ ds → Same H H1 → Dn K H1 x d → GT t ((wipe σ vs).set j (some x)) H1 (f d))
    (he : ∀ d x H1, d ∈ ds → Same H H1 → Dn K H1 x d → f d = true → GD K te ((wipe σ vs).set j (some x)) H1 (g d)) : GN K (tLc wi (gName j) t te vs) σ H ((ds.filter f).map g) := fun H1 e1 Q q => by
  refine h H1 e1 _ fun J G Y H2 e2 w hG hY => ?_
  intro Dl hD
  have fx : ∀ l : List D, (∀ d ∈ l, d ∈ ds) → D.fixs ((l.filter f).map g) = true := fun l hl => D.fixs_iff.mpr fun d hd => by
    obtain ⟨c, hc, rfl⟩ := List.mem_map.mp hd
    have hc' := List.mem_filter.mp hc
    exact hf c (hl c hc'.1) hc'.2
  refine lc_it w (fun i H' => Same H2 H' ∧ ∃ acc, H' Dl = some (.lst acc) ∧ Dns K H' acc (((ds.take i).filter f).map g)) ⟨Same.new hD, [], upd_same, by simpa using Dns.nil⟩ (fun i H' _ p => hG H' (.of p.1)) (fun i x Ha Hb hi p y => ?_) (fun H' p => ?_)
  · obtain ⟨p1, acc, p2, p3⟩ := p
    obtain ⟨eb, d, hd, hx⟩ := hY i Ha x Hb hi (.of p1) y
    have hm : d ∈ ds := List.mem_of_getElem? hd
    have e2b : Same H2 Hb := p1.trans eb
    have eHb : Same H Hb := (e1.trans e2).trans e2b
    have htk : ds.take (i + 1) = ds.take i ++ [d] := by
      rw [List.take_add_one, hd]
      rfl
    refine ⟨hw x, ht d x Hb hm eHb hx Hb (Same.refl _) _ fun H3 e3 => ?_⟩
    cases hfd : f d with
    | false =>
      refine (if_neg Bool.false_ne_true).mpr ⟨e2b.trans e3, acc, e3 _ _ (eb _ _ p2), ?_⟩
      rw [htk, List.filter_append, List.filter_cons, if_neg (by rw [hfd]; simp), List.filter_nil, List.append_nil]
      exact p3.up (eb.trans e3)
    | true =>
      refine (if_pos rfl).mpr (he d x Hb hm eHb hx hfd H3 e3 _ fun y H4 e4 hy => ⟨acc, e4 _ _ (e3 _ _ (eb _ _ p2)), ?_, ?_⟩)
      · have := p3.length
        have h2 : ((List.filter f (ds.take i)).map g).length ≤ ds.length := by
          rw [List.length_map]
          exact Nat.le_trans (List.length_filter_le _ _) (by rw [List.length_take]; omega)
        rw [sizeLine_eq]
        omega
      · have hDl : H4 Dl = some (.lst acc) := e4 _ _ (e3 _ _ (eb _ _ p2))
        refine ⟨Same.mut ((e2b.trans e3).trans e4) hD, acc ++ [y], upd_same, ?_⟩
        rw [htk, List.filter_append, List.map_append, List.filter_cons, if_pos hfd, List.filter_nil]
        refine Dns.app ((p3.up ((eb.trans e3).trans e4)).keep (Kp.upd hDl rfl) (fx _ fun d hd => List.mem_of_mem_take hd)) (.cons (hy.keep (Kp.upd hDl rfl) (hf d hm hfd)) .nil)
  · obtain ⟨p1, acc, p2, p3⟩ := p
    rw [List.take_length] at p3
    exact q Dl acc H' (e2.free hD) (e2.trans p1) p2 p3
/-- .. without a test -/
theorem gn_map {wi : TI} {j : Nat} {vs : List Nat} {ds : List D} (g : D → D) (h : ∀ H1, Same H H1 → GI K [] wi σ H1 ds) (hz : ds.length ≤ 50000)
    (hw : ∀ x, wipe ((wipe σ vs).set j (some x)) vs = wipe σ vs) (hf : ∀ d ∈ ds, (g d).fix = true)
    (he : ∀ d x H1, d ∈ ds → Same H H1 → Dn K H1 x d → GD K te ((wipe σ vs).set j (some x)) H1 (g d)) : GN K (tLc wi (gName j) tYes te vs) σ H (ds.map g) := by
  have h' := gn_lc (K := K) (t := tYes) (te := te) (σ := σ) (H := H) (fun _ => true) g h hz hw (fun d hd _ => hf d hd) (fun d x H1 _ _ _ H2 _ Q q => q H2 (Same.refl _)) (fun d x H1 hd e hx _ => he d x H1 hd e hx)
  have e : ds.filter (fun _ => true) = ds := List.filter_eq_self.mpr fun _ _ => rfl
  rw [e] at h'
  exact h'
/-- a for: what holds between the turns may be told by the heap at the loop's start -/
theorem s_for {M : List Addr} {wi : TI} {g : TG} {ds : List D} (h : GI K M wi σ H ds)
    (k : ∀ H2, Same H H2 → ∃ Pv : Nat → L2.St → Hp → Prop, Pv 0 σ H2 ∧ (∀ i σ' H', Pv i σ' H' → But M H2 H') ∧ (∀ i σ' H' H'', Same H' H'' → Pv i σ' H' → Pv i σ' H'') ∧
      (∀ i d x σ' H', ds[i]? = some d → Dn K H' x d → Pv i σ' H' → g x σ' H' fun σ2 H3 => tu { E with nx := Pv (i + 1), ct := Pv (i + 1), bk := E.nx } σ2 H3) ∧ (∀ σ' H', Pv ds.length σ' H' → E.nx σ' H')) : tFor wi g tu E σ H :=
  h _ fun J G Y H2 e2 w hG hY => by
    obtain ⟨Pv, k0, kb, hP, ks, kd⟩ := k H2 e2
    refine for_it w Pv k0 (fun i σ' H' hi p => hG H' (kb i σ' H' p)) (fun i x σ' Ha Hb hi p y => ?_) kd
    obtain ⟨eb, d, hd, hx⟩ := hY i Ha x Hb hi (kb i σ' Ha p) y
    exact ks i d x σ' Hb hd hx (hP i σ' Ha Hb eb p)
/-- a while, by a word that falls -/
theorem s_while (W : Nat → L2.St → Hp → Prop) (m0 : Nat) (h0 : W m0 σ H)
    (hs : ∀ m σ' H', W m σ' H' → ∃ b, GT t σ' H' b ∧ (b = true → ∀ H1, Same H' H1 → ∃ N : L2.St → Hp → Prop, (∀ σ2 H2, N σ2 H2 → ∃ m', m' < m ∧ W m' σ2 H2) ∧ tu { E with nx := N, ct := N, bk := E.nx } σ' H1) ∧
      (b = false → ∀ H1, Same H' H1 → E.nx σ' H1)) : tWhile t tu E σ H :=
  ⟨W, ⟨m0, h0⟩, fun m σ' H' hw => by
    obtain ⟨b, hb, h1, h2⟩ := hs m σ' H' hw
    refine hb H' (Same.refl _) _ fun H1 e => ?_
    cases b with
    | true => exact (if_pos rfl).mpr (h1 rfl H1 e)
    | false => exact (if_neg Bool.false_ne_true).mpr (h2 rfl H1 e)⟩
end
end Cc

namespace Cc
open PySem L2
/-- what len says of it -/
def D.len : D → Option Nat
  | .lst ds => some ds.length
  | .tup ds => some ds.length
  | .str x => some x.length
  | _ => none
/-- the name of its built-in type -/
def D.ty : D → String
  | .non => "NoneType"
  | .bl _ => "bool"
  | .int _ => "int"
  | .str _ => "str"
  | .lst _ => "list"
  | .tup _ => "tuple"
  | .ptup _ => "tuple"
  | .ob _ _ _ => "object"
  | .adr _ => "object"
def D.noob : D → Bool
  | .ob _ _ _ => false
  | .adr _ => false
  | _ => true
abbrev rLen (K : Fg) : List V → Hp → VK → Prop := fun xs H Q => ∃ x n, xs = [x] ∧ LenV K x H n ∧ Q (.int (n : Nat)) H
abbrev rTup (K : Fg) : List V → Hp → VK → Prop := fun xs H Q => ∃ p ys, xs = [.ref p] ∧ ((SqL K H p ys ∧ ∀ l, H l = none → Q (.ref l) (upd H l (.tup ys))) ∨ (SqT K H p ys ∧ Q (.ref p) H))
abbrev rLst (K : Fg) : List V → Hp → VK → Prop := fun xs H Q => ∃ p ys, xs = [.ref p] ∧ (SqL K H p ys ∨ SqT K H p ys) ∧ ∀ l, H l = none → Q (.ref l) (upd H l (.lst ys))
/-! the rules with the written part told -/
section
variable {X : Cx} (K : Fg)
theorem lenK (h : X.K = K := by rfl) : CallR X (.builtin "len") (Cc.rLen K) := h ▸ call_len
theorem tupK (h : X.K = K := by rfl) : CallR X (.type "tuple") (rTup K) := h ▸ call_tuple_of
theorem lstK (h : X.K = K := by rfl) : CallR X (.type "list") (rLst K) := h ▸ call_list_of
theorem isiK (h : X.K = K := by rfl) : CallR X (.builtin "isinstance") (rIsi K) := h ▸ call_isi
theorem sumK (hc : X.calm = true := by rfl) (h : X.K = K := by rfl) : CallR X (.builtin "sum") (rSum K) := h ▸ cr_sum hc
theorem allK (hc : X.calm = true := by rfl) (h : X.K = K := by rfl) : CallR X (.builtin "all") (rAll K) := h ▸ cr_all hc
theorem anyK (hc : X.calm = true := by rfl) (h : X.K = K := by rfl) : CallR X (.builtin "any") (rAny K) := h ▸ cr_any hc
theorem ixT (h : X.K = K := by rfl) : IxR X (rIxT K) := h ▸ ix_tup
theorem ixL (h : X.K = K := by rfl) : IxR X (rIxL K) := h ▸ ix_list
theorem ixA (h : X.K = K := by rfl) : IxR X (rIx K) := h ▸ ix_seq
theorem slT (h : X.K = K := by rfl) : SlR X (rSlA K) := h ▸ sl_tupA
theorem slL (h : X.K = K := by rfl) : SlR X (rSlL K) := h ▸ sl_list
theorem catT (h : X.K = K := by rfl) : OpR X (binaryOp .Add) (rCatA K) := h ▸ op_catA
theorem eqK (hu : X.A.units + 64 < cLine) (h : X.K = K := by rfl) : OpR X (compareOp .Eq) (rEqD K) := h ▸ op_eqD hu
theorem neK (hu : X.A.units + 64 < cLine) (h : X.K = K := by rfl) : OpR X (compareOp .NotEq) (rNeD K) := h ▸ op_neD hu
theorem inK (h : X.K = K := by rfl) : OpR X (compareOp .In) (rIn K false) := h ▸ op_in_seq
theorem niK (h : X.K = K := by rfl) : OpR X (compareOp .NotIn) (rIn K true) := h ▸ op_notIn_seq
theorem inDK (hu : X.A.units + 65 < cLine) (h : X.K = K := by rfl) : OpR X (compareOp .In) (rInD K) := h ▸ op_inD hu
theorem niDK (hu : X.A.units + 65 < cLine) (h : X.K = K := by rfl) : OpR X (compareOp .NotIn) (rNotInD K) := h ▸ op_notInD hu
theorem pe_fK {e : Expr} {f : Str} {pos : Pos} {ta : TE} (he : PE X e ta) (hb : attributeBase e f X.env (eval e X.env) = eval e X.env := by rfl) (h : X.K = K := by rfl) : PE X (.Attribute e f pos) (tFld K ta f) := h ▸ pe_fld he hb
theorem pi_lK {tg l : Expr} {tl : TE} (hl : PE X l tl) (h : X.K = K := by rfl) : PI X tg l (iList K tl) := h ▸ pi_list hl
theorem pi_tK {tg l : Expr} {tl : TE} (hl : PE X l tl) (h : X.K = K := by rfl) : PI X tg l (iTup K tl) := h ▸ pi_tup hl
end
section
variable {K : Fg} {σ : L2.St} {H H' : Hp} {ta tb te : TE} {t u : TT} {d e z : D} {r : R2}
theorem rc_len {n : Nat} (h : d.len = some n) (hz : n ≤ 100000) : RCD K (Cc.rLen K) [d] (.int (n : Nat)) := fun vs H Q hv q => by
  cases hv with
  | cons h1 h2 =>
    cases h2
    refine ⟨_, n, rfl, ?_, q _ H (Same.refl _) (.int _)⟩
    cases h1 with
    | str x =>
      cases h
      exact ⟨by rw [sizeLine_eq]; omega, rfl⟩
    | lst hs ha =>
      cases h
      exact .inl ⟨_, SqL.of hs, ha.length.symm⟩
    | tup hs ha =>
      cases h
      exact .inr ⟨_, hs, ha.length.symm⟩
    | _ => cases h
theorem tyx_of (hb : d.noob = true) {v : V} (h : Dn K H v d) : TyX K H v (.type d.ty) := by
  cases h with
  | non => exact .base .non
  | bl b => exact .base (.bl b)
  | int i => exact .base (.int i)
  | str x => exact .base (.str x)
  | lst hs _ => exact .base (.lst hs)
  | ptup hs _ =>
    obtain ⟨o, _, hs⟩ := hs
    exact .fTuple hs
  | tup hs _ =>
    rcases hs with (hs | ⟨o, hs⟩) | ⟨o, its, n, hk, hc, _⟩
    · exact .base (.tup hs)
    · exact .fTuple hs
    · exact .kTuple hk hc
  | ob _ _ _ => cases hb
  | adr _ => cases hb
/-- isinstance(e, T), T a built-in class -/
theorem gd_isi {n : String} {b : Bool} (h : GD K te σ H d) (hb : d.noob = true) (hk : kitB d.ty n = some b) : GD K (tCB (rIsi K) (tCons te (tCons (tC (.ty n)) tNil))) σ H (.bl b) := fun H1 e Q q =>
  h H1 e _ fun v H2 e2 hv => ⟨v, .ty n, .type d.ty, .type n, b, rfl, .ty n, tyx_of hb hv, kit_ty hk, q _ H2 e2 (.bl _)⟩
def D.isT (n : String) : D → Bool
  | .non => false
  | .bl _ => n == "int" || n == "bool"
  | .int _ => n == "int"
  | .str _ => n == "str"
  | .lst _ => n == "list"
  | .tup _ => n == "tuple"
  | .ptup _ => n == "tuple"
  | .ob _ _ _ => false
  | .adr _ => false
theorem kit_isT (hb : d.noob = true) (n : String) (hn : n = "int" ∨ n = "bool" ∨ n = "str" ∨ n = "list" ∨ n = "tuple") : kitB d.ty n = some (d.isT n) := by
  rcases hn with rfl | rfl | rfl | rfl | rfl
  all_goals
    cases d
    case non => exact (show kitB "NoneType" _ = some false by decide +kernel)
    case bl b => first | exact (show kitB "bool" _ = some true by decide +kernel) | exact (show kitB "bool" _ = some false by decide +kernel)
    case int b => first | exact (show kitB "int" _ = some true by decide +kernel) | exact (show kitB "int" _ = some false by decide +kernel)
    case str b => first | exact (show kitB "str" _ = some true by decide +kernel) | exact (show kitB "str" _ = some false by decide +kernel)
    case lst b => first | exact (show kitB "list" _ = some true by decide +kernel) | exact (show kitB "list" _ = some false by decide +kernel)
    case tup b => first | exact (show kitB "tuple" _ = some true by decide +kernel) | exact (show kitB "tuple" _ = some false by decide +kernel)
    case ptup b => first | exact (show kitB "tuple" _ = some true by decide +kernel) | exact (show kitB "tuple" _ = some false by decide +kernel)
    case ob => cases hb
    case adr => cases hb
/-- isinstance(e, int) and so on -/
theorem gd_isT {n : String} (h : GD K te σ H d) (hb : d.noob = true) (hn : n = "int" ∨ n = "bool" ∨ n = "str" ∨ n = "list" ∨ n = "tuple" := by decide) : GD K (tCB (rIsi K) (tCons te (tCons (tC (.ty n)) tNil))) σ H (.bl (d.isT n)) := gd_isi h hb (kit_isT hb n hn)
theorem rc_min2 {i j : Int} : RCD K (fun xs H Q => ∃ i j, xs = [.int i, .int j] ∧ Q (.int (if j < i then j else i)) H) [.int i, .int j] (.int (min i j)) := fun vs H Q hv q => by
  cases hv with
  | cons h1 h2 =>
    cases h2 with
    | cons h2 h3 =>
      cases h3
      cases h1; cases h2
      have e : (if j < i then j else i) = min i j := by
        by_cases c : j < i
        · rw [if_pos c]; omega
        · rw [if_neg c]; omega
      exact ⟨i, j, rfl, by rw [e]; exact q _ H (Same.refl _) (.int _)⟩
theorem rc_max2 {i j : Int} : RCD K (fun xs H Q => ∃ i j, xs = [.int i, .int j] ∧ Q (.int (if j > i then j else i)) H) [.int i, .int j] (.int (max i j)) := fun vs H Q hv q => by
  cases hv with
  | cons h1 h2 =>
    cases h2 with
    | cons h2 h3 =>
      cases h3
      cases h1; cases h2
      have e : (if j > i then j else i) = max i j := by
        by_cases c : j > i
        · rw [if_pos c]; omega
        · rw [if_neg c]; omega
      exact ⟨i, j, rfl, by rw [e]; exact q _ H (Same.refl _) (.int _)⟩
theorem rc_int {i : Int} : RCD K (fun xs H Q => (∃ i, xs = [.int i] ∧ Q (.int i) H) ∨ ∃ k, xs = [.bl k] ∧ Q (.int (if k then 1 else 0)) H) [.int i] (.int i) := fun vs H Q hv q => by
  cases hv with
  | cons h1 h2 =>
    cases h2
    cases h1
    exact .inl ⟨i, rfl, q _ H (Same.refl _) (.int _)⟩
theorem rc_intB {b : Bool} : RCD K (fun xs H Q => (∃ i, xs = [.int i] ∧ Q (.int i) H) ∨ ∃ k, xs = [.bl k] ∧ Q (.int (if k then 1 else 0)) H) [.bl b] (.int (if b then 1 else 0)) := fun vs H Q hv q => by
  cases hv with
  | cons h1 h2 =>
    cases h2
    cases h1
    exact .inr ⟨b, rfl, q _ H (Same.refl _) (.int _)⟩
theorem dns_ints : ∀ {vs : List V} {ns : List Int}, Dns K H vs (ns.map D.int) → vs = ns.map V.int
  | _, [], h => by cases h; rfl
  | _, n :: ns, h => by
    cases h with
    | cons h1 h2 =>
      cases h1
      rw [dns_ints h2]
      rfl
theorem dns_bls : ∀ {vs : List V} {ns : List Bool}, Dns K H vs (ns.map D.bl) → vs = ns.map V.bl
  | _, [], h => by cases h; rfl
  | _, n :: ns, h => by
    cases h with
    | cons h1 h2 =>
      cases h1
      rw [dns_bls h2]
      rfl
theorem dns_strs : ∀ {vs : List V} {ns : List Str}, Dns K H vs (ns.map D.str) → vs = ns.map V.str
  | _, [], h => by cases h; rfl
  | _, n :: ns, h => by
    cases h with
    | cons h1 h2 =>
      cases h1
      rw [dns_strs h2]
      rfl
theorem rc_sum {ns : List Int} : RCD K (rSum K) [.lst (ns.map D.int)] (.int ns.sum) := fun vs H Q hv q => by
  cases hv with
  | cons h1 h2 =>
    cases h2
    cases h1 with
    | lst hs ha => exact ⟨_, ns, rfl, by rw [dns_ints ha] at hs; exact SqL.of hs, q _ H (Same.refl _) (.int _)⟩
theorem rc_all {bs : List Bool} : RCD K (rAll K) [.lst (bs.map D.bl)] (.bl (bs.all id)) := fun vs H Q hv q => by
  cases hv with
  | cons h1 h2 =>
    cases h2
    cases h1 with
    | lst hs ha => exact ⟨_, bs, rfl, by rw [dns_bls ha] at hs; exact SqL.of hs, q _ H (Same.refl _) (.bl _)⟩
theorem rc_any {bs : List Bool} : RCD K (rAny K) [.lst (bs.map D.bl)] (.bl (bs.any id)) := fun vs H Q hv q => by
  cases hv with
  | cons h1 h2 =>
    cases h2
    cases h1 with
    | lst hs ha => exact ⟨_, bs, rfl, by rw [dns_bls ha] at hs; exact SqL.of hs, q _ H (Same.refl _) (.bl _)⟩
/-- tuple(list), tuple(tuple) -/
theorem rc_tuple {ds : List D} (h : d = .lst ds ∨ d = .tup ds) (hf : D.fixs ds = true) : RCD K (rTup K) [d] (.tup ds) := fun vs H Q hv q => by
  cases hv with
  | cons h1 h2 =>
    cases h2
    rcases h with h | h
    · subst h
      cases h1 with
      | lst hs ha => exact ⟨_, _, rfl, .inl ⟨SqL.of hs, fun l hl => q _ _ (Same.new hl) (.tup (SqT.of upd_same) (ha.up (Same.new hl)))⟩⟩
    · subst h
      cases h1 with
      | tup hs ha => exact ⟨_, _, rfl, .inr ⟨hs, q _ H (Same.refl _) (.tup hs ha)⟩⟩
/-- list(list), list(tuple) -/
theorem gn_list {ds : List D} (h : GD K te σ H d) (hd : d = .lst ds ∨ d = .tup ds) : GN K (tCB (rLst K) (tCons te tNil)) σ H ds := fun H1 e Q q =>
  h H1 e _ fun v H2 e2 hv => by
    rcases hd with hd | hd
    · subst hd
      cases hv with
      | lst hs ha => exact ⟨_, _, rfl, .inl (SqL.of hs), fun l hl => q l _ _ (e2.free hl) (e2.trans (Same.new hl)) upd_same (ha.up (Same.new hl))⟩
    · subst hd
      cases hv with
      | tup hs ha => exact ⟨_, _, rfl, .inr hs, fun l hl => q l _ _ (e2.free hl) (e2.trans (Same.new hl)) upd_same (ha.up (Same.new hl))⟩
/-- tuple(range(a, b)) -/
theorem gd_tupRg2 {i j : Int} (ha : GD K ta σ H (.int i)) (hb : GD K tb σ H (.int j)) (h : RgOk i j) : GD K (tTupRg (tRg2 ta tb)) σ H (.tup ((List.range (j - i).toNat).map fun k => .int (i + (k : Nat)))) := fun H1 e Q q =>
  ha H1 e _ fun v H2 e2 hv => hb H2 (e.trans e2) _ fun w H3 e3 hw => by
    cases hv; cases hw
    refine ⟨i, j, rfl, rfl, h, fun p hp => q _ _ ((e2.trans e3).trans (Same.new hp)) (.tup (SqT.of upd_same) ?_)⟩
    unfold rgV
    exact Dns.of (fun k => .int _) _
/-- slices -/
theorem go_none : GO tNoPart σ H none := fun H1 _ Q q => q H1 (Same.refl _)
theorem go_some {i : Int} (h : GD K te σ H (.int i)) : GO (tPart te) σ H (some i) := fun H1 e Q q => h H1 e _ fun v H2 e2 hv => by
  cases hv
  exact ⟨i, rfl, q H2 e2⟩
def cutD (ds : List D) (lo hi : Option Int) : List D := (ds.drop (HT.sIx ds.length 0 lo)).take (HT.sIx ds.length ds.length hi - HT.sIx ds.length 0 lo)
theorem cut_dns {vs : List V} {ds : List D} (h : Dns K H vs ds) (lo hi : Option Int) : Dns K H (cutV vs lo hi) (cutD ds lo hi) := by
  unfold cutV cutD
  rw [h.length]
  exact (h.drop _).take _
theorem gd_slT {tl th : TO} {ds : List D} {lo hi : Option Int} (h : GD K te σ H (.tup ds)) (h1 : GO tl σ H lo) (h2 : GO th σ H hi) : GD K (tSl (rSlA K) te tl th) σ H (.tup (cutD ds lo hi)) := fun H1 e Q q =>
  h H1 e _ fun v H2 e2 hv => h1 H2 (e.trans e2) _ fun H3 e3 => h2 H3 ((e.trans e2).trans e3) _ fun H4 e4 => by
    have hv := hv.up (e3.trans e4)
    cases hv with
    | @tup a xs ds hs ha =>
      refine ⟨a, xs, rfl, hs, fun w => ?_, fun _ p hp => q _ _ (((e2.trans e3).trans e4).trans (Same.new hp)) (.tup (SqT.of upd_same) ((cut_dns ha lo hi).up (Same.new hp)))⟩
      have hw : cutD ds lo hi = ds := by
        unfold cutD
        rw [ha.length] at w
        rw [w.1, w.2, List.drop_zero, Nat.sub_zero, List.take_length]
      rw [hw] at q
      exact q _ H4 ((e2.trans e3).trans e4) (.tup hs ha)
theorem gn_slL {tl th : TO} {ds : List D} {lo hi : Option Int} (h : GD K te σ H (.lst ds)) (h1 : GO tl σ H lo) (h2 : GO th σ H hi) : GN K (tSl (rSlL K) te tl th) σ H (cutD ds lo hi) := fun H1 e Q q =>
  h H1 e _ fun v H2 e2 hv => h1 H2 (e.trans e2) _ fun H3 e3 => h2 H3 ((e.trans e2).trans e3) _ fun H4 e4 => by
    have hv := hv.up (e3.trans e4)
    cases hv with
    | @lst a xs ds hs ha =>
      exact ⟨a, xs, rfl, SqL.of hs, fun p hp => q _ _ _ (((e2.trans e3).trans e4).free hp) (((e2.trans e3).trans e4).trans (Same.new hp)) upd_same ((cut_dns ha lo hi).up (Same.new hp))⟩
/-- a field -/
theorem gd_fld {C : Addr} {ns : List Str} {ds : List D} {f : Str} {i : Nat} (h : GD K te σ H (.ob C ns ds)) (c : Cls K C) (n : NoAttr K C f) (hi : ns[i]? = some f) (hn : ns.Nodup) (hd : ds[i]? = some d) : GD K (tFld K te f) σ H d := fun H1 e Q q =>
  h H1 e _ fun v H2 e2 hv => by
    cases hv with
    | @ob a C dx fs ns ds ho hm ha =>
      obtain ⟨w, hw, hwd⟩ := ha.getD hd
      refine ⟨a, C, dx, fs, w, rfl, ho, c, n, ?_, q w H2 e2 hwd⟩
      have key : ∀ (fs : List (Str × V)) (i : Nat), (fs.map (·.1)).Nodup → (fs.map (·.1))[i]? = some f → (fs.map (·.2))[i]? = some w → fs.lookup f = some w := by
        intro fs
        induction fs with
        | nil => intro i _ h1; simp at h1
        | cons p fs ih =>
          intro i hnd h1 h2
          obtain ⟨k, x⟩ := p
          cases i with
          | zero =>
            simp at h1 h2
            subst h1 h2
            simp [List.lookup]
          | succ i =>
            simp at h1 h2
            have hne : ¬ f = k := by
              rintro rfl
              have hmem : f ∈ fs.map (·.1) := List.mem_of_getElem? (i := i) (by simpa using h1)
              simp at hnd
              obtain ⟨a, ha, hb⟩ := List.mem_map.mp hmem
              obtain ⟨a1, a2⟩ := a
              simp at hb
              subst hb
              exact hnd.1 a2 ha
            have hb : (f == k) = false := by simpa using hne
            rw [List.lookup_cons, hb]
            exact ih i (by simpa using (List.nodup_cons.mp hnd).2) (by simpa using h1) (by simpa using h2)
      rw [← hm] at hi hn
      exact key fs i hn hi hw
end
end Cc

namespace Cc
open PySem L2
/-- the def that stands under the name x keeps its promise -/
def Cal (P : Program) (w : World) (K : Fg) (mg : Str → Option Value) (base : Heap) (CX : CXT) (n : Nat) (x : Str) (ps : List Str) (sp : Sp) : Prop :=
  ∃ (f : Addr) (fd : FuncData), FnOk P w K mg base CX n f fd ps sp ∧ mg x = some (.ref f) ∧ PySem.W.keepIn K (.ref f) = true ∧ L2.Binds K fd ps []
/-- a constant of the module -/
def Cst (mg : Str → Option Value) (x : Str) (v : V) : Prop := ∃ u, mg x = some u ∧ RelV v u
section
variable {X : Cx} {n m : Nat} {x : Str} {ps : List Str} {sp : Sp} {e : Expr} {es : List Expr} {t : TA} {p pos : Pos}
theorem pe_gc {v : V} (h : Cst X.mg x v) (hg : Gl X x := by rfl) (hd : (x == ("__debug__" : Str)) = false := by decide) : PE X (.Name x pos) (tC v) := by
  obtain ⟨u, h1, h2⟩ := h
  exact pe_glob hg h1 h2 hd
theorem pe_ty {T : String} (hm : X.mg x = none) (hg : Gl X x := by rfl) (hv : bootBuiltins x = some (.type T) := by decide +kernel) (hn : x ≠ "__name__" := by decide) (hd : (x == ("__debug__" : Str)) = false := by decide) : PE X (.Name x pos) (tC (.ty T)) :=
  pe_bltn hg hm hv rfl hn hd
/-- a call of a def that lets nothing out -/
theorem pe_cal {CX : CXT} {E : XK} (C : Cal X.prog X.w X.K X.mg X.base CX n x ps sp) (hr : Room m X.A) (hx : Passes CX X E) (ha : PA X (e :: es) t) (hg : Gl X x := by rfl) (hn : n ≤ m := by decide)
    (hdb : (x == ("__debug__" : Str)) = false := by decide) (he : starEach (e :: es) X.env = (false, eval e X.env) :: starEach es X.env := by rfl) (hpl : (backTo pos (starEach es X.env)).any (·.1) = false := by rfl) : PE X (.Call (.Name x p) (e :: es) [] pos) (tCall sp [] E t) := by
  obtain ⟨f, fd, F, hm, hk, hb⟩ := C
  exact pe_call F (hr.mono hn) hg hm hk hb .nil hx ha hdb he hpl
end
section
variable {K : Fg} {H : Hp}
theorem Dns.un1 {vs : List V} {a : D} (h : Dns K H vs [a]) : ∃ v, vs = [v] ∧ Dn K H v a := by
  cases h with
  | cons h0 h => cases h; exact ⟨_, rfl, h0⟩
theorem Dns.un2 {vs : List V} {a b : D} (h : Dns K H vs [a, b]) : ∃ v w, vs = [v, w] ∧ Dn K H v a ∧ Dn K H w b := by
  cases h with
  | cons h0 h =>
    obtain ⟨w, rfl, h1⟩ := h.un1
    exact ⟨_, w, rfl, h0, h1⟩
theorem Dns.un3 {vs : List V} {a b c : D} (h : Dns K H vs [a, b, c]) : ∃ v w x, vs = [v, w, x] ∧ Dn K H v a ∧ Dn K H w b ∧ Dn K H x c := by
  cases h with
  | cons h0 h =>
    obtain ⟨w, x, rfl, h1, h2⟩ := h.un2
    exact ⟨_, w, x, rfl, h0, h1, h2⟩
theorem Dns.un4 {vs : List V} {a b c d : D} (h : Dns K H vs [a, b, c, d]) : ∃ v w x y, vs = [v, w, x, y] ∧ Dn K H v a ∧ Dn K H w b ∧ Dn K H x c ∧ Dn K H y d := by
  cases h with
  | cons h0 h =>
    obtain ⟨w, x, y, rfl, h1, h2, h3⟩ := h.un3
    exact ⟨_, w, x, y, rfl, h0, h1, h2, h3⟩
end
/-- a text of one sign in another text -/
def hasSign (z : Str) (c : Str) : Bool := match c.cps.toList with
  | [k] => decide (k ∈ z.cps.toList)
  | _ => false
section
variable {K : Fg} {σ : L2.St} {H H' : Hp} {ta tb te : TE} {t u : TT} {d e z : D} {r : R2}
theorem gd_chain {r r' : R2} {tc : TE} {f : D} {a b : Bool} (ha : GD K ta σ H d) (hb : GD K tb σ H e) (hr : R2D K r d e (.bl a)) (hc : GD K tc σ H f) (hr' : R2D K r' e f (.bl b)) : GD K (tChain r r' ta tb tc) σ H (.bl (a && b)) := fun H1 c Q q =>
  ha H1 c _ fun x H2 c2 hx => hb H2 (c.trans c2) _ fun y H3 c3 hy => hr x y H3 _ (hx.up c3) hy fun v H4 c4 hv => by
    cases hv
    refine ⟨a, rfl, ?_⟩
    have k := (c2.trans c3).trans c4
    cases a with
    | true => exact (if_pos rfl).mpr (hc H4 (c.trans k) _ fun w H5 c5 hw => hr' y w H5 _ (hy.up (c4.trans c5)) hw fun v H6 c6 hv => q v H6 ((k.trans c5).trans c6) hv)
    | false => exact (if_neg Bool.false_ne_true).mpr (q _ H4 k (.bl _))
theorem r_sign {c : Nat} {z : Str} : R2D K (fun x y H Q => ∃ (c : Nat) (z : Str), x = .str ⟨#[c]⟩ ∧ y = .str z ∧ Q (.bl (decide (c ∈ z.cps.toList))) H) (.str ⟨#[c]⟩) (.str z) (.bl (decide (c ∈ z.cps.toList))) := fun x y H Q hx hy q => by
  cases hx; cases hy
  exact ⟨c, z, rfl, rfl, q _ H (Same.refl _) (.bl _)⟩
theorem ixN_nat {n j : Nat} (hj : j < n) : ixN n (j : Int) = some j := by
  unfold ixN
  rw [if_pos (by omega), if_pos (by omega)]
  simp
/-- xs[j] = e -/
theorem s_setL {E : Ends} {l : Addr} {xs : List V} {j : Nat} (hl : H l = some (.lst xs)) (ho : ∀ H1, Same H H1 → ∀ Q : VK, Q (.ref l) H1 → ta σ H1 Q) (hi : GD K tb σ H (.int (j : Nat))) (hj : j < xs.length) (h : GD K te σ H d)
    (k : ∀ v H1, Same H H1 → Dn K H1 v d → E.nx σ (upd H1 l (.lst (xs.set j v)))) : tAsg te (gSub ta tb rSetL) E σ H :=
  h H (Same.refl _) _ fun v H1 e1 hv => ho H1 e1 _ (hi H1 e1 _ fun w H2 e2 hw => by
    cases hw
    exact ⟨l, xs, (j : Nat), j, rfl, rfl, (e1.trans e2) l _ hl, ixN_nat hj, k v H2 (e1.trans e2) (hv.up e2)⟩)
/-- an item of a list that a name holds, told by its value -/
theorem gd_ixV {i j : Nat} {l : Addr} {xs : List V} {v : V} (hσ : σ[i]? = some (some (.ref l))) (hl : H l = some (.lst xs)) (hv : xs[j]? = some v) (hd : Dn K H v d) : GD K (tOp (rIxL K) (tVar i) (tC (.int (j : Nat)))) σ H d := fun H1 e Q q =>
  ⟨.ref l, hσ, l, xs, (j : Nat), v, rfl, rfl, SqL.of (e _ _ hl), atI_nat hv, q v H1 (Same.refl _) (hd.up e)⟩
end
end Cc

/-! own errors whose __init__ hands a text on by super() and keeps its one argument in a field -/
namespace CcX
open PySem PySem.W PySem.Calls PyProof.Rows PySem.HandSPX
/-- what may be shown in such a text -/
def Shown (v : Value) : Prop := (∃ z t, v = .str z t ∧ z.length ≤ 1000) ∨ ∃ i t, v = .int i t ∧ i.natAbs.log2 < 1920
structure SupC (prog : Program) (K : Frag) (C fI : Addr) (qual fld : Str) (body : List Stmt) (params : Arguments) (scope : Scope) : Prop where
  cls : ∃ nm q N bs bm sn sub ab col dd k0 k1 k2 k3 k5, K.lookup C = some (excClassObj nm q C N bs bm true sn sub ab col dd k0 k1 k2 k3 k5 "ValueError.__new__") ∧ refsVE bm = true
  sa : findIn K (.ref C) "__setattr__" = some (some (.builtin "object.__setattr__"))
  noN : findIn K (.ref C) fld = some none
  iC : findIn K (.ref C) "__init__" = some (some (.ref fI))
  tC : typeIn K (.ref fI) = some (.type "function")
  kC : keepIn K (.ref C) = true
  exC : subIn K (.ref C) (.type "BaseException") = some true
  veC : subIn K (.ref C) (.type "ValueError") = some true
  slfC : mroIn K C (.ref C) = some true
  tyC : typeIn K (.ref C) = some (.type "type")
  opq : nsIn K cStatics "thirdparty.any" = some none
  alg : ks_superIn K C C "__init__" = some (some (.builtin "ValueError.__init__"))
  top : (prog.main.scope.names.lookup ("super" : Str)).isSome = false
  fn : ∃ (oc : Value) (od : Option Addr) (doc pm : Value) (an : Option Addr) (cda cc : Addr) (ct : Value) (osl : Array (Option Value)) (ccl cl : Value) (cdd cld : Option Addr) (ccs csl : Array (Option Value)) (vs : Array Value) (file : Str) (tf : Tok),
    K.lookup fI = some ⟨oc, od, .func (ksFn "__init__" qual params body scope .none .none doc pm an (.ref cda) ct cc), osl⟩ ∧ codeIn K (.ref cda) qual = true ∧
    K.lookup cda = some ⟨ccl, cdd, .fields vs, ccs⟩ ∧ vs[2]? = some (.str file tf) ∧ ((prog.main.file : Str) == file) = true ∧
    K.lookup cc = some ⟨cl, cld, .cell (some (.ref C)), csl⟩
section
variable {prog : Program} {w : World} {A : Around} {E : Value → Shared → Prop} {R : Result → Shared → Prop} {s : Shared} {K : Frag} {mg mb : Str → Option Value} {C fI : Addr}
/-- the built-in __init__ bound to the new object, called: only the object's own record is laid anew -/
theorem mw_call {nm q : Str} {N : Addr} {bs bm : List Value} {sn : List Str} {sub : List Value} {ab : Bool} {col : Option Bool} {dd : Option Addr} {k0 k1 k2 k3 k5 : Option Value} {u x t0 : Addr} {rest : List Value} {Q : Value → Shared → Prop}
    (hC : s.heap.get? C = some (excClassObj nm q C N bs bm true sn sub ab col dd k0 k1 k2 k3 k5 "ValueError.__new__")) (hx : s.heap.get? x = some (excO C t0)) (hu : s.heap.get? u = some (kxs_mw "ValueError.__init__" x)) (hz : rest.length ≤ sizeLine)
    (h : ∀ h' t1, (∀ b o, b ≠ x → s.heap.get? b = some o → h'.get? b = some o) → h'.get? x = some (excO C t1) → Q .none { s with heap := h' }) : wpAny (model prog w) A (call (.ref u) rest) Q E s := by
  have FB := F.excBase_ValueError
  obtain ⟨hh, g, d, tk, os⟩ := s
  refine wpAny_call (codeAny_of_tree ?_)
  show wpAny _ A.in1 (callAny (.ref u) ⟨rest, []⟩) _ _ _
  simp only [callAny]
  refine wpAny_bind (wpAny_load hu ?_)
  have a1 : (Value.type "method-wrapper" == Value.type "method" || Value.type "method-wrapper" == Value.type "builtin_function_or_method" || Value.type "method-wrapper" == Value.type "method-wrapper") = true := by decide
  simp only [kxs_mw, a1, if_true]
  refine KFB.if_so (by decide) ?_
  refine wpAny_bind (check_bound_init (FB.toExcCallFacts) hC hx rfl ?_)
  refine wpAny_bind (wpAny_pure (wpAny_pure ?_))
  refine ⟨plainId_quiet FB.init.plain _, codeAny_builtin FB.initEntry ?_⟩
  exact exc_init_tree (cls := Value.ref C) (t0 := t0) (dv := Option.none) (c2 := Value.none) (c3 := Value.none) (b4 := Value.bool false) hx hz fun h' k' e' _ => h h' _ k' e'
/-- a part of the text that is shown -/
def PartOk (ar : Str) (e : Expr) : Prop := (∃ z j p, e = .Constant (.str z) j p ∧ z.length ≤ 100) ∨ ∃ p p2, e = .FormattedValue (.Name ar p) (-1) none p2
theorem parts_join {env : Env} {m : Str → Option Value} {hp : Heap} {ar : Str} {v : Value} (hn : hp.Ns env.locals m) (hk : env.scope.kind = .function) (hl : env.kindOf ar = some .local) (hd : (ar == ("__debug__" : Str)) = false) (hv : m ar = some v) (hs : Shown v) {R : Str → Shared → Prop} : ∀ (es : List Expr) (acc : Str) (s : Shared), s.heap = hp → (∀ e ∈ es, PartOk ar e) →
    acc.length + 4000 * es.length ≤ 100000 → (∀ out tk, out.length ≤ 100000 → R out { s with toks := tk }) → Joins (model prog w) A E (evalEach es env) acc R s
  | [], acc, s, e, _, hz, k => by
    rw [show evalEach [] env = [] from by first | rfl | simp [evalEach]]
    exact k acc s.toks (by simpa using hz)
  | p :: es, acc, s, e, hp', hz, k => by
    rw [show evalEach (p :: es) env = eval p env :: evalEach es env from by first | rfl | simp [evalEach]]
    have line : sizeLine = 16777216 := sizeLine_eq
    have hz' : acc.length + 4000 * (es.length + 1) ≤ 100000 := by simpa using hz
    have go : ∀ (y : Str) (t : Tok) (tk : Nat), y.length ≤ 4000 → ∃ z t', (Value.str y t) = .str z t' ∧ (acc ++ z).length ≤ sizeLine ∧ Joins (model prog w) A E (evalEach es env) (acc ++ z) R { s with toks := tk } := fun y t tk hy => by
      have hl2 : (acc ++ y).length = acc.length + y.length := PySem.Str.length_append ..
      exact ⟨y, t, rfl, by omega, parts_join hn hk hl hd hv hs es (acc ++ y) { s with toks := tk } e (fun q hq => hp' q (List.mem_cons_of_mem _ hq)) (by omega) fun out tk' hz => k out tk' hz⟩
    rcases hp' p List.mem_cons_self with ⟨z, j, q, rfl, hz1⟩ | ⟨q, q2, rfl⟩
    · exact Calls.Constant_str (go z _ _ (by omega))
    · refine wpAny_FormattedValue_plain (wpAny_Name (wpAny_loadName_local hk hl (by rw [e]; exact hn) hv ?_) hd)
      rcases hs with ⟨z, t, rfl, hz1⟩ | ⟨i, t, rfl, hi⟩
      · exact wpAny_formatField_str (go z _ s.toks (by omega)) (go z _ _ (by omega)) (by omega)
      · exact wpAny_formatField_int hi (go _ _ _ (by have := int_text_length_le (k := 1920) (by decide) hi; rw [PySem.ofString_length]; omega))

/-! ### the text of such an __init__ -/
abbrev supA (ar : Str) (p1 p2 : Pos) : Arguments := { posonlyargs := [], args := [{ arg := "self", annotation := none, pos := p1 }, { arg := ar, annotation := none, pos := p2 }], vararg := none, kwonlyargs := [], kw_defaults := [], kwarg := none, defaults := [] }
abbrev supS (ar : Str) : Scope := { kind := .function, names := [(PySem.Str.ofString "self", .local), (ar, .local), (PySem.Str.ofString "__class__", .free), (PySem.Str.ofString "super", .globalImplicit)], isGenerator := false, isCoroutine := false, more := [] }
abbrev supB (ar fld : Str) (v1 v2 : Expr) (rest : List Expr) (q0 q1 q2 q3 q4 q5 q6 q7 q8 q9 : Pos) : List Stmt :=
  [.Expr (.Call (.Attribute (.Call (.Name "super" q0) [] [] q1) "__init__" q2) [.JoinedStr (v1 :: v2 :: rest) q3] [] q4) q5, .Assign [.Attribute (.Name "self" q6) fld q7] (.Name ar q8) q9]
/-- what __init__ leaves of a fresh exception at x -/
structure InitEnd (h h' : Heap) (x C dx t1 : Addr) (fld : Str) (v : Value) : Prop where
  keep : ∀ b o, b ≠ x → h.get? b = some o → h'.get? b = some o
  obj : h'.get? x = some { cls := .ref C, dict := some dx, data := .fields #[.ref t1, .none, .none, .none, .bool false, .none] }
  dbig : h.objs.size ≤ dx
  dne : dx ≠ x
  ns : h'.Ns1 dx (fun y => if y = fld then some v else none)
theorem me_call {env : Env} {c : Code} {o : Expr} {name : Str} {apos pos : Pos} {args : List Expr} {Q : Value → Shared → Prop} (hline : (apos.endLine == pos.line) = true)
    (hform : methodCallForm (args.length + ([] : List Keyword).length) (backTo pos (starEach args env)) (backToKw pos (keywordEach [] env)) = true)
    (h : PySem.wpAt (model prog w) A c (attributeBase o name env (eval o env)) (fun ov s₁ => ∀ pl, wpAny (model prog w) A (getMethod ov name pl) (fun fx s₂ => wpAny (model prog w) A (callWith pos fx.1 fx.2 (backTo pos (starEach args env)) []) Q E s₂) E s₁) E s) :
    PySem.wpAt (model prog w) A c (eval (.Call (.Attribute o name apos) args [] pos) env) Q E s := by
  rw [arm_eval_Call]
  refine PySem.wpAt_bind (PySem.wpAt_mono h (fun ov s₁ h₁ => PySem.wpAt_of_wpAny (wpAny_bind (wpAny_standAt ?_))) fun _ _ x => x)
  have hpos : methodCallPos true o env apos pos = pure pos := by unfold methodCallPos; simp [hline]
  unfold methodCall
  rw [hform]
  refine wpAny_bind (wpAny_holding (wpAny_mono (h₁ _) (fun fx s₂ h₂ => ?_) fun _ _ x => x))
  exact wpAny_bind (wpAny_of_eq hpos h₂)
theorem Heap.Ns.over {L x : Addr} {h h' : Heap} {m : Str → Option Value} (hn : h.Ns L m) (hx : L ≠ x) (k : ∀ b o, b ≠ x → h.get? b = some o → h'.get? b = some o) : h'.Ns L m := by
  obtain ⟨oL, es, ep, hL, r⟩ := hn
  exact ⟨oL, es, ep, k _ _ hx hL, r⟩
theorem kept_but {K : Frag} {h h' : Heap} {x : Addr} (X : K.In h) (hx : K.lookup x = none) (k : ∀ b o, b ≠ x → h.get? b = some o → h'.get? b = some o) : K.In h' := fun a o e =>
  k a o (fun z => by subst z; rw [show List.lookup a K = some o from e] at hx; cases hx) (X a o e)
theorem sup_init {qual ar fld : Str} {v1 v2 : Expr} {rest : List Expr} {p1 p2 q0 q1 q2 q3 q4 q5 q6 q7 q8 q9 : Pos} (T : SupC prog K C fI qual fld (supB ar fld v1 v2 rest q0 q1 q2 q3 q4 q5 q6 q7 q8 q9) (supA ar p1 p2) (supS ar))
    (ha : ar = "part" ∨ ar = "index" ∨ ar = "name" ∨ ar = "row" ∨ ar = "offset") (hparts : ∀ e ∈ v1 :: v2 :: rest, PartOk ar e) (hlen : rest.length ≤ 8) (hline : (q2.endLine == q4.line) = true) {x t0 : Addr} {v : Value} (hv : Shown v)
    (X : K.In s.heap) (hlim : s.heap.NoLimit) (hg : s.heap.Ns mainGlobals mg) (hb : s.heap.Ns builtinsNs mb) (hms : mg "super" = none) (hbs : mb "super" = some (.type "super")) (hx : s.heap.get? x = some (excO C t0)) (hnx : K.lookup x = none) (hroom : A.depth < recursionLimit)
    (hq : ∀ h' tk dx t1, InitEnd s.heap h' x C dx t1 fld v → R (.ok (.ret .none)) { s with heap := h', toks := tk }) :
    codeAny (model prog w) A (.call (.ref fI) ⟨[.ref x, v], []⟩) R s := by
  obtain ⟨oc, od, doc, pm, an, cda, cc, ct, osl, ccl, cl, cdd, cld, ccs, csl, vs, file, tf, ho, hcd, hcda, hvs, hfile, hcell⟩ := T.fn
  obtain ⟨nm, q, N, bs, bm, sn, sub, ab, col, dd, k0, k1, k2, k3, k5, hC, hbm⟩ := T.cls
  have hcl : clsIn K C = some { name := nm, bases := bs, mro := .ref C :: bm, ns := N, qualname := q, hasDict := true, slotNames := sn, subclasses := sub, abstract := ab, collection := col, hasDel := false } := by unfold clsIn; rw [hC] <;> rfl
  refine ks_codeAny_call_defAt (binds := [("self", .ref x), (ar, v)]) hroom (X _ _ ho) rfl hlim ?_ rfl (BindsTo.of_eq ?_) ?_ ?_ (fun h₁ hn k => ?_)
  · exact codeRec_of X hcd
  · rcases ha with rfl | rfl | rfl | rfl | rfl <;> first | rfl | with_unfolding_all rfl
  · intro y hy
    simp at hy
    rcases hy with rfl | rfl | rfl | rfl <;> exact fun e => by cases e
  · intro y hy
    rcases List.mem_cons.mp hy with rfl | hy
    · rfl
    · rcases List.mem_cons.mp hy with rfl | hy
      · rcases ha with rfl | rfl | rfl | rfl | rfl <;> rfl
      · cases hy
  have hxL : s.heap.objs.size ≠ x := Nat.ne_of_gt (Heap.lt_size hx)
  have X₁ : K.In h₁ := X.keeps k
  have hx₁ := k _ _ hx
  have hC₁ := X₁ _ _ hC
  have hz₁ : s.heap.objs.size < h₁.objs.size := hn.lt
  generalize eF : ksFn "__init__" qual (supA ar p1 p2) (supB ar fld v1 v2 rest q0 q1 q2 q3 q4 q5 q6 q7 q8 q9) (supS ar) Value.none Value.none doc pm an (Value.ref cda) ct cc = fd
  have eE : callEnv fd s.heap.objs.size fI = ksEnv qual (supS ar) s.heap.objs.size fI (.ref cda) cc := by rw [← eF]; rfl
  rw [eE]
  have nec : (ar == ("__class__" : Str)) = false ∧ (ar == ("super" : Str)) = false ∧ (ar == ("self" : Str)) = false ∧ (ar == ("__debug__" : Str)) = false := by rcases ha with rfl | rfl | rfl | rfl | rfl <;> decide
  have kS : (ksEnv qual (supS ar) s.heap.objs.size fI (.ref cda) cc).kindOf "super" = some .globalImplicit := by rcases ha with rfl | rfl | rfl | rfl | rfl <;> rfl
  have kC : (ksEnv qual (supS ar) s.heap.objs.size fI (.ref cda) cc).kindOf "__class__" = some .free := by rcases ha with rfl | rfl | rfl | rfl | rfl <;> rfl
  have kA : (ksEnv qual (supS ar) s.heap.objs.size fI (.ref cda) cc).kindOf ar = some .local := by rcases ha with rfl | rfl | rfl | rfl | rfl <;> rfl
  have kX : (ksEnv qual (supS ar) s.heap.objs.size fI (.ref cda) cc).kindOf "self" = some .local := rfl
  have mA : (List.reverse [(("self" : Str), Value.ref x), (ar, v)]).lookup ar = some v := by simp [List.lookup]
  have mX : (List.reverse [(("self" : Str), Value.ref x), (ar, v)]).lookup ("self" : Str) = some (.ref x) := by rcases ha with rfl | rfl | rfl | rfl | rfl <;> rfl
  refine ks_wpAt_execs_cons (ks_wpAt_Expr_any (me_call hline (by rfl) ?_) (by rfl) (by rfl))
  · refine ks_wpAt_super_base (env := ksEnv qual (supS ar) s.heap.objs.size fI (.ref cda) cc) (fd := fd) (ar := { arg := "self", annotation := none, pos := p1 }) kS kC (by decide) rfl (k _ _ (X _ _ ho)) (by rw [← eF]) (by rw [← eF]; rfl) rfl (X₁ _ _ hcda) rfl hvs hfile T.top ?_
    refine ks_loadName_global rfl kS (loadGlobal_builtin (hg.keeps k) hms (hb.keeps k) hbs ⟨rfl, ?_⟩)
    refine wpAny_loadName_free rfl kC rfl ⟨_, X₁ _ _ hcell, rfl⟩ ?_
    refine wpAny_loadName_local rfl kX hn mX ?_
    refine ks_wpAny_isType_cls hC₁ rfl ⟨rfl, ?_⟩
    refine ks_wpAny_call_super hC₁ rfl hx₁ rfl (fun c e => by cases e) (looks_mroIn X₁ T.slfC) (fun h₂ hso k₂ => ?_)
    have X₂ : K.In h₂ := X₁.keeps k₂
    have hx₂ := k₂ _ _ hx₁
    have hn₂ := hn.keeps k₂
    intro pl
    refine kxs_getMethod kxs_ValueError hso (looks_opaque X₂ T.opq) (l₀ := .ref C :: bm) (fun A Q E s' k q => wpAny_bind ((looks_clsIn X₂ hcl) A _ E s' k (wpAny_pure q))) rfl X₂ ?_ ?_ ?_ (by decide) ?_
    · have := T.alg
      unfold ks_superIn at this
      rw [hcl] at this
      exact this
    · exact InstAt.type (od := none) ⟨hx₂, rfl, rfl, trivial⟩ |>.andThen (looks_subIn X₂ T.veC)
    · intro z
      rw [z] at hnx
      have : K.lookup C = some _ := hC
      rw [this] at hnx; cases hnx
    have k₃ : ∀ b o, h₂.get? b = some o → (h₂.push (kxs_mw "ValueError.__init__" x)).get? b = some o := fun b o e => Heap.get?_push_of_some _ e
    have hn₃ := hn₂.keeps k₃
    have hu₃ : (h₂.push (kxs_mw "ValueError.__init__" x)).get? h₂.objs.size = some (kxs_mw "ValueError.__init__" x) := Heap.get?_push_at rfl rfl
    have hC₃ := k₃ _ _ (k₂ _ _ hC₁)
    have hx₃ := k₃ _ _ hx₂
    generalize eh : h₂.push (kxs_mw "ValueError.__init__" x) = h₃ at hn₃ hu₃ hC₃ hx₃ k₃ ⊢
    refine kxs_callWith (i := "ValueError.__init__") (x := x) rfl (evalArgs_plain (spliced_cons (wpAny_JoinedStr (pos := q3) ?_)))
    refine parts_join (hp := h₃) hn₃ rfl kA nec.2.2.2 mA hv (v1 :: v2 :: rest) Str.empty _ rfl hparts (by simp only [List.length_cons]; have : Str.empty.length = 0 := rfl; omega) (fun out tk hz => ?_)
    refine ⟨by rw [sizeLine_eq]; omega, spliced_nil ⟨hu₃, ?_⟩⟩
    refine mw_call hC₃ hx₃ hu₃ (by simp [sizeLine_eq]) (fun h₄ t1 k₄ hx₄ => ?_)
    have kk : ∀ b o, b ≠ x → s.heap.get? b = some o → h₄.get? b = some o := fun b o hb e => k₄ b o hb (k₃ _ _ (k₂ _ _ (k _ _ e)))
    have X₄ : K.In h₄ := kept_but X hnx kk
    refine PySem.wpAt_of_wpAny (wpAny_execs_cons (plainObj_wpAny_Assign_Attribute ?_))
    have hn₄ := Heap.Ns.over hn₃ (x := x) (h' := h₄) hxL k₄
    refine wpAny_Name (wpAny_loadName_local rfl kA hn₄ mA ?_) nec.2.2.2
    refine wpAny_Name (wpAny_loadName_local rfl kX hn₄ mX ?_) (by decide)
    refine set_plain X₄ (ox := excO C t1) (od := none) ⟨hx₄, rfl, rfl, trivial⟩ T.sa ?_
    refine exc_osa X₄ hx₄ hcl (show refsVE (.ref C :: bm) = true from hbm) rfl T.noN (fun h₅ tk₅ dx k₅ dn dne hx₅ hn₅ => ?_)
    refine wpAny_execs_nil (hq h₅ tk₅ dx t1 ⟨fun b o hb e => k₅ b o hb (kk b o hb e), hx₅, ?_, dne, hn₅⟩)
    exact Nat.le_of_lt (Nat.lt_of_lt_of_le hn₄.lt dn)
/-- one made -/
structure Made1 (h h' : Heap) (e C d : Addr) (fld : Str) (v : Value) : Prop where
  keep : ∀ b o, h.get? b = some o → h'.get? b = some o
  new : h.objs.size ≤ e
  obj : ∃ oe vs, h'.get? e = some oe ∧ oe.cls = .ref C ∧ oe.dict = some d ∧ oe.data = .fields vs ∧ vs[1]? = some .none
  dbig : h.objs.size ≤ d
  dne : d ≠ e
  ns : h'.Ns1 d (fun y => if y = fld then some v else none)
/-- an own error with one field, its __init__ shown -/
structure SupI (prog : Program) (w : World) (K : Frag) (mg : Str → Option Value) (C fI : Addr) (fld : Str) : Prop where
  cls : ∃ nm q N bs bm sn sub ab col dd k0 k1 k2 k3 k5, K.lookup C = some (excClassObj nm q C N bs bm true sn sub ab col dd k0 k1 k2 k3 k5 "ValueError.__new__") ∧ refsVE bm = true
  iC : findIn K (.ref C) "__init__" = some (some (.ref fI))
  tC : typeIn K (.ref fI) = some (.type "function")
  kC : keepIn K (.ref C) = true
  exC : subIn K (.ref C) (.type "BaseException") = some true
  tyC : typeIn K (.ref C) = some (.type "type")
  init : ∀ {A : Around} {R : Result → Shared → Prop} {s : Shared} {x t0 : Addr} {v : Value} {mb : Str → Option Value}, Shown v → K.In s.heap → s.heap.NoLimit → s.heap.Ns mainGlobals mg → s.heap.Ns builtinsNs mb → mb "super" = some (.type "super") → s.heap.get? x = some (excO C t0) → K.lookup x = none → A.depth < recursionLimit →
    (∀ h' tk dx t1, InitEnd s.heap h' x C dx t1 fld v → R (.ok (.ret .none)) { s with heap := h', toks := tk }) → codeAny (model prog w) A (.call (.ref fI) ⟨[.ref x, v], []⟩) R s
theorem sup_of {qual ar fld : Str} {v1 v2 : Expr} {rest : List Expr} {p1 p2 q0 q1 q2 q3 q4 q5 q6 q7 q8 q9 : Pos} (T : SupC prog K C fI qual fld (supB ar fld v1 v2 rest q0 q1 q2 q3 q4 q5 q6 q7 q8 q9) (supA ar p1 p2) (supS ar))
    (ha : ar = "part" ∨ ar = "index" ∨ ar = "name" ∨ ar = "row" ∨ ar = "offset") (hparts : ∀ e ∈ v1 :: v2 :: rest, PartOk ar e) (hlen : rest.length ≤ 8) (hline : (q2.endLine == q4.line) = true) (hms : mg "super" = none) : SupI prog w K mg C fI fld :=
  ⟨T.cls, T.iC, T.tC, T.kC, T.exC, T.tyC, fun hv X hlim hg hb hbs hx hnx hroom hq => sup_init T ha hparts hlen hline hv X hlim hg hb hms hbs hx hnx hroom hq⟩
theorem sup_made {fld : Str} (T : SupI prog w K mg C fI fld) {v : Value} (hv : Shown v) (X : K.In s.heap) (hlim : s.heap.NoLimit) (hg : s.heap.Ns mainGlobals mg) (hb : s.heap.Ns builtinsNs mb) (hbs : mb "super" = some (.type "super")) (hroom : A.depth + 1 < recursionLimit)
    (hq : ∀ h' tk e d, Made1 s.heap h' e C d fld v → R (.ok (.ret (.ref e))) { s with heap := h', toks := tk }) : codeAny (model prog w) A (.call (.ref C) ⟨[v], []⟩) R s := by
  obtain ⟨nm, q, N, bs, bm, sn, sub, ab, col, dd, k0, k1, k2, k3, k5, hC, hbm⟩ := T.cls
  obtain ⟨hp, g, dr, tk, os⟩ := s
  have old1 : ∀ b o, hp.get? b = some o → ((hp.push (kdv_tup [v])).push (excO C hp.objs.size)).get? b = some o := fun b o e => Heap.get?_push_of_some _ (Heap.get?_push_of_some _ e)
  have at1 : ((hp.push (kdv_tup [v])).push (excO C hp.objs.size)).get? (hp.objs.size + 1) = some (excO C hp.objs.size) := by heap_get
  have free : K.lookup (hp.objs.size + 1) = none := by
    rcases e : K.lookup (hp.objs.size + 1) with _ | o
    · rfl
    · exact absurd (Nat.lt_of_succ_lt (Heap.lt_size (X _ _ e))) (Nat.lt_irrefl _)
  refine call_own F.excBase_ValueError (fun X => refsVE_contains X bm hbm) (X _ _ hC) (looks_findIn X T.iC) (fun self => bind_fn X self T.tC) (by simp [sizeLine_eq]) ?_
  refine T.init (s := ⟨(hp.push (kdv_tup [v])).push (excO C hp.objs.size), g, dr, tk, os⟩) hv (X.keeps old1) (hlim.keeps old1) (hg.keeps old1) (hb.keeps old1) hbs at1 free hroom fun h' tk' dx t1 I => ?_
  have z : hp.objs.size + 1 + 1 ≤ dx := by
    have q := I.dbig
    first | exact q | (rw [Heap.size_push, Heap.size_push] at q; exact q) | simpa only [Heap.size_push] using q
  exact ⟨rfl, hq h' tk' (hp.objs.size + 1) dx ⟨fun b o e => I.keep b o (Nat.ne_of_lt (Nat.lt_succ_of_lt (Heap.lt_size e))) (old1 b o e), Nat.le_succ _, ⟨_, _, I.obj, rfl, rfl, rfl, rfl⟩, (by show hp.objs.size ≤ dx; omega), I.dne, I.ns⟩⟩
end
end CcX

namespace Cc
open PySem L2
/-- an own error, made with a text -/
structure ErrT (K : Fg) (mg : Str → Option Value) (x : Str) (C : Addr) : Prop where
  gC : mg x = some (.ref C)
  q : PySem.W.excIn K C [.type "ValueError", .type "Exception", .type "BaseException", .type "object"] "ValueError.__new__" = true
  kC : PySem.W.keepIn K (.ref C) = true
  exC : PySem.W.subIn K (.ref C) (.type "BaseException") = some true
  tyC : PySem.W.typeIn K (.ref C) = some (.type "type")
/-- an own error with one field -/
structure ErrF (P : Program) (w : World) (K : Fg) (mg : Str → Option Value) (x : Str) (C fI : Addr) (fld : Str) : Prop where
  gC : mg x = some (.ref C)
  sup : CcX.SupI P w K mg C fI fld
section
variable {X : Cx} {x : Str} {C : Addr} {p p2 pos pos2 : Pos} {m : Str} {j : Nat}
def tRaiseT (C : Addr) (W : WX) : TS := fun _ σ H => W (.ref C) none σ H
theorem ps_raiseT {W : WX} (hc : X.calm = true) (tk : Takes X W) (T : ErrT X.K X.mg x C) (hg : Gl X x := by rfl) (hdb : (x == ("__debug__" : Str)) = false := by decide) :
    PS X (.Raise (some (.Call (.Name x p) [.Constant (.str m) j p2] [] pos)) none pos2) (tRaiseT C W) :=
  ps_raise hc tk (pmk_own F.excBase_ValueError T.q T.gC T.kC (raises_own T.exC T.tyC) hg hdb)
def ShownV (v : V) : Prop := (∃ z : Str, v = .str z ∧ z.length ≤ 1000) ∨ ∃ i : Int, v = .int i ∧ i.natAbs.log2 < 1920
def tRaiseF (C : Addr) (fld : Str) (W : WX) (ta : TA) : TS := fun _ σ H => ta σ H fun vs H1 => ∃ v, vs = [v] ∧ ShownV v ∧ ∀ d, H1 d = none → W (.ref C) (some d) σ (upd H1 d (.xd [(fld, v)]))
theorem relO_one {v : V} {v' : Value} (r : RelV v v') (fld f : Str) : RelO (List.lookup f [(fld, v)]) (if f = fld then some v' else none) := by
  by_cases h : f = fld
  · subst h
    simpa [List.lookup, RelO] using r
  · have e : (f == fld) = false := by simpa using h
    simp [List.lookup, e, h, RelO]
theorem ps_raiseF {W : WX} {a : Expr} {ta : TA} {fI : Addr} {fld : Str} {k : Nat} (hc : X.calm = true) (tk : Takes X W) (T : ErrF X.prog X.w X.K X.mg x C fI fld) (hr : Room k X.A) (hk : 1 ≤ k) (ha : PA X [a] ta) (hg : Gl X x := by rfl) (hdb : (x == ("__debug__" : Str)) = false := by decide)
    (he : starEach (a :: []) X.env = (false, eval a X.env) :: starEach [] X.env := by rfl) (hpl : (backTo pos (starEach [] X.env)).any (·.1) = false := by rfl) :
    PS X (.Raise (some (.Call (.Name x p) [a] [] pos)) none pos2) (tRaiseF C fld W ta) := by
  refine ps_raise (t := fun σ H Q => ta σ H fun vs H1 => ∃ v, vs = [v] ∧ ShownV v ∧ ∀ d, H1 d = none → Q (.ref C) (some d) (upd H1 d (.xd [(fld, v)]))) hc tk ?_
  intro pins s σ H Q I h
  refine wpAny_Call_Name_kw (ld_glob I hg T.gC ?_ hdb)
  refine PySem.W.callWith_K (h₀ := X.base) I.ok.mod.kin T.sup.kC (thn (ha.run pos pins s σ H _ I h) fun us s1 hh => ?_) he hpl
  obtain ⟨vs, H1, I1, r1, v, ev, hsh, q1⟩ := hh
  subst ev
  refine ⟨I1.kIn, ?_⟩
  cases r1 with
  | @cons _ v' _ us' rv rn =>
    cases rn
    show wpAny _ _ (call (.ref C) [v']) _ _ _
    have hlim := I1.nolimit
    obtain ⟨mb, hB0, hB1⟩ := I1.mod.blt
    have hB : s1.heap.Ns builtinsNs mb := hB0.keeps I1.bk
    have hbs : mb "super" = some (.type "super") := (hB1 "super" (by decide)).trans (by decide +kernel)
    have hG : s1.heap.Ns mainGlobals X.mg := I1.mod.glob.keeps I1.bk
    have hsv : CcX.Shown v' := by
      rcases hsh with ⟨z, rfl, hz⟩ | ⟨i, rfl, hi⟩
      · obtain ⟨t, rfl⟩ := rv
        exact .inl ⟨z, t, rfl, hz⟩
      · obtain ⟨t, rfl⟩ := rv
        exact .inr ⟨i, t, rfl, hi⟩
    obtain ⟨hp, g, dr, tk', os⟩ := s1
    refine wpAny_call (CcX.sup_made T.sup hsv I1.kIn hlim hG hB hbs (by have := hr.dp; omega) fun h' tk2 e d M => ?_)
    show MkP X pins σ Q (.ref e) ⟨h', g, dr, tk2, os⟩
    obtain ⟨oe, fv, hoe, hcl, hd, hdat, h1⟩ := M.obj
    have hns := M.ns
    obtain ⟨G, g1, g2⟩ := restrict h' fun b => decide (b ≠ e)
    have gne : ∀ b, b ≠ e → G.get? b = h'.get? b := fun b hb => g1 b (decide_eq_true hb)
    have ge : G.get? e = none := g2 e (by simp)
    have old : ∀ b o, hp.get? b = some o → G.get? b = some o := fun b o q => (gne b (Nat.ne_of_lt (Nat.lt_of_lt_of_le (Heap.lt_size q) M.new))).trans (M.keep b o q)
    have ob : ObjOk X.prog X.w (upd H1 d (.xd [(fld, v)])) G d (.xd [(fld, v)]) := ⟨_, hns.at (fun o q => (gne d M.dne).trans q), fun f => relO_one rv fld f⟩
    have J : Inv X pins σ (upd H1 d (.xd [(fld, v)])) ⟨G, g, dr, tk2, os⟩ := I1.laid (t' := tk2) old M.dbig ob
    refine ⟨e, oe, fv, ⟨G, g, dr, tk2, os⟩, _, .ref C, some d, rfl, J, fun b o q => ?_, ge, hoe, ⟨hcl, hd⟩, hdat, h1, ?_, rfl, I1.bare, raises_own T.sup.exC T.sup.tyC, q1 d (I1.hok.fresh M.dbig)⟩
    · have q' : G.get? b = some o := q
      by_cases hb : b = e
      · rw [hb, ge] at q'; cases q'
      · exact (gne b hb).symm.trans q'
    · rw [upd_ne (Ne.symm M.dne)]
      exact I1.hok.fresh M.new
end
end Cc

/-! own classes: made, methods, properties, len, != -/
namespace Cc
open PySem L2 PyProof.Rows
/-- the class under the name x is called -/
def CMk (P : Program) (w : World) (K : Fg) (mg : Str → Option Value) (base : Heap) (CX : CXT) (n : Nat) (x : Str) (C : Addr) (ps : List Str) (sp : Sp) : Prop :=
  ∃ (f : Addr) (fd : FuncData), Mk K C f ∧ FnOk P w K mg base CX n f fd ps sp ∧ mg x = some (.ref C) ∧ L2.Binds K fd ps []
def CMet (P : Program) (w : World) (K : Fg) (mg : Str → Option Value) (base : Heap) (CX : CXT) (n : Nat) (C : Addr) (m : Str) (ps : List Str) (sp : Sp) : Prop :=
  ∃ (f : Addr) (fd : FuncData), Cls K C ∧ Meth K C m f ∧ FnOk P w K mg base CX n f fd ps sp ∧ L2.Binds K fd ps []
def CPrp (P : Program) (w : World) (K : Fg) (mg : Str → Option Value) (base : Heap) (CX : CXT) (n : Nat) (C : Addr) (f : Str) (sp : Sp) : Prop :=
  ∃ (p g : Addr) (fd : FuncData), Cls K C ∧ PropOf K C f p g ∧ FnOk P w K mg base CX n g fd ["self"] sp ∧ L2.Binds K fd ["self"] []
/-- nothing leaves -/
abbrev E0 : XK := fun _ _ _ => False
theorem passN {X : Cx} : Passes (L2.CX X.prog X.w) X E0 := passes_call LamX.takes0 fun _ _ _ _ h => h
section
variable {X : Cx} {CX : CXT} {n m : Nat} {x f mt : Str} {C : Addr} {ps : List Str} {sp : Sp} {E : XK} {e o : Expr} {es : List Expr} {t : TA} {ta : TE} {p pos apos : Pos}
theorem pe_mk (M : CMk X.prog X.w X.K X.mg X.base CX n x C ps sp) (hr : Room m X.A) (hx : Passes CX X E) (ha : PA X (e :: es) t) (hg : Gl X x := by rfl) (hn : n + 1 ≤ m := by decide)
    (hdb : (x == ("__debug__" : Str)) = false := by decide) (he : starEach (e :: es) X.env = (false, eval e X.env) :: starEach es X.env := by rfl) (hpl : (backTo pos (starEach es X.env)).any (·.1) = false := by rfl) : PE X (.Call (.Name x p) (e :: es) [] pos) (tMake C sp [] E t) := by
  obtain ⟨f, fd, M, F, hm, hb⟩ := M
  exact pe_make M F (hr.mono hn) hg hm hb .nil hx ha hdb he hpl
theorem pe_met {pl : Sem Bool} (M : CMet X.prog X.w X.K X.mg X.base CX n C mt ps sp) (hr : Room m X.A) (hx : Passes CX X E) (ho : PE X o ta) (ha : PA X (e :: es) t) (hn : n ≤ m := by decide)
    (hst : starEach (e :: es) X.env = (false, eval e X.env) :: starEach es X.env := by rfl) (hpl : (backTo pos (starEach es X.env)).any (·.1) = false := by rfl)
    (ht : eval (.Call (.Attribute o mt apos) (e :: es) [] pos) X.env = (do
      let ov ← eval o X.env
      standAt apos.atName
      let (f, first) ← holding [ov] (getMethod ov mt pl)
      callWith pos f first (backTo pos (starEach (e :: es) X.env)) (backToKw pos (keywordEach [] X.env))) := by rfl) : PE X (.Call (.Attribute o mt apos) (e :: es) [] pos) (tMeth C mt sp [] E ta t) := by
  obtain ⟨f, fd, c, hm, F, hb⟩ := M
  exact pe_meth ho c hm F (hr.mono hn) hb .nil hx ha hst hpl ht
theorem pe_prp (M : CPrp X.prog X.w X.K X.mg X.base CX n C f sp) (hr : Room m X.A) (hx : Passes CX X.nox E) (he : PE X e ta) (hn : n + 1 ≤ m := by decide) (hab : attributeBase e f X.env (eval e X.env) = eval e X.env := by rfl) : PE X (.Attribute e f pos) (tProp C sp [] E ta) := by
  obtain ⟨q, g, fd, c, hp, F, hb⟩ := M
  exact pe_prop he c hp F (hr.mono hn) hb .nil hx hab
/-- a call of a def that may raise -/
theorem pe_calS {W : WX} (K0 : Cal X.prog X.w X.K X.mg X.base (L2.CX X.prog X.w) n x ps sp) (hr : Room m X.A) (tk : Takes X W) (ha : PA X (e :: es) t) (hg : Gl X x := by rfl) (hn : n ≤ m := by decide)
    (hdb : (x == ("__debug__" : Str)) = false := by decide) (he : starEach (e :: es) X.env = (false, eval e X.env) :: starEach es X.env := by rfl) (hpl : (backTo pos (starEach es X.env)).any (·.1) = false := by rfl) : PE X (.Call (.Name x p) (e :: es) [] pos) (tCallS sp (WE W) t) := by
  obtain ⟨f, fd, F, hm, hk, hb⟩ := K0
  exact pe_callS F (hr.mono hn) hg hm hk hb (fun σ => passAt tk σ) ha hdb he hpl
/-! len(o) by an own __len__ -/
structure LenC (P : Program) (w : World) (K : Fg) (mg : Str → Option Value) (base : Heap) (n : Nat) (C : Addr) (sp : Sp) : Prop where
  run : ∃ (f : Addr) (fd : FuncData), FnOk P w K mg base CX0 n f fd ["self"] sp ∧ L2.Binds K fd ["self"] [] ∧ PySem.W.findIn K (.ref C) "__len__" = some (some (.ref f)) ∧ PySem.W.isFn K (.ref f) = true
def rLenI (C : Addr) (sp : Sp) : List V → Hp → VK → Prop := fun xs H Q => ∃ (a dx : Addr) (fs : List (Str × V)), xs = [.ref a] ∧ H a = some (.ins C dx fs) ∧ sp [.ref a] H (fun v H' => ∃ k : Int, v = .int k ∧ 0 ≤ k ∧ k < 2 ^ 63 ∧ Q v H') E0
theorem call_lenI (L : LenC X.prog X.w X.K X.mg X.base n C sp) (hr : Room m X.A) (hn : n + 1 ≤ m := by decide) : CallR X (.builtin "len") (rLenI C sp) := by
  intro pins s σ H xs us Q I r h
  obtain ⟨a, dx, fs, rfl, ea, h⟩ := h
  obtain ⟨f, fd, F, hb, hs, hf⟩ := L.run
  cases r with
  | cons rv rn =>
    cases rn
    cases rv
    obtain ⟨mA, O, _⟩ := ins_get I.hok ea
    obtain ⟨od, J, _⟩ := O.look
    obtain ⟨m', hF⟩ := I.fr
    refine PySem.W.len_K hF I.ok.mod.kin J hs hf ?_
    have hr1 : Room n X.A.in1 := (hr.mono hn).in1
    refine wpAny_call (codeAny_mono (F.run X.A.in1 X.stack s H ⟨[.ref a], []⟩ [.ref a] [.ref a] _ _ hr1 I.env0.in1 (by have := hb s [.ref a] I.kIn rfl; simpa using this) (.cons rfl .nil) h) fun r s' hq => ?_)
    cases r with
    | error e => exact (show False from hq).elim
    | ok fl =>
      cases fl with
      | ret u =>
        obtain ⟨v, H', I', rv, k, rfl, k0, k1, q⟩ := I.after hq
        obtain ⟨t, rfl⟩ := rv
        exact ⟨⟨k0, k1⟩, .int k, H', I'.tok _, ⟨_, rfl⟩, q⟩
      | next => exact False.elim hq
      | brk => exact False.elim hq
      | cont => exact False.elim hq
theorem ns_at {K : Fg} {h : Heap} {N : Addr} {mN : Str → Option Value} {y : Str} {v : Value} (kin : K.In h) (hns : h.Ns N mN) (e : PySem.W.nsIn K N y = some (some v)) : mN y = some v := by
  obtain ⟨o, es, ep, ho, hd, _, hf⟩ := hns
  unfold PySem.W.nsIn at e
  split at e
  · rename_i q
    have z := kin _ _ q
    rw [ho] at z
    cases z
    cases hd
    split at e
    · rename_i he
      cases e
      rw [← hf]
      unfold nsFind findBy
      rw [← Array.find?_toList, he]
      rfl
    · split at e <;> cases e
  · cases e
/-! o != u by an own __eq__ -/
structure NeC (P : Program) (w : World) (K : Fg) (mg : Str → Option Value) (base : Heap) (n : Nat) (C : Addr) (sp : Sp) : Prop where
  run : ∃ (f : Addr) (fd : FuncData), FnOk P w K mg base CX0 n f fd ["self", "other"] sp ∧ L2.Binds K fd ["self", "other"] [] ∧ PySem.W.typeIn K (.ref f) = some (.type "function") ∧
    ∃ nm q N bs hdct sn sub ab col dd k0 k1 k2 k3 k5 newId, K.lookup C = some (excClassObj nm q C N bs [.type "object"] hdct sn sub ab col dd k0 k1 k2 k3 k5 newId) ∧ PySem.W.nsOkIn K N = true ∧ PySem.W.nsIn K N "__eq__" = some (some (.ref f)) ∧ PySem.W.nsIn K N "__ne__" = some none
def rNeI (C : Addr) (sp : Sp) : R2 := fun x y H Q => ∃ (a b dx dy : Addr) (fs gs : List (Str × V)), x = .ref a ∧ y = .ref b ∧ H a = some (.ins C dx fs) ∧ H b = some (.ins C dy gs) ∧ sp [.ref a, .ref b] H (fun v H' => ∃ k : Bool, v = .bl k ∧ Q (.bl (!k)) H') E0
theorem op_neI (L : NeC X.prog X.w X.K X.mg X.base n C sp) (hr : Room m X.A) (hn : n + 1 ≤ m := by decide) : OpR X (compareOp .NotEq) (rNeI C sp) := by
  intro pins s σ H x y v u Q I rx ry h
  obtain ⟨a, b, dx, dy, fs, gs, rfl, rfl, ea, eb, h⟩ := h
  obtain ⟨f, fd, F, hb, hty, nm, q, N, bs, hdct, sn, sub, ab, col, dd, k0, k1, k2, k3, k5, newId, hC, hok, heq, hne⟩ := L.run
  cases rx
  cases ry
  obtain ⟨mA, O, _⟩ := ins_get I.hok ea
  obtain ⟨od, J, _⟩ := O.look
  obtain ⟨mB, O', _⟩ := ins_get I.hok eb
  obtain ⟨od', J', _⟩ := O'.look
  have XK := I.kIn
  have hns : s.heap.Ns N (s.heap.nsMap N) := Heap.Ns.of_isNs (PySem.W.isNs_of_in XK hok)
  have h1 : s.heap.nsMap N "__eq__" = some (.ref f) := ns_at XK hns heq
  have h2 : s.heap.nsMap N "__ne__" = none := PySem.W.ns_none_of XK hns hne
  obtain ⟨fo, hfo, hfc⟩ : ∃ fo, s.heap.get? f = some fo ∧ fo.cls = Value.type "function" := by
    have z : (List.lookup f X.K).map (·.cls) = some (Value.type "function") := hty
    rcases e : List.lookup f X.K with _ | fo
    · rw [e] at z; cases z
    · rw [e] at z; exact ⟨fo, XK _ _ e, Option.some.inj z⟩
  have ow : s.heap.OwnEqNoNe a C f "object" [.type "object"] :=
    ⟨_, fo, nm, q, N, bs, hdct, sn, sub, ab, col, dd, k0, k1, k2, k3, k5, newId, _, some (.builtin "object.__eq__"), J.at_, J.cls, XK _ _ hC, hns, h1, hfo, hfc, PySem.F.mro_object, by rw [typeLookup_type, builtinLookup_eq_fast]; kernel_rfl, h2⟩
  have hr1 : Room n X.A.in1 := (hr.mono hn).in1
  obtain ⟨hp, g, dr, tk, os⟩ := s
  refine compareOp_ne_ownEq PySem.F.cmp_object ow J'.at_ J'.cls (by have := hr.un; omega) ?_
  refine wpAny_call (codeAny_mono (F.run X.A.in1 X.stack _ H ⟨[.ref a, .ref b], []⟩ [.ref a, .ref b] [.ref a, .ref b] _ _ hr1 I.env0.in1 (by have := hb ⟨hp, g, dr, tk, os⟩ [.ref a, .ref b] I.kIn rfl; simpa using this) (.cons rfl (.cons rfl .nil)) h) fun r s' hq => ?_)
  cases r with
  | error e => exact (show False from hq).elim
  | ok fl =>
    cases fl with
    | ret u =>
      obtain ⟨v, H', I', rv, k, rfl, q⟩ := I.after hq
      cases rv
      exact ⟨k, rfl, .bl (!k), H', I', rfl, q⟩
    | next => exact False.elim hq
    | brk => exact False.elim hq
    | cont => exact False.elim hq
end
section
variable {K : Fg} {σ : L2.St} {H H' : Hp} {ta : TE} {t : TA} {d : D} {C : Addr} {ns : List Str} {ds es : List D} {f m : Str} {sp : Sp} {E : XK}
theorem lookup_none {fs : List (Str × V)} (hn : fs.map (·.1) = ns) (h : m ∉ ns) : fs.lookup m = none := by
  subst hn
  induction fs with
  | nil => rfl
  | cons p fs ih =>
    simp only [List.map_cons, List.mem_cons, not_or] at h
    have e : (m == p.1) = false := by simpa using h.1
    simp only [List.lookup, e]
    exact ih h.2
theorem lookup_at {fs : List (Str × V)} {w : V} : ∀ {i : Nat}, (fs.map (·.1)).Nodup → (fs.map (·.1))[i]? = some f → (fs.map (·.2))[i]? = some w → fs.lookup f = some w := by
  induction fs with
  | nil => intro i _ h1; simp at h1
  | cons p fs ih =>
    intro i hnd h1 h2
    cases i with
    | zero =>
      simp at h1 h2
      simp [List.lookup, h1, h2]
    | succ i =>
      have hnd' : p.1 ∉ fs.map (·.1) ∧ (fs.map (·.1)).Nodup := List.nodup_cons.mp hnd
      have hm : f ∈ fs.map (·.1) := List.mem_of_getElem? (by simpa using h1)
      have ne : (f == p.1) = false := by
        rw [beq_eq_false_iff_ne]
        rintro rfl
        exact hnd'.1 hm
      simp only [List.lookup, ne]
      exact ih hnd'.2 (by simpa using h1) (by simpa using h2)
/-- a property that hands a field out -/
theorem gd_prp {g : Str} {i : Nat} (h : GD K ta σ H (.ob C ns ds)) (hi : ns[i]? = some g) (hn : ns.Nodup) (hd : ds[i]? = some d) : GD K (tProp C (getSp C g) [] E ta) σ H d := fun H1 e Q q =>
  h H1 e _ fun v H2 e2 hv => by
    cases hv with
    | @ob a C dx fs ns ds ho hm ha =>
      subst hm
      obtain ⟨w, hw, hwd⟩ := ha.getD hd
      exact ⟨a, dx, fs, rfl, ho, a, dx, fs, w, rfl, ho, lookup_at hn hi hw, q w H2 e2 hwd⟩
theorem gd_meth (h : GD K ta σ H (.ob C ns ds)) (hm : m ∉ ns) (ha : GA K t σ H es) (hs : ∀ vs H1 Q, Same H H1 → Dns K H1 vs (.ob C ns ds :: es) → (∀ v H2, Same H1 H2 → Dn K H2 v d → Q v H2) → sp vs H1 Q E) : GD K (tMeth C m sp [] E ta t) σ H d := fun H1 e Q q =>
  h H1 e _ fun v H2 e2 hv => by
    have hv' := hv
    cases hv with
    | @ob a _ dx fs _ _ ho hnm hx =>
      refine ⟨a, dx, fs, rfl, ho, lookup_none hnm hm, ha H2 (e.trans e2) _ fun vs H3 e3 hvs => ?_⟩
      rw [List.append_nil]
      exact hs _ H3 Q ((e.trans e2).trans e3) (.cons (hv'.up e3) hvs) fun v H4 e4 hd => q v H4 ((e2.trans e3).trans e4) hd
theorem rc_lenI {k : Int} (h0 : 0 ≤ k) (h1 : k < 2 ^ 63) {α : Type} {args : α → List D} {pre : α → Prop} {res : α → D} (a : α) (ha : args a = [.ob C ns ds]) (hp : pre a) (hr : res a = .int k) : RCD K (rLenI C (spOf K args pre res)) [.ob C ns ds] (.int k) := fun vs H Q hv q => by
  obtain ⟨v, rfl, hw⟩ := hv.un1
  clear hv
  have hv' := hw
  cases hw with
  | @ob a' _ dx fs _ _ ho hnm hx =>
    refine ⟨a', dx, fs, rfl, ho, a, by rw [ha]; exact .cons hv' .nil, hp, fun v H2 e2 hd => ?_⟩
    rw [hr] at hd
    cases hd
    exact ⟨k, rfl, h0, h1, q _ H2 e2 (.int k)⟩
theorem r_neIns {b : Bool} {ns' : List Str} {es : List D} {α : Type} {args : α → List D} {pre : α → Prop} {res : α → D} (a : α) (ha : args a = [.ob C ns ds, .ob C ns' es]) (hp : pre a) (hr : res a = .bl b) : R2D K (rNeI C (spOf K args pre res)) (.ob C ns ds) (.ob C ns' es) (.bl (!b)) := fun x y H Q hx hy q => by
  have hx' := hx
  have hy' := hy
  cases hx with
  | @ob a1 _ dx fs _ _ ho hnm hfs =>
    cases hy with
    | @ob a2 _ dy gs _ _ ho2 hnm2 hgs =>
      refine ⟨a1, a2, dx, dy, fs, gs, rfl, rfl, ho, ho2, a, by rw [ha]; exact .cons hx' (.cons hy' .nil), hp, fun v H2 e2 hd => ?_⟩
      rw [hr] at hd
      cases hd
      exact ⟨b, rfl, q _ H2 e2 (.bl _)⟩
/-- C(..): what the new object becomes -/
theorem gd_make (ha : GA K t σ H es) (hs : ∀ vs H1 x dx Q, Same H H1 → Dns K H1 vs es → H1 x = none → H1 dx = none → dx ≠ x → (∀ H2 fs, Same H1 H2 → H2 x = some (.ins C dx fs) → fs.map (·.1) = ns → Dns K H2 (fs.map (·.2)) ds → Q .non H2) →
    sp (.ref x :: vs) (upd (upd H1 dx (.own x)) x (.ins C dx [])) Q E) : GD K (tMake C sp [] E t) σ H (.ob C ns ds) := fun H1 e Q q =>
  ha H1 e _ fun vs H2 e2 hv x dx hx hdx hne => by
    rw [List.append_nil]
    exact hs vs H2 x dx _ (e.trans e2) hv hx hdx hne fun H3 fs e3 ho hm hd => ⟨rfl, q _ H3 (e2.trans e3) (.ob ho hm hd)⟩
theorem gd_calS {W : WX} (ha : GA K t σ H es) (hs : ∀ vs H1 Q, Same H H1 → Dns K H1 vs es → (∀ v H2, Same H1 H2 → Dn K H2 v d → Q v H2) → sp vs H1 Q (WE W σ)) : GD K (tCallS sp (WE W) t) σ H d := fun H1 e Q q =>
  ha H1 e _ fun vs H2 e2 hv => hs vs H2 Q (e.trans e2) hv fun v H3 e3 hd => q v H3 (e2.trans e3) hd
end
end Cc

/-! fields of a new instance, stored one by one -/
namespace Cc
open PySem L2
mutual
/-- only plain values and tuples -/
def D.imm : D → Bool
  | .lst _ => false
  | .tup ds => D.imms ds
  | .ob _ _ _ => false
  | .adr _ => false
  | .ptup _ => false
  | _ => true
def D.imms : List D → Bool
  | [] => true
  | d :: ds => d.imm && D.imms ds
end
theorem D.imms_iff {ds : List D} : D.imms ds = true ↔ ∀ d ∈ ds, d.imm = true := by
  induction ds with
  | nil => simp [D.imms]
  | cons d ds ih => simp [D.imms, ih]
section
variable {K : Fg} {H H' : Hp}
mutual
theorem Dn.byT (e : ∀ a xs, SqT K H a xs → SqT K H' a xs) : ∀ (d : D) (v : V), d.imm = true → Dn K H v d → Dn K H' v d
  | .non, _, _, h => by cases h; exact .non
  | .bl b, _, _, h => by cases h; exact .bl b
  | .int i, _, _, h => by cases h; exact .int i
  | .str x, _, _, h => by cases h; exact .str x
  | .lst _, _, f, _ => by cases f
  | .ob _ _ _, _, f, _ => by cases f
  | .adr _, _, f, _ => by cases f
  | .ptup _, _, f, _ => by cases f
  | .tup ds, _, f, h => by
    cases h with
    | tup hs ha => exact .tup (e _ _ hs) (Dns.byT e ds _ f ha)
theorem Dns.byT (e : ∀ a xs, SqT K H a xs → SqT K H' a xs) : ∀ (ds : List D) (vs : List V), D.imms ds = true → Dns K H vs ds → Dns K H' vs ds
  | [], _, _, h => by cases h; exact .nil
  | d :: ds, _, f, h => by
    cases h with
    | cons h1 h2 =>
      have f' : d.imm = true ∧ D.imms ds = true := by simpa [D.imms] using f
      exact .cons (Dn.byT e d _ f'.1 h1) (Dns.byT e ds _ f'.2 h2)
end
theorem sqT_upd {x C dx : Addr} {fs : List (Str × V)} {o : HO} (hx : H x = some (.ins C dx fs)) : ∀ a xs, SqT K H a xs → SqT K (upd H x o) a xs := fun a xs h => by
  have ne : ∀ u, H a = some u → (∀ C dx fs, u ≠ .ins C dx fs) → a ≠ x := fun u hu n z => by
    subst z
    rw [hx] at hu
    exact n _ _ _ (Option.some.inj hu).symm
  rcases h with (h | ⟨q, h⟩) | h
  · exact .inl (.inl (by rw [upd_ne (ne _ h fun _ _ _ z => by cases z)]; exact h))
  · exact .inl (.inr ⟨q, by rw [upd_ne (ne _ h fun _ _ _ z => by cases z)]; exact h⟩)
  · exact .inr h
theorem putF_new {f : Str} {v : V} : ∀ {fs : List (Str × V)}, f ∉ fs.map (·.1) → putF f v fs = fs ++ [(f, v)]
  | [], _ => rfl
  | (g, x) :: r, h => by
    simp only [List.map_cons, List.mem_cons, not_or] at h
    have e : ¬ g = f := fun z => h.1 z.symm
    simp only [putF, if_neg e, List.cons_append]
    rw [putF_new h.2]
variable {σ : L2.St} {to te : TE} {d : D} {ds : List D} {ns : List Str} {f : Str} {E : Ends}
theorem s_fldN {x C dx : Addr} {fs : List (Str × V)} (ho : ∀ H1, Same H H1 → ∀ Q : VK, Q (.ref x) H1 → to σ H1 Q) (he : GD K te σ H d) (hx : H x = some (.ins C dx fs)) (hm : fs.map (·.1) = ns) (hd : Dns K H (fs.map (·.2)) ds) (hi : D.imms ds = true) (hi2 : d.imm = true) (hf : f ∉ ns) (hl : ns.length < 900)
    (c : Cls K C) (n : NoAttr K C f) (k : ∀ H2 fs', But [x] H H2 → H2 x = some (.ins C dx fs') → fs'.map (·.1) = ns ++ [f] → Dns K H2 (fs'.map (·.2)) (ds ++ [d]) → E.nx σ H2) : sFld K to te f E σ H :=
  he H (Same.refl _) _ fun v H1 e1 hv => ho H1 e1 _ (by
    have hx1 := e1 _ _ hx
    have hle : fs.length < 1000 := by
      have : fs.length = ns.length := by rw [← hm]; simp
      omega
    refine ⟨x, C, dx, fs, rfl, hx1, c, n, hle, ?_⟩
    rw [putF_new (by rw [hm]; exact hf)]
    refine k _ _ ((But.of e1).trans (But.upd (by simp))) upd_same (by simp [hm]) ?_
    rw [List.map_append]
    exact Dns.app (Dns.byT (sqT_upd hx1) ds _ hi (hd.up e1)) (.one (Dn.byT (sqT_upd hx1) d v hi2 hv)))
theorem s_raiseS {C : Addr} {fld z : Str} {W : WX} {j : TA} (hz : z.length ≤ 1000) (k : ∀ dd, H dd = none → W (.ref C) (some dd) σ (upd H dd (.xd [(fld, .str z)]))) : tRaiseF C fld W (tCons (tC (.str z)) tNil) E σ H :=
  ⟨.str z, rfl, .inl ⟨z, rfl, hz⟩, k⟩
end
end Cc

/-! an error that is held in an except suite: isinstance, its field; counting in a list -/
namespace Cc
open PySem L2 PyProof.Rows
/-- what isinstance of such an error gives: with a dict or without one -/
def rIsX (K : Fg) (a : Addr) (cls : Value) (d : Option Addr) : List V → Hp → VK → Prop := fun xs H Q => ∃ (D : Addr) (c : V) (cv : Value) (b : Bool), cls = .ref D ∧ ExcC K D ∧ (d = none ∨ ∃ dd fs, d = some dd ∧ H dd = some (.xd fs)) ∧ xs = [.ref a, c] ∧ ClsV c cv ∧ PySem.W.kitOne K (.ref D) cv = some b ∧ Q (.bl b) H
section
variable {X : Cx} {a : Addr} {oe : Obj} {cls : Value} {d : Option Addr} {pn : List (Addr × Obj)}
theorem clsV_rel {c : V} {cv u : Value} (h : ClsV c cv) (r : RelV c u) : u = cv := by cases h <;> exact r
theorem isX (hz : Zc cls d oe) (hf : ∃ vs, oe.data = .fields vs) {K : Fg} (hK : X.K = K := by rfl) : CallR (X.suite a ((a, oe) :: pn)) (.builtin "isinstance") (rIsX K a cls d) := by
  subst hK
  intro pins s σ H xs us Q I r h
  obtain ⟨D, c, cv, b, rfl, hD, hd, rfl, hc, hk, q⟩ := h
  cases r with
  | cons rx rr =>
    cases rr with
    | cons rt rr =>
      cases rr
      cases rx
      have ec := clsV_rel hc rt
      subst ec
      obtain ⟨hget, _⟩ := I.pin (a, oe) (List.mem_append.mpr (.inl List.mem_cons_self))
      obtain ⟨vs, hv⟩ := hf
      have hcl : (PySem.W.clsIn X.K D).isSome = true := by
        obtain ⟨cd, e, _⟩ := PySem.W.any_some hD.hd
        rw [e]; rfl
      have nc : PySem.W.notCls oe = true := by unfold PySem.W.notCls; rw [hv]
      have fin : ∀ tk, EP (X.suite a ((a, oe) :: pn)) pins σ Q (.bool b) { s with toks := tk } := fun tk => ⟨.bl b, H, I.kept (t' := tk) fun _ _ z => z, rfl, q⟩
      rcases hd with rfl | ⟨dd, fs, rfl, hx⟩
      · have J : PySem.W.InstAt s.heap a oe D none := ⟨hget, hz.1, nc, by rw [hz.2]; trivial⟩
        exact PySem.W.kia_one (PySem.W.kitx_exc hcl hD.hg hD.hk hD.hs hD.ha hD.hn hD.ht hD.hm) I.kIn J hk (fun z => nomatch z) fin
      · have ho : ObjOk X.prog X.w H s.heap dd (.xd fs) := I.hok dd _ hx
        obtain ⟨mA, ⟨od, _, _, hod, _⟩, _⟩ := ho
        have J : PySem.W.InstAt s.heap a oe D (some od) := ⟨hget, hz.1, nc, by rw [hz.2]; exact hod⟩
        exact PySem.W.kia_one (PySem.W.kitx_exc hcl hD.hg hD.hk hD.hs hD.ha hD.hn hD.ht hD.hm) I.kIn J hk (fun z => nomatch z) fin
/-- a field of the held error, its class told when it is read -/
def tXg (K : Fg) (a : Addr) (cls : Value) (d : Option Addr) (f : Str) (te : TE) : TE := fun σ H Q => te σ H fun x H1 => x = .ref a ∧ ∃ (C dd : Addr) (fs : List (Str × V)) (v : V), cls = .ref C ∧ XfC K C ∧ PySem.W.findIn K (.ref C) f = some none ∧ d = some dd ∧ H1 dd = some (.xd fs) ∧ fs.lookup f = some v ∧ Q v H1
theorem pe_xg {e : Expr} {te : TE} {pos : Pos} {n : Str} (hz : Zc cls d oe) (hf : ∃ vs, oe.data = .fields vs) (he : PE (X.suite a ((a, oe) :: pn)) e te) (hb : attributeBase e n X.env (eval e X.env) = eval e X.env := by rfl) {K : Fg} (hK : X.K = K := by rfl) : PE (X.suite a ((a, oe) :: pn)) (.Attribute e n pos) (tXg K a cls d n te) := by
  subst hK
  refine ⟨fun pins s σ H Q I h => attr_of hb (thn (he.run pins s σ H _ I h) fun u s1 hh => ?_)⟩
  obtain ⟨x, H1, I1, rx, rfl, C, dd, fs, v, rfl, XC, hno, rfl, ea, l, q⟩ := hh
  obtain rfl : u = Value.ref a := rx
  obtain ⟨hat, _⟩ := I1.pin (a, oe) (List.mem_append_left _ List.mem_cons_self)
  obtain ⟨vs, hdat⟩ := hf
  have hxd : ObjOk X.prog X.w H1 s1.heap dd (.xd fs) := I1.hok dd _ ea
  obtain ⟨mA, hns, hr⟩ := hxd
  obtain ⟨od, ho, hl⟩ := lookIn_ns hns
  obtain ⟨u, hu, ru⟩ := RelO.some_of (v := v) (o := mA n) (by rw [← l]; exact hr n)
  have nc : PySem.W.notCls oe = true := by unfold PySem.W.notCls; rw [hdat]
  have J : PySem.W.InstAt s1.heap a oe C (some od) := ⟨hat, hz.1, nc, by rw [hz.2]; exact ho⟩
  exact HandSPX.exc_get I1.kIn J XC.ga XC.gg XC.exC (PySem.W.findObj_own XC.hdC hno rfl (by rw [hl, hu])) (handed_of ru) ⟨v, H1, I1.tok _, ru, q⟩
/-- xs.count(y), all plain -/
def rCntF (K : Fg) : V → List V → Hp → VK → Prop := fun x xs H Q => ∃ (p : Addr) (ys : List V) (y : V), x = .ref p ∧ xs = [y] ∧ SqL K H p ys ∧ flatV y = true ∧ ys.all flatV = true ∧ Q (.int (ys.countP fun z => eqV z y : Nat)) H
theorem count_eqU {x : V} : ∀ {xs : List V} {us : List Value}, Vals xs us → xs.all flatV = true → us.countP (eqU x) = xs.countP fun y => eqV y x
  | _, _, .nil, _ => rfl
  | y :: xs, u :: us, .cons r t, f => by
    simp only [List.all_cons, Bool.and_eq_true] at f
    simp only [List.countP_cons, eqU_of r f.1, count_eqU t f.2]
theorem mt_cntF {K : Fg} (hK : X.K = K := by rfl) : MtR X "list.count" (rCntF K) := by
  subst hK
  intro pins s σ H x xs v us Q I rx rxs h
  obtain ⟨p, ys, y, rfl, rfl, hs, fy, fys, q⟩ := h
  cases rx
  obtain ⟨uy, rfl, ry⟩ := rxs.one
  obtain ⟨its, rv, ⟨⟨cl, dd, data, sl⟩, n, ho, hc, hdn, hdt⟩, hlen⟩ := I.list hs
  simp only at hc hdt
  subst hc hdt
  refine call_meets PySem.F.slot_list_count ⟨_, ho, rfl⟩ PySem.F.entry_list_count (PySem.F.args_list_count_2 _ _) (SeqAt.list_countAt p its.toArray n dd sl uy (eqU y)) ⟨ho, fun u' hu' => mem_eqAt ry fy rv fys u' (by simpa using hu'), ?_⟩
  have ec : its.toArray.toList.countP (eqU y) = ys.countP fun z => eqV z y := by simpa using count_eqU rv fys
  refine ⟨.int (ys.countP (fun z => eqV z y) : Nat), H, I.tok _, ⟨s.toks, ?_⟩, q⟩
  rw [← ec]
theorem mt_idxK {K : Fg} (hK : X.K = K := by rfl) : MtR X "list.index" (rIndex K) := hK ▸ mt_index
theorem pe_bmK {K : Fg} {T id : String} {name : Str} {o e : Expr} {es : List Expr} {to : TE} {t : TA} {apos cpos : Pos} {r : V → List V → Hp → VK → Prop} (pa : PlainAttrs T) (slot : Slot T name id) (hty : typeOf (.builtin id) = pure (.type "method_descriptor")) (hm : MtR X id r) (ho : PE X o to) (ha : PA X (e :: es) t)
    (hK : X.K = K := by rfl) (hbase : attributeBase o name X.env (eval o X.env) = eval o X.env := by rfl) (hline : (apos.endLine == cpos.line) = true := by rfl)
    (hfew : ((backTo cpos (starEach (e :: es) X.env)).all (fun x => !x.1) && (backToKw cpos (keywordEach [] X.env)).all (fun x => x.1.isSome) && decide ((e :: es).length + ([] : List Keyword).length + (if ([] : List Keyword).isEmpty then 0 else 1) < 30)) = true := by rfl)
    (he : starEach (e :: es) X.env = (false, eval e X.env) :: starEach es X.env := by rfl) (hpl : (backTo cpos (starEach es X.env)).any (·.1) = false := by rfl) : PE X (.Call (.Attribute o name apos) (e :: es) [] cpos) (tBM K T r to t) := by
  subst hK
  exact pe_bm pa slot hty hm ho ha hbase hfew hline he hpl
end
end Cc

/-! what a law's own body wants more -/
namespace Cc
open PySem L2 PyProof.Rows
def rRepS : R2 := fun x y H Q => ∃ (z : Str) (n : Int), x = .str z ∧ y = .int n ∧ MulOk z n ∧ Q (.str (Txt.mul z n)) H
theorem op_repS {X : Cx} : OpR X (binaryOp .Mult) rRepS := by
  intro pins s σ H x y v u Q I rx ry h
  obtain ⟨z, n, rfl, rfl, ok, q⟩ := h
  obtain ⟨t, rfl⟩ := rx
  obtain ⟨t', rfl⟩ := ry
  exact SB.mul ok fun t2 k => ⟨.str (Txt.mul z n), H, I.tok _, ⟨_, rfl⟩, q⟩
theorem repT {X : Cx} {K : Fg} (h : X.K = K := by rfl) : OpR X (binaryOp .Mult) (rRepT K) := h ▸ op_repT
section
variable {K : Fg} {σ : L2.St} {H H' : Hp} {ta tb te : TE} {d e z : D} {E : Ends}
theorem r_neg {i : Int} : R1D K (rU fun i => .int (-i)) (.int i) (.int (-i)) := fun x H Q hx q => by
  cases hx
  exact ⟨i, rfl, q _ H (Same.refl _) (.int _)⟩
theorem r_repS {z y : Str} {n : Int} (ok : MulOk z n) (h : Txt.mul z n = y) : R2D K rRepS (.str z) (.int n) (.str y) := fun v w H Q hv hw q => by
  cases hv; cases hw
  subst h
  exact ⟨z, n, rfl, rfl, ok, q _ H (Same.refl _) (.str _)⟩
theorem r_repT {ds : List D} {k : Int} (h0 : ds ≠ []) (h1 : 2 ≤ k) (h2 : k ≤ 1000) (h3 : ds.length ≤ 1000) : R2D K (rRepT K) (.tup ds) (.int k) (.tup (List.replicate k.toNat ds).flatten) := fun v w H Q hv hw q => by
  cases hw
  cases hv with
  | @tup a xs _ hs hd =>
    have hl := hd.length
    refine ⟨a, k, xs, rfl, rfl, hs, fun z => ?_, h1, h2, by omega, fun p hp => q _ _ (Same.new hp) (.tup (.inl (.inl upd_same)) ((Dns.rep hd k.toNat).up (Same.new hp)))⟩
    subst z
    have : ds.length = 0 := by simpa using hl.symm
    exact h0 (List.eq_nil_of_length_eq_zero this)
/-- a, b = e by way of a tuple -/
theorem s_asgT {i j : Nat} (h : GD K te σ H (.tup [d, e])) (k : ∀ v w H1, Same H H1 → Dn K H1 v d → Dn K H1 w e → E.nx ((σ.set i (some v)).set j (some w)) H1) : tAsg te (gTup K 2 (gCons (gName i) (gCons (gName j) gNil))) E σ H := h H (Same.refl _) _ fun v H1 e1 hv => by
  cases hv with
  | @tup a xs _ hs hd =>
    obtain ⟨x, y, rfl, hx, hy⟩ := hd.un2
    exact ⟨a, _, rfl, hs, rfl, _, _, rfl, _, _, rfl, rfl, k x y H1 e1 hx hy⟩
theorem ext_kp (e : LamX.ExtN H H') : Kp H H' := fun b o h i => e b o h fun ps z => by subst z; cases i
theorem ext_lst (e : LamX.ExtN H H') {a : Addr} {xs : List V} (h : H a = some (.lst xs)) : H' a = some (.lst xs) := e a _ h fun ps z => by cases z
theorem tabs_but {T : List (Addr × Str)} {r : Addr} {xs : List V} (h : LamX.Tabs T H) (hr : H r = some (.lst xs)) (b : But [r] H H') : LamX.Tabs T H' := fun p hp => by
  obtain ⟨ps, h1, h2, h3⟩ := h p hp
  have nr : ∀ c o, H c = some o → (∀ ys, o ≠ .lst ys) → c ∉ [r] := fun c o hc hn hm => by
    rw [List.mem_singleton.mp hm, hr] at hc
    exact hn xs (Option.some.inj hc).symm
  refine ⟨ps, b _ _ h1 (nr _ _ h1 fun ys z => by cases z), h2, fun pos cv hcv => ?_⟩
  obtain ⟨c, e1, e2⟩ := h3 pos cv hcv
  exact ⟨c, e1, b _ _ e2 (nr _ _ e2 fun ys z => by unfold LamX.CodeO at z; cases z)⟩
end
end Cc

/-! counting in a tuple -/
namespace Cc
open PySem L2 PyProof.Rows
def rCntT (K : Fg) : V → List V → Hp → VK → Prop := fun x xs H Q => ∃ (p : Addr) (ys : List V) (y : V), x = .ref p ∧ xs = [y] ∧ SqT K H p ys ∧ flatV y = true ∧ ys.all flatV = true ∧ Q (.int (ys.countP fun z => eqV z y : Nat)) H
theorem mt_cntT {X : Cx} {K : Fg} (hK : X.K = K := by rfl) : MtR X "tuple.count" (rCntT K) := by
  subst hK
  intro pins s σ H x xs v us Q I rx rxs h
  obtain ⟨p, ys, y, rfl, rfl, hs, fy, fys, q⟩ := h
  cases rx
  obtain ⟨uy, rfl, ry⟩ := rxs.one
  obtain ⟨its, rv, ⟨⟨cl, dd, data, sl⟩, ho, hc, n, hdt⟩, hlen⟩ := I.tuple hs
  simp only at hc hdt
  subst hc hdt
  refine call_meets PySem.F.slot_tuple_count ⟨_, ho, rfl⟩ PySem.F.entry_tuple_count (PySem.F.args_tuple_count_2 _ _) (SeqAt.tuple_countAt p its.toArray n dd sl uy (eqU y)) ⟨ho, fun u' hu' => mem_eqAt ry fy rv fys u' (by simpa using hu'), ?_⟩
  have ec : its.toArray.toList.countP (eqU y) = ys.countP fun z => eqV z y := by simpa using count_eqU rv fys
  refine ⟨.int (ys.countP (fun z => eqV z y) : Nat), H, I.tok _, ⟨s.toks, ?_⟩, q⟩
  rw [← ec]
end Cc

/-! tuples of exact type made at run time: made by a literal and by +, a method called on them -/
namespace Cc
open PySem L2 PyProof.Rows
section
variable {X : Cx}
def tTupP (t : TA) : TE := fun σ H Q => t σ H fun xs H1 => xs.length ≤ sizeLine ∧ ∀ p o, H1 p = none → PlO o → Q (.ref p) (upd H1 p (.frz o (.tup xs)))
theorem pe_tupP {es : List Expr} {t : TA} {pos : Pos} {x1} (h : PA X es t) : PE X (.Tuple es x1 pos) (tTupP t) := by
  refine ⟨fun pins s σ H Q I hq => ?_⟩
  refine wpAny_Tuple_spliced (thn (h.run pos pins s σ H _ I hq) fun us s1 ⟨xs, H1, I1, r, z, q⟩ => ⟨by rw [← r.length]; exact z, ?_⟩)
  have hf : H1 s1.heap.objs.size = none := I1.hok.fresh (Nat.le_refl _)
  have hg := Heap.get?_push_size (h := s1.heap) (o := { cls := .type "tuple", data := .seq us.toArray }) rfl
  refine ⟨.ref s1.heap.objs.size, upd H1 s1.heap.objs.size (.frz _ (.tup xs)), I1.laid (t' := s1.toks) (fun b u e => Heap.get?_push_of_some _ e) (Nat.le_refl _) ⟨hg, z, us, r, ⟨_, hg, rfl, _, rfl⟩⟩, rfl, q _ _ hf ⟨rfl, rfl⟩⟩
/-- t + u, both of exact type -/
def rCatP : R2 := fun x y H Q => ∃ a b xs ys, x = .ref a ∧ y = .ref b ∧ PlT H a xs ∧ PlT H b ys ∧ xs.length + ys.length ≤ sizeLine ∧
  (xs = [] → Q (.ref b) H) ∧ (xs ≠ [] → ys = [] → Q (.ref a) H) ∧ (xs ≠ [] → ys ≠ [] → ∀ p o, H p = none → PlO o → Q (.ref p) (upd H p (.frz o (.tup (xs ++ ys)))))
theorem op_catP : OpR X (binaryOp .Add) rCatP := by
  intro pins s σ H x y v u Q I rx ry h
  obtain ⟨a, b, xs, ys, rfl, rfl, ha, hb, hz, q0, q1, q2⟩ := h
  cases rx
  cases ry
  obtain ⟨its, r1, p1, _⟩ := I.tuple (ha.sq (K := X.K))
  obtain ⟨its2, r2, p2, _⟩ := I.tuple (hb.sq (K := X.K))
  by_cases hx : xs = []
  · subst hx
    cases r1
    exact cat_tup0 p1 p2 ⟨.ref b, H, I, rfl, q0 rfl⟩
  refine HT.cat_tup p1 p2 (fun z => hx (r1.nil_iff.mp z)) (fun z => ⟨.ref a, H, I, rfl, q1 hx (r2.nil_iff.mp z)⟩) (fun z => ?_) (by rw [← r1.length, ← r2.length]; exact hz)
  have hg := Heap.get?_push_size (h := s.heap) (o := { cls := .type "tuple", data := .seq (its ++ its2).toArray }) rfl
  refine ⟨.ref s.heap.objs.size, upd H s.heap.objs.size (.frz { cls := .type "tuple", data := .seq (its ++ its2).toArray } (.tup (xs ++ ys))), I.laid (t' := s.toks) (fun b ob q => Heap.get?_push_of_some _ q) (Nat.le_refl _) ⟨?_, by rw [List.length_append]; exact hz, its ++ its2, r1.append r2, ?_⟩, rfl, q2 hx (fun w => z (r2.nil_iff.mpr w)) _ _ (I.hok.fresh (Nat.le_refl _)) ⟨rfl, rfl⟩⟩
  · simpa using hg
  · simpa using IsTup.new _ _
/-- a method called on a tuple of exact type -/
def tBMP (r : V → List V → Hp → VK → Prop) (to : TE) (t : TA) : TE := fun σ H Q => to σ H fun x H1 => (∃ p xs, x = .ref p ∧ PlT H1 p xs) ∧ t σ H1 fun xs H2 => r x xs H2 Q
theorem pe_bmP {id : String} {name : Str} {o e : Expr} {es : List Expr} {to : TE} {t : TA} {apos cpos : Pos} {r : V → List V → Hp → VK → Prop} (slot : Slot "tuple" name id) (hty : typeOf (.builtin id) = pure (.type "method_descriptor")) (hm : MtR X id r) (ho : PE X o to) (ha : PA X (e :: es) t)
    (hbase : attributeBase o name X.env (eval o X.env) = eval o X.env := by rfl)
    (hfew : ((backTo cpos (starEach (e :: es) X.env)).all (fun x => !x.1) && (backToKw cpos (keywordEach [] X.env)).all (fun x => x.1.isSome) && decide ((e :: es).length + ([] : List Keyword).length + (if ([] : List Keyword).isEmpty then 0 else 1) < 30)) = true := by rfl)
    (hline : (apos.endLine == cpos.line) = true := by rfl) (hs : starEach (e :: es) X.env = (false, eval e X.env) :: starEach es X.env := by rfl) (hpl : (backTo cpos (starEach es X.env)).any (·.1) = false := by rfl) : PE X (.Call (.Attribute o name apos) (e :: es) [] cpos) (tBMP r to t) := by
  refine ⟨fun pins s σ H Q I h => ?_⟩
  refine wpAny_Call_method_late hbase hfew hline rfl (thn (ho.run pins s σ H _ I h) fun v s1 ⟨x, H1, I1, rx, ⟨p, ws, ex, po, pc, pe⟩, q1⟩ => ?_)
  subst ex
  cases rx
  obtain ⟨hg, _⟩ := (show ObjOk X.prog X.w H1 s1.heap p (.frz po (.tup ws)) from I1.hok p _ pe)
  refine ⟨"tuple", id, PySem.F.plainAttrs_tuple, slot, hty, ⟨po, hg, pc.1⟩, fun a' e' => ?_, ?_⟩
  · cases e'
    exact ⟨po, hg, pc.2⟩
  have hA := ha.run cpos pins s1 σ H1 _ I1 q1
  rw [hs] at hA ⊢
  refine Calls.callWith_builtin (by show (false || (backTo cpos (starEach es X.env)).any (·.1)) = false; rw [hpl] <;> rfl) (Calls.evalArgs_plain ?_)
  exact thn hA fun us s2 ⟨vs, H2, I2, r2, q2⟩ => hm pins s2 σ H2 (.ref p) vs (.ref p) us Q I2 rfl r2 q2
end
section
variable {K : Fg} {σ : L2.St} {H : Hp}
theorem gd_tupP {ta : TA} {ds : List D} (ha : GA K ta σ H ds) (hl : ds.length ≤ 100000) : GD K (tTupP ta) σ H (.ptup ds) := fun H1 a Q q =>
  ha H1 a _ fun x H2 a2 hx => ⟨by rw [hx.length, sizeLine_eq]; omega, fun p o hp ho => q _ _ (a2.trans (Same.new hp)) (.ptup ⟨o, ho, upd_same⟩ (hx.up (Same.new hp)))⟩
theorem r_catP {ds es : List D} (h : ds.length + es.length ≤ 100000) : R2D K rCatP (.ptup ds) (.ptup es) (.ptup (ds ++ es)) := fun x y H Q hx hy q => by
  cases hx with
  | @ptup a xs _ hs ha =>
    cases hy with
    | @ptup b ys _ hs2 hb =>
      refine ⟨a, b, xs, ys, rfl, rfl, hs, hs2, by rw [ha.length, hb.length, sizeLine_eq]; omega, fun e => ?_, fun _ e => ?_, fun _ _ p o hp ho => q _ _ (Same.new hp) (.ptup ⟨o, ho, upd_same⟩ ((ha.app hb).up (Same.new hp)))⟩
      · subst e
        cases ha
        exact q _ H (Same.refl _) (.ptup hs2 hb)
      · subst e
        cases hb
        rw [List.append_nil] at q
        exact q _ H (Same.refl _) (.ptup hs ha)
/-- what is known of tuples may be forgotten -/
theorem Dns.ofP {f g : α → D} (h : ∀ a, ∃ ds, f a = .ptup ds ∧ g a = .tup ds) : ∀ {l : List α} {xs : List V}, Dns K H xs (l.map f) → Dns K H xs (l.map g)
  | [], _, hx => by cases hx; exact .nil
  | a :: l, _, hx => by
    cases hx with
    | cons h1 h2 =>
      refine .cons ?_ (Dns.ofP h h2)
      obtain ⟨ds, e1, e2⟩ := h a
      rw [e1] at h1
      show Dn K H _ (g a)
      rw [e2]
      cases h1 with
      | ptup hs hd => exact .tup hs.sq hd
end
end Cc

/-! divmod, xs[j] += e, xs[a::n], the least of a list, t * n -/
namespace Cc
open PySem PySem.Spec L2 PyProof.Rows
theorem _root_.L2.Room.units65 {k : Nat} {A : Around} (r : Room k A) : A.units + 65 < cLine := by have := r.un; omega
/-! t * n -/
theorem tuple_mul1 (l : Addr) (items : Array Value) (n : Nat) (dd : Option Addr) (sl : Array (Option Value)) (u : Tok) :
    Meets (Builtin.«tuple.__mul__» ⟨[.ref l, .int 1 u], []⟩) (fun _ R s => s.heap.get? l = some { cls := .type "tuple", dict := dd, data := .seq items n, slots := sl } ∧ R (.ok (.ret (Value.ref l))) s) :=
  .of_wp fun prog w A R s h => by
    obtain ⟨hp, g, d, tk, os⟩ := s
    obtain ⟨hl, h⟩ := h
    have f1 := AutoSeq1.idx_int
    have c0 : (decide ((1 : Int) < -(2 ^ 63)) || decide ((1 : Int) ≥ 2 ^ 63)) = false := by decide
    have c1 : (items.isEmpty || (1 : Int) == 1) = true := by simp
    wp_walk using wpAny_loadPart' hl
    repeat (first
      | (refine wpAny_ite_false (decide_eq_false (by rw [c0]; exact Bool.false_ne_true)) ?_; wp_walk using wpAny_loadPart' hl)
      | (refine wpAny_ite_true (decide_eq_true (by rw [c1])) ?_; wp_walk using wpAny_loadPart' hl))
    first
      | exact ⟨_, rfl, h⟩
      | exact h
def rRepTA (K : PySem.W.Frag) : R2 := fun x y H Q => ∃ l k xs, x = .ref l ∧ y = .int k ∧ SqT K H l xs ∧ xs ≠ [] ∧ 1 ≤ k ∧ k ≤ 1000 ∧ xs.length ≤ 1000 ∧ (k = 1 → Q (.ref l) H) ∧ (2 ≤ k → ∀ p, H p = none → Q (.ref p) (upd H p (.tup (List.replicate k.toNat xs).flatten)))
theorem op_repTA {X : Cx} : OpR X (binaryOp .Mult) (rRepTA X.K) := by
  intro pins s σ H x y v u Q I rx ry h
  obtain ⟨l, k, xs, rfl, rfl, hT, hne, h1, h2, hz, q1, q2⟩ := h
  by_cases hk : k = 1
  · subst hk
    cases rx
    obtain ⟨t, rfl⟩ := ry
    obtain ⟨its, r, ⟨⟨cls, dd, data, sl⟩, ho, hc, n, hd⟩, hs⟩ := I.tuple hT
    simp only at hc hd
    subst hc hd
    exact wpAny_binaryOp_repeat_ref (T := "tuple") (U := "int") (by decide) ⟨_, ho, rfl⟩ (fun s' => typeIs_int s' 1 t) noFill_tuple_mul F.fills_int_mul F.slot_int_rmul repeat_tuple F.slot_int_index.lookup
      (call_meets F.slot_int_rmul (typeIs_int s 1 t) F.entry_int_rmul (F.args_int_rmul_2 _ _) (int_rmul_tuple 1 t l its.toArray n dd sl)
        ⟨ho, rfl, ⟨_, ho, rfl⟩, call_meets F.slot_tuple_mul ⟨_, ho, rfl⟩ F.entry_tuple_mul (F.args_tuple_mul_2 _ _) (tuple_mul1 l its.toArray n dd sl t) ⟨ho, .ref l, H, I, rfl, q1 rfl⟩⟩)
  · exact op_repT pins s σ H (.ref l) (.int k) v u Q I rx ry ⟨l, k, xs, rfl, rfl, hT, hne, by omega, h2, hz, q2 (by omega)⟩
theorem repTA {X : Cx} {K : Fg} (h : X.K = K := by rfl) : OpR X (binaryOp .Mult) (rRepTA K) := h ▸ op_repTA
/-! xs[j] += e -/
theorem get_list {X : Cx} : PGet X (rIxL X.K) := by
  intro pins s σ H o i ov iv Q I ro ri h
  obtain ⟨p, xs, k, v, rfl, rfl, hx, hv, q⟩ := h
  cases ro
  obtain ⟨t, rfl⟩ := ri
  obtain ⟨its, r, hl, hz⟩ := I.list hx
  have hlen := r.length
  obtain ⟨j, h1, h2, h3, h4, h5⟩ := atI_get hv
  obtain ⟨w, ew, rw'⟩ := r.get h2
  have hn := line63
  by_cases h0 : 0 ≤ k
  · have hj : k.toNat = j := by
      rw [seqIndex_of h0 h5] at h1
      exact Option.some.inj h1
    exact wpAny_getItem_list hl.isList h0 (by omega) (by rw [hj]; simpa using ew) ⟨v, H, I, rw', q⟩
  · have hj : (k + (its.toArray.size : Int)).toNat = j := by
      rw [seqIndex_neg (by omega) h4] at h1
      rw [List.size_toArray, ← hlen]
      exact Option.some.inj h1
    exact wpAny_getItem_list_neg hl.isList (by omega) (by rw [List.size_toArray]; omega) (by omega) (by rw [hj]; simpa using ew) ⟨v, H, I, rw', q⟩
theorem getL {X : Cx} {K : Fg} (h : X.K = K := by rfl) : PGet X (rIxL K) := h ▸ get_list
/-! a, b, c = xs, a list -/
theorem pg_unK {X : Cx} (K : Fg) {es : List Expr} {k : Nat} {t : TGs} {n : Nat} {pos : Pos} (hc : X.calm = true) (h : PGs X es t) (hk : X.K = K := by rfl)
    (hn : (assignEach es X.env).length = n := by rfl) (hst : (assignEach es X.env).findIdx? (·.1) = none := by rfl) : PG X (.Tuple es k pos) (gUnl K n t) := hk ▸ pg_unl hc h hn hst
/-! xs[a::n] -/
def idxStep (lo st : Int) (n : Nat) : List Nat := sliceRange (max 0 (min lo n)) n st
def stepV {α : Type} (xs : List α) (lo st : Int) : List α := (idxStep lo st xs.length).filterMap (xs[·]?)
theorem pick_step {items : Array Value} {lo st : Int} (h0 : 0 ≤ lo) (h1 : 0 < st) : slicePick items (some lo) none (some st) = (stepV items.toList lo st).toArray := by
  unfold slicePick stepV idxStep
  have e : sliceBounds (some lo) none (some st) items.size = (max 0 (min lo items.size), (items.size : Int), st) := by
    have a : ¬ lo < 0 := by omega
    simp only [sliceBounds, Option.getD_some, gt_iff_lt, h1, if_true, a, if_false]
  rw [e]
  simp
theorem vals_step {vs : List V} {us : List Value} (r : Vals vs us) : ∀ idx : List Nat, Vals (idx.filterMap (vs[·]?)) (idx.filterMap (us[·]?))
  | [] => .nil
  | i :: idx => by
    have hl := r.length
    by_cases hi : i < vs.length
    · have hu : i < us.length := by omega
      obtain ⟨u, e, ru⟩ := r.get (List.getElem?_eq_getElem hi)
      rw [List.filterMap_cons, List.filterMap_cons, List.getElem?_eq_getElem hi, e]
      exact .cons ru (vals_step r idx)
    · rw [List.filterMap_cons, List.filterMap_cons, List.getElem?_eq_none (by omega), List.getElem?_eq_none (by omega)]
      exact vals_step r idx
/-- the list's items from lo on, each st-th -/
def rStep (K : PySem.W.Frag) (x : V) (lo st : Int) (H : Hp) (Q : VK) : Prop := ∃ a xs, x = .ref a ∧ SqL K H a xs ∧ 0 ≤ lo ∧ 0 < st ∧ (stepV xs lo st).length ≤ sizeLine ∧ ∀ p, H p = none → Q (.ref p) (upd H p (.lst (stepV xs lo st)))
def tStepL (K : PySem.W.Frag) (te tl ts : TE) : TE := fun σ H Q => te σ H fun x H1 => tl σ H1 fun l H2 => ∃ lo, l = .int lo ∧ ts σ H2 fun t H3 => ∃ st, t = .int st ∧ rStep K x lo st H3 Q
theorem pe_stepL {X : Cx} {e el es : Expr} {te tl ts : TE} {p3 pos : Pos} (he : PE X e te) (hl : PE X el tl) (hs : PE X es ts) {K : Fg} (hK : X.K = K := by rfl) : PE X (.Subscript e (.Slice (some el) none (some es) p3) pos) (tStepL K te tl ts) := by
  subst hK
  refine ⟨fun pins s σ H Q I h => ?_⟩
  refine Subscript_ (thn (he.run pins s σ H _ I h) fun v s1 ⟨x, H1, I1, r1, q1⟩ => ?_)
  refine wpAny_Slice (thn ((po_some hl).run pins s1 σ H1 (fun o H2 => match o with | some lo => ts σ H2 fun t H3 => ∃ st, t = .int st ∧ rStep X.K x lo st H3 Q | none => False) I1 q1) fun vl s2 ⟨l, H2, I2, pl, q2⟩ => ?_)
  cases l with
  | none => exact q2.elim
  | some lo =>
  refine thn (po_none.run pins s2 σ H2 (fun o H3 => o = none ∧ H3 = H2) I2 ⟨rfl, rfl⟩) fun vu s3 ⟨u, H3, I3, pu, eu, e3⟩ => ?_
  subst eu e3
  refine thn ((po_some hs).run pins s3 σ H3 (fun o H4 => match o with | some st => rStep X.K x lo st H4 Q | none => False) I3 q2) fun vs s4 ⟨o, H4, I4, ps, q4⟩ => ?_
  cases o with
  | none => exact q4.elim
  | some st =>
  obtain ⟨a, xs, ex, hx, h0, h1, hz0, q⟩ := q4
  subst ex
  cases r1
  have I5 : Inv X pins σ H4 { s4 with heap := s4.heap.push { cls := .type "slice", data := .fields #[vl, vu, vs] } } := I4.kept (t' := s4.toks) fun b ob q => Heap.get?_push_of_some _ q
  obtain ⟨its, r, ht, hz⟩ := I5.list hx
  have hlen := r.length
  show wpAny (model X.prog X.w) X.A (subscriptTail e (.Slice (some el) none (some es) p3) (.ref a) (.ref s4.heap.objs.size)) (EP X pins σ Q) X.xe { s4 with heap := s4.heap.push { cls := .type "slice", data := .fields #[vl, vu, vs] } }
  refine tail_any (ops := [.ref a, .ref s4.heap.objs.size]) ht.isList.typeIs (PySem.slot_list_getitem.lookup) ?_ (by with_unfolding_all rfl)
  refine wpAny_getItem_list_slice ht.isList (Heap.IsSliceOf.new _ vl vu vs) pl pu ps (by simp; omega) ?_ (by rw [List.size_toArray]; omega)
  rw [pick_step h0 h1]
  have rv : Vals (stepV xs lo st) (stepV its lo st) := by
    unfold stepV
    rw [← hlen]
    exact vals_step r _
  refine ⟨.ref _, _, I5.laid (t' := s4.toks) (o := .lst (stepV xs lo st)) (fun b ob q => Heap.get?_push_of_some _ q) (Nat.le_refl _) ?_, rfl, q _ (I5.hok.fresh (Nat.le_refl _))⟩
  exact ⟨hz0, _, 0, rv, Heap.get?_push_size _ rfl⟩
/-! the least of a list of data -/
/-- an item of a list, seen through both heaps -/
theorem dps_at {K : Fg} {H : Hp} : ∀ {vs : List V} {ds : List PyData} {i : Nat} {v : V}, DpAll K H vs ds → vs[i]? = some v → ∃ d, ds[i]? = some d ∧ Dp K H v d
  | _, _, _, _, .nil, e => by simp at e
  | _, _, 0, _, .cons r _, e => by simp at e; subst e; exact ⟨_, rfl, r⟩
  | _, _, i + 1, x, .cons _ t, e => by
    obtain ⟨d, h1, h2⟩ := dps_at (i := i) (v := x) t (by simpa using e)
    exact ⟨d, by simpa using h1, h2⟩
end Cc
namespace Cc
open PySem PySem.Spec L2 PyProof.Rows PySem.W
/-- the least of a list of alike data: the item that is it -/
def rMinL (K : PySem.W.Frag) : List V → Hp → VK → Prop := fun vs H Q => ∃ (a : Addr) (xs : List V) (y : PyData) (ys : List PyData), vs = [.ref a] ∧ SqL K H a xs ∧ DpAll K H xs (y :: ys) ∧ AlikeAll (y :: ys) ∧ PyData.depthAll (y :: ys) ≤ 60 ∧
  ∀ (i : Nat) (x : V), xs[i]? = some x → (y :: ys)[i]? = some (minD y ys) → Q x H
def rMinLD (K : PySem.W.Frag) : List V → List V → Hp → VK → Prop := fun vs zs H Q => ∃ (a : Addr) (xs : List V) (ds : List PyData) (z : V), vs = [.ref a] ∧ zs = [z] ∧ SqL K H a xs ∧ DpAll K H xs ds ∧ AlikeAll ds ∧ PyData.depthAll ds ≤ 60 ∧ (ds = [] → Q z H) ∧
  ∀ (y : PyData) (ys : List PyData) (i : Nat) (x : V), ds = y :: ys → xs[i]? = some x → ds[i]? = some (minD y ys) → Q x H
theorem reads_all_at {h : Heap} : ∀ {vs : List Value} {ds : List PyData} {as : List Addr} {i : Nat} {v : Value}, ReadsAll h vs ds as → vs[i]? = some v → ∃ d bs, ds[i]? = some d ∧ Reads h v d bs
  | _, _, _, _, _, .nil, e => by simp at e
  | _, _, _, 0, _, .cons r _, e => by simp at e; subst e; exact ⟨_, _, rfl, r⟩
  | _, _, _, i + 1, x, .cons _ t, e => by
    obtain ⟨d, bs, h1, h2⟩ := reads_all_at (i := i) (v := x) t (by simpa using e)
    exact ⟨d, bs, by simpa using h1, h2⟩
theorem vals_back {vs : List V} {us : List Value} (r : Vals vs us) {i : Nat} {u : Value} (h : us[i]? = some u) : ∃ v, vs[i]? = some v ∧ RelV v u := by
  have hl := r.length
  have hi : i < vs.length := by
    have := (List.getElem?_eq_some_iff.mp h).1
    omega
  obtain ⟨u', e, ru⟩ := r.get (List.getElem?_eq_getElem hi)
  rw [h] at e
  cases e
  exact ⟨_, List.getElem?_eq_getElem hi, ru⟩
section
variable {X : Cx}
theorem call_minL (hc : X.calm = true) (hu : X.A.units + 65 < cLine) : CallR X (.builtin "min") (rMinL X.K) := by
  intro pins s σ H vs us Q I r h
  obtain ⟨a, xs, y, ys, rfl, hs, hd, ha, hz, q⟩ := h
  obtain rfl := Vals.ref1 r
  obtain ⟨its, rv, hl, hlen⟩ := I.list hs
  obtain ⟨as, hr⟩ := Dp.readsAll I (y :: ys) xs its hd rv
  refine min_list_data (I.ok.hd hc) hl.isList (x := y) (xs := ys) (as := as) (by simpa using hr) ha (by omega) fun i v h' tk bs hv hm hk => ?_
  have hv' : its[i]? = some v := by simpa using hv
  obtain ⟨d, bs', hdi, hrd⟩ := reads_all_at hr hv'
  have ed := (PySem.Reads.unique (reads_keeps hk hrd) _ _ hm).1
  obtain ⟨x, hx, rx⟩ := vals_back rv hv'
  exact ⟨x, H, I.kept (t' := tk) hk, rx, q i x hx (by rw [hdi, ed])⟩
theorem call_minLD (hc : X.calm = true) (hu : X.A.units + 65 < cLine) : CallRK X (.builtin "min") ["default"] (rMinLD X.K) := by
  intro pins s σ H vs zs us ws Q I r rz h
  obtain ⟨a, xs, ds, z, rfl, rfl, hs, hd, ha, hz, q0, q⟩ := h
  obtain rfl := Vals.ref1 r
  obtain ⟨w1, rfl, e1⟩ := vals1 rz
  obtain ⟨its, rv, hl, hlen⟩ := I.list hs
  obtain ⟨as, hr⟩ := Dp.readsAll I ds xs its hd rv
  refine min_list_default (I.ok.hd hc) hl.isList (xs := ds) (as := as) (by simpa using hr) ha (by omega) (fun he h' tk hk => ?_) fun y ys i v h' tk bs he hv hm hk => ?_
  · exact ⟨z, H, I.kept (t' := tk) hk, e1, q0 he⟩
  · have hv' : its[i]? = some v := by simpa using hv
    obtain ⟨d, bs', hdi, hrd⟩ := reads_all_at hr hv'
    have ed := (PySem.Reads.unique (reads_keeps hk hrd) _ _ hm).1
    obtain ⟨x, hx, rx⟩ := vals_back rv hv'
    exact ⟨x, H, I.kept (t' := tk) hk, rx, q y ys i x he hx (by rw [hdi, ed])⟩
theorem minL {K : Fg} (hu : X.A.units + 65 < cLine) (hc : X.calm = true := by rfl) (h : X.K = K := by rfl) : CallR X (.builtin "min") (rMinL K) := h ▸ call_minL hc hu
theorem minLD {K : Fg} (hu : X.A.units + 65 < cLine) (hc : X.calm = true := by rfl) (h : X.K = K := by rfl) : CallRK X (.builtin "min") ["default"] (rMinLD K) := h ▸ call_minLD hc hu
end
/-! pairs of numbers -/
def pairD (p : Int × Int) : D := .tup [.int p.1, .int p.2]
def ltP (p q : Int × Int) : Bool := decide (p.1 < q.1 ∨ (p.1 = q.1 ∧ p.2 < q.2))
theorem dataLt_pair (p q : Int × Int) : dataLt (pairD p).py (pairD q).py = ltP p q := by
  obtain ⟨a, b⟩ := p
  obtain ⟨c, d⟩ := q
  have e : dataLt (pairD (a, b)).py (pairD (c, d)).py = (decide ((1 : Int) < 1) || (!decide ((1 : Int) < 1) && (decide (a < c) || (!decide (c < a) && (decide ((1 : Int) < 1) || (!decide ((1 : Int) < 1) && (decide (b < d) || (!decide (d < b) && (decide ((0 : Int) < 0) || (!decide ((0 : Int) < 0) && false)))))))))) := rfl
  rw [e]
  unfold ltP
  by_cases h1 : a < c
  · have h2 : ¬ c < a := by omega
    simp [h1]
  · by_cases h2 : c < a
    · have h3 : ¬ a = c := by omega
      simp [h1, h2, h3]
    · have h3 : a = c := by omega
      subst h3
      by_cases h4 : b < d
      · simp [h4]
      · by_cases h5 : d < b <;> simp [h4, h5]
def minP (p : Int × Int) (ps : List (Int × Int)) : Int × Int := ps.foldl (fun a y => if ltP y a then y else a) p
theorem minD_pairs : ∀ (ps : List (Int × Int)) (p : Int × Int), minD (pairD p).py (ps.map fun q => (pairD q).py) = (pairD (minP p ps)).py
  | [], _ => rfl
  | q :: ps, p => by
    have ih := minD_pairs ps
    unfold minD minP at ih ⊢
    rw [List.map_cons, List.foldl_cons, List.foldl_cons, ← ih, dataLt_pair]
    congr 1
    by_cases h : ltP q p = true <;> simp [h]
theorem alike_pairs (ps : List (Int × Int)) : AlikeAll (ps.map fun q => (pairD q).py) := by
  refine ⟨fun x hx y hy => ?_, fun x hx => ?_⟩
  · obtain ⟨p, _, rfl⟩ := List.mem_map.mp hx
    obtain ⟨q, _, rfl⟩ := List.mem_map.mp hy
    rfl
  · obtain ⟨p, _, rfl⟩ := List.mem_map.mp hx
    exact fun h => nomatch h
theorem depth_pairs : ∀ ps : List (Int × Int), PyData.depthAll (ps.map fun q => (pairD q).py) ≤ 1
  | [] => Nat.zero_le _
  | p :: ps => by
    have := depth_pairs ps
    simp only [List.map_cons, PyData.depthAll, pairD, D.py, D.pys, PyData.depth] at this ⊢
    omega
theorem pairD_inj {p q : Int × Int} (h : (pairD p).py = (pairD q).py) : p = q := by
  simp only [pairD, D.py, D.pys, PyData.tuple.injEq, List.cons.injEq, PyData.int.injEq, and_true] at h
  exact Prod.ext h.1 h.2
section
variable {K : Fg} {σ : L2.St} {H : Hp} {te tz : TE}
theorem pys_pairs (ps : List (Int × Int)) : D.pys (ps.map pairD) = ps.map fun q => (pairD q).py := by rw [D.pys_map, List.map_map]; rfl
theorem pls_pairs (ps : List (Int × Int)) : D.pls (ps.map pairD) = true := D.pls_iff.mpr fun d hd => by
  obtain ⟨p, _, rfl⟩ := List.mem_map.mp hd
  rfl
theorem rc_minP {p : Int × Int} {ps : List (Int × Int)} : RCD K (rMinL K) [.lst ((p :: ps).map pairD)] (pairD (minP p ps)) := fun vs H Q hv q => by
  obtain ⟨v, rfl, hw⟩ := hv.un1
  cases hw with
  | @lst a xs ds hs ha =>
    refine ⟨a, xs, (pairD p).py, ps.map fun q => (pairD q).py, rfl, SqL.of hs, ?_, ?_, ?_, fun i x hx hm => ?_⟩
    · have := ha.dps _ _ (pls_pairs (p :: ps))
      rwa [pys_pairs] at this
    · exact alike_pairs (p :: ps)
    · have := depth_pairs (p :: ps)
      exact Nat.le_trans this (by decide)
    · obtain ⟨d, hd, hdx⟩ := ha.get hx
      rw [minD_pairs] at hm
      have e : ((p :: ps).map fun q => (pairD q).py)[i]? = some (pairD (minP p ps)).py := hm
      rw [List.getElem?_map] at e hd
      cases hi : (p :: ps)[i]? with
      | none => rw [hi] at e; cases e
      | some z =>
        rw [hi] at e hd
        have e' := pairD_inj (Option.some.inj e)
        subst e'
        cases hd
        exact q x H (Same.refl _) hdx
def minPD (d0 : D) : List (Int × Int) → D
  | [] => d0
  | p :: r => pairD (minP p r)
/-- min(pairs, default=..) -/
theorem gd_minLD {ps : List (Int × Int)} {d0 : D} (h : GD K te σ H (.lst (ps.map pairD))) (h0 : GD K tz σ H d0) : GD K (tCKw (rMinLD K) (tCons te tNil) (tCons tz tNil)) σ H (minPD d0 ps) := fun H1 e Q q =>
  h H1 e _ fun v H2 e2 hv => h0 H2 (e.trans e2) _ fun z H3 e3 hz => by
    have hv := hv.up e3
    cases hv with
    | @lst a xs ds hs ha =>
      refine ⟨a, xs, ps.map fun q => (pairD q).py, z, rfl, rfl, SqL.of hs, ?_, alike_pairs ps, Nat.le_trans (depth_pairs ps) (by decide), fun he => ?_, fun y ys i x he hx hm => ?_⟩
      · have := ha.dps _ _ (pls_pairs ps)
        rwa [pys_pairs] at this
      · have : ps = [] := by simpa using he
        subst this
        exact q z H3 (e2.trans e3) hz
      · cases ps with
        | nil => cases he
        | cons p r =>
          obtain ⟨h1, h2⟩ := List.cons.inj he
          subst h1 h2
          obtain ⟨d, hd, hdx⟩ := ha.get hx
          rw [minD_pairs, List.getElem?_map] at hm
          rw [List.getElem?_map] at hd
          cases hi : (p :: r)[i]? with
          | none => rw [hi] at hm; cases hm
          | some w =>
            rw [hi] at hm hd
            have e' := pairD_inj (Option.some.inj hm)
            subst e'
            cases hd
            exact q x H3 (e2.trans e3) hdx
/-! by data -/
theorem rc_divmod {i j : Int} (h : 0 < j ∧ j < 1073741824) : RCD K (fun xs H Q => ∃ i j, xs = [.int i, .int j] ∧ CDiv i j ∧ ∀ p, H p = none → Q (.ref p) (upd H p (.tup [.int (i / j), .int (i % j)]))) [.int i, .int j] (.tup [.int (i / j), .int (i % j)]) := fun vs H Q hv q => by
  obtain ⟨x, y, rfl, hx, hy⟩ := hv.un2
  cases hx; cases hy
  exact ⟨i, j, rfl, h, fun p hp => q _ _ (Same.new hp) (.tup (SqT.of upd_same) (.cons (.int _) (.cons (.int _) .nil)))⟩
theorem r_repTA {ds : List D} {k : Int} (h0 : ds ≠ []) (h1 : 1 ≤ k) (h2 : k ≤ 1000) (h3 : ds.length ≤ 1000) : R2D K (rRepTA K) (.tup ds) (.int k) (.tup (List.replicate k.toNat ds).flatten) := fun v w H Q hv hw q => by
  cases hw
  cases hv with
  | @tup a xs _ hs hd =>
    have hl := hd.length
    refine ⟨a, k, xs, rfl, rfl, hs, fun z => ?_, h1, h2, by omega, fun h => ?_, fun _ p hp => q _ _ (Same.new hp) (.tup (.inl (.inl upd_same)) ((Dns.rep hd k.toNat).up (Same.new hp)))⟩
    · subst z
      have : ds.length = 0 := by simpa using hl.symm
      exact h0 (List.eq_nil_of_length_eq_zero this)
    · subst h
      have e : (List.replicate (1 : Int).toNat ds).flatten = ds := by simp
      rw [e] at q
      exact q _ H (Same.refl _) (.tup hs hd)
theorem stepV_map {α β : Type} (f : α → β) (xs : List α) (lo st : Int) : stepV (xs.map f) lo st = (stepV xs lo st).map f := by
  unfold stepV
  rw [List.length_map, List.map_filterMap]
  congr 1
  funext i
  rw [List.getElem?_map]
theorem dns_step {H : Hp} {vs : List V} {ds : List D} (h : Dns K H vs ds) : ∀ idx : List Nat, Dns K H (idx.filterMap (vs[·]?)) (idx.filterMap (ds[·]?))
  | [] => .nil
  | i :: idx => by
    have hl := h.length
    by_cases hi : i < vs.length
    · have hu : i < ds.length := by omega
      obtain ⟨d, e, rd⟩ := h.get (List.getElem?_eq_getElem hi)
      rw [List.filterMap_cons, List.filterMap_cons, List.getElem?_eq_getElem hi, e]
      exact .cons rd (dns_step h idx)
    · rw [List.filterMap_cons, List.filterMap_cons, List.getElem?_eq_none (by omega), List.getElem?_eq_none (by omega)]
      exact dns_step h idx
theorem gn_step {tl ts : TE} {ds : List D} {lo st : Int} (h : GD K te σ H (.lst ds)) (h1 : GD K tl σ H (.int lo)) (h2 : GD K ts σ H (.int st)) (h0 : 0 ≤ lo) (hs : 0 < st) (hz : (stepV ds lo st).length ≤ 100000) : GN K (tStepL K te tl ts) σ H (stepV ds lo st) := fun H1 e Q q =>
  h H1 e _ fun v H2 e2 hv => h1 H2 (e.trans e2) _ fun w H3 e3 hw => by
    cases hw
    refine ⟨lo, rfl, h2 H3 ((e.trans e2).trans e3) _ fun z H4 e4 hz' => ?_⟩
    cases hz'
    have hv := hv.up (e3.trans e4)
    cases hv with
    | @lst a xs _ hx hd =>
      have hl := hd.length
      have hst : Dns K H4 (stepV xs lo st) (stepV ds lo st) := by
        unfold stepV
        rw [hl]
        exact dns_step hd _
      refine ⟨st, rfl, a, xs, rfl, SqL.of hx, h0, hs, by rw [hst.length, sizeLine_eq]; omega, fun p hp => ?_⟩
      have e24 := (e2.trans e3).trans e4
      exact q p _ _ (e24.free hp) (e24.trans (Same.new hp)) upd_same (hst.up (Same.new hp))
/-- xs[j] += e, xs a list of one's own -/
theorem s_augL {E : Ends} {to ti : TE} {l : Addr} {xs : List V} {j : Nat} {a b : Int} (hl : H l = some (.lst xs)) (ho : ∀ H1, Same H H1 → ∀ Q : VK, Q (.ref l) H1 → to σ H1 Q) (hi : GD K ti σ H (.int (j : Nat))) (hj : xs[j]? = some (.int a)) (he : GD K te σ H (.int b))
    (k : ∀ H1, Same H H1 → E.nx σ (upd H1 l (.lst (xs.set j (.int (a + b)))))) : tAugS to ti te (rIxL K) (ipI fun i j => i + j) rSetL E σ H :=
  ho H (Same.refl _) _ (hi H (Same.refl _) _ fun w H1 e1 hw => by
    cases hw
    have hlt : j < xs.length := (List.getElem?_eq_some_iff.mp hj).1
    refine ⟨l, xs, (j : Nat), .int a, rfl, rfl, SqL.of (e1 _ _ hl), atI_nat hj, he H1 e1 _ fun v H2 e2 hv => ?_⟩
    cases hv
    exact ⟨a, b, rfl, rfl, l, xs, (j : Nat), j, rfl, rfl, (e1.trans e2) l _ hl, ixN_nat hlt, k H2 (e1.trans e2)⟩)
/-- a, b, c = xs -/
theorem s_unl3 {E : Ends} {i j m : Nat} {d e f : D} (h : GD K te σ H (.lst [d, e, f])) (k : ∀ u v w H1, Same H H1 → Dn K H1 u d → Dn K H1 v e → Dn K H1 w f → E.nx (((σ.set i (some u)).set j (some v)).set m (some w)) H1) : tAsg te (gUnl K 3 (gCons (gName i) (gCons (gName j) (gCons (gName m) gNil)))) E σ H := h H (Same.refl _) _ fun v H1 e1 hv => by
  cases hv with
  | @lst a xs _ hs hd =>
    obtain ⟨x, y, z, rfl, hx, hy, hz⟩ := hd.un3
    exact ⟨a, _, rfl, SqL.of hs, rfl, _, _, rfl, _, _, rfl, _, _, rfl, rfl, k x y z H1 e1 hx hy hz⟩
end
end Cc

/-! the first place in a tuple -/
namespace Cc
open PySem L2 PyProof.Rows
def rIdxT (K : Fg) : V → List V → Hp → VK → Prop := fun x xs H Q => ∃ (p : Addr) (ys : List V) (y z : V) (j : Nat), x = .ref p ∧ xs = [y] ∧ SqT K H p ys ∧ flatV y = true ∧ ys.all flatV = true ∧ ys[j]? = some z ∧ eqV z y = true ∧ (∀ m z', m < j → ys[m]? = some z' → eqV z' y = false) ∧ Q (.int (j : Nat)) H
theorem mt_idxT {X : Cx} {K : Fg} (hK : X.K = K := by rfl) : MtR X "tuple.index" (rIdxT K) := by
  subst hK
  intro pins s σ H x xs v us Q I rx rxs h
  obtain ⟨p, ys, y, z, j, rfl, rfl, hs, fy, fys, hj, hz, hno, q⟩ := h
  cases rx
  obtain ⟨uy, rfl, ry⟩ := rxs.one
  obtain ⟨its, rv, ⟨⟨cl, dd, data, sl⟩, ho, hc, n, hdt⟩, hlen⟩ := I.tuple hs
  simp only at hc hdt
  subst hc hdt
  have hl : its.toArray.size = ys.length := by rw [List.size_toArray]; exact rv.length.symm
  have hj' : j < its.toArray.size := by rw [hl]; exact (List.getElem?_eq_some_iff.mp hj).1
  have at' : ∀ (m : Nat) (hm : m < its.toArray.size), ∃ w, ys[m]? = some w ∧ eqU y its.toArray[m] = eqV w y := fun m hm => by
    have hm' : m < ys.length := by rw [← hl]; exact hm
    obtain ⟨u, hu, ru⟩ := rv.get (i := m) (x := ys[m]) (by simp [hm'])
    refine ⟨ys[m], List.getElem?_eq_getElem hm', ?_⟩
    have e := (List.getElem?_eq_some_iff.mp hu).2
    have f : flatV ys[m] = true := List.all_eq_true.mp fys _ (List.getElem_mem hm')
    have e2 : its.toArray[m] = u := by rw [← e]; simp
    rw [e2]
    exact eqU_of ru f
  refine call_meets PySem.F.slot_tuple_index ⟨_, ho, rfl⟩ PySem.F.entry_tuple_index (PySem.F.args_tuple_index_2 _ _) (TI.tuple_indexAt p its.toArray n dd sl uy (eqU y) j hj' ?_ ?_)
    ⟨ho, fun u' hu' => mem_eqAt ry fy rv fys u' (by simpa using hu'), ⟨.int (j : Nat), H, I.tok _, ⟨_, rfl⟩, q⟩⟩
  · obtain ⟨w, h1, h2⟩ := at' j hj'
    rw [hj] at h1
    cases h1
    rw [h2]; exact hz
  · intro m hm hmj
    obtain ⟨w, h1, h2⟩ := at' m hm
    rw [h2]
    exact hno m w hmj h1
end Cc

/-! the least of rows of a number and a tuple of numbers -/
namespace Cc
open PySem PySem.Spec L2 PyProof.Rows PySem.W
def nD (j : Nat) : D := .int (j : Nat)
def rowD (p : Int × List Nat) : D := .tup [.int p.1, .tup (p.2.map nD)]
def ltT (p q : Int × List Nat) : Bool := dataLt (rowD p).py (rowD q).py
theorem ltT_fst (p q : Int × List Nat) : (p.1 < q.1 → ltT p q = true) ∧ (q.1 < p.1 → ltT p q = false) := by
  obtain ⟨a, x⟩ := p
  obtain ⟨c, y⟩ := q
  have e : ∃ R : Bool, ltT (a, x) (c, y) = (decide ((1 : Int) < 1) || (!decide ((1 : Int) < 1) && (decide (a < c) || (!decide (c < a) && R)))) := ⟨_, rfl⟩
  obtain ⟨R, e⟩ := e
  rw [e]
  refine ⟨fun h => ?_, fun h => ?_⟩
  · simp [show a < c from h]
  · have h1 : c < a := h
    have h2 : ¬ a < c := by omega
    simp [h1, h2]
def minT (p : Int × List Nat) (ps : List (Int × List Nat)) : Int × List Nat := ps.foldl (fun a y => if ltT y a then y else a) p
theorem minT_mem : ∀ (ps : List (Int × List Nat)) (p : Int × List Nat), minT p ps ∈ p :: ps
  | [], p => List.mem_cons_self
  | q :: ps, p => by
    have ih := minT_mem ps (if ltT q p then q else p)
    have e : minT p (q :: ps) = minT (if ltT q p then q else p) ps := rfl
    rw [e]
    rcases List.mem_cons.mp ih with h | h
    · rw [h]
      by_cases c : ltT q p = true
      · rw [if_pos c]; simp
      · rw [if_neg c]; simp
    · exact List.mem_cons_of_mem _ (List.mem_cons_of_mem _ h)
theorem minT_le : ∀ (ps : List (Int × List Nat)) (p : Int × List Nat), ∀ x ∈ p :: ps, (minT p ps).1 ≤ x.1
  | [], p, x, h => by rw [List.mem_singleton.mp h]; exact Int.le_refl _
  | q :: ps, p, x, h => by
    have ih := minT_le ps (if ltT q p then q else p)
    have e : minT p (q :: ps) = minT (if ltT q p then q else p) ps := rfl
    rw [e]
    have base := ih _ List.mem_cons_self
    have hq : (if ltT q p then q else p).1 ≤ q.1 ∧ (if ltT q p then q else p).1 ≤ p.1 := by
      by_cases c : ltT q p = true
      · rw [if_pos c]
        refine ⟨Int.le_refl _, Int.not_lt.mp fun h => ?_⟩
        rw [(ltT_fst q p).2 h] at c
        cases c
      · rw [if_neg c]
        refine ⟨Int.not_lt.mp fun h => c ((ltT_fst q p).1 h), Int.le_refl _⟩
    rcases List.mem_cons.mp h with rfl | h
    · omega
    · rcases List.mem_cons.mp h with rfl | h
      · omega
      · exact ih x (List.mem_cons_of_mem _ h)
theorem minD_rows : ∀ (ps : List (Int × List Nat)) (p : Int × List Nat), minD (rowD p).py (ps.map fun q => (rowD q).py) = (rowD (minT p ps)).py
  | [], _ => rfl
  | q :: ps, p => by
    have ih := minD_rows ps
    unfold minD minT at ih ⊢
    rw [List.map_cons, List.foldl_cons, List.foldl_cons, ← ih]
    congr 1
    show (if ltT q p = true then _ else _) = _
    by_cases h : ltT q p = true <;> simp [h]
theorem alike_nums : ∀ {x y : List Nat}, x.length = y.length → alikeAll (D.pys (x.map nD)) (D.pys (y.map nD)) = true
  | [], [], _ => rfl
  | a :: x, b :: y, h => by
    have ih := alike_nums (x := x) (y := y) (by simpa using h)
    simp only [List.map_cons, D.pys, alikeAll, nD, D.py, alike, Bool.true_and] at ih ⊢
    exact ih
  | [], b :: y, h => by simp at h
  | a :: x, [], h => by simp at h
theorem alike_rows {n : Nat} {ps : List (Int × List Nat)} (h : ∀ p ∈ ps, p.2.length = n) : AlikeAll (ps.map fun q => (rowD q).py) := by
  refine ⟨fun x hx y hy => ?_, fun x hx => ?_⟩
  · obtain ⟨p, hp, rfl⟩ := List.mem_map.mp hx
    obtain ⟨q, hq, rfl⟩ := List.mem_map.mp hy
    have := alike_nums (x := p.2) (y := q.2) (by rw [h p hp, h q hq])
    simp only [rowD, D.py, D.pys, alike, alikeAll, Bool.true_and, Bool.and_true]
    exact this
  · obtain ⟨p, _, rfl⟩ := List.mem_map.mp hx
    exact fun h => nomatch h
theorem depth_nums : ∀ x : List Nat, PyData.depthAll (D.pys (x.map nD)) ≤ 1
  | [] => Nat.zero_le _
  | a :: x => by
    have := depth_nums x
    simp only [List.map_cons, D.pys, PyData.depthAll, nD, D.py, PyData.depth] at this ⊢
    omega
theorem depth_rows : ∀ ps : List (Int × List Nat), PyData.depthAll (ps.map fun q => (rowD q).py) ≤ 3
  | [] => Nat.zero_le _
  | p :: ps => by
    have := depth_rows ps
    have h2 := depth_nums p.2
    simp only [List.map_cons, PyData.depthAll, rowD, D.py, D.pys, PyData.depth] at this h2 ⊢
    omega
theorem nums_inj : ∀ {x y : List Nat}, D.pys (x.map nD) = D.pys (y.map nD) → x = y
  | [], [], _ => rfl
  | a :: x, b :: y, h => by
    simp only [List.map_cons, D.pys, nD, D.py, List.cons.injEq, PyData.int.injEq] at h
    have h2 : x = y := nums_inj (by simpa only [nD] using h.2)
    have h1 : a = b := by omega
    rw [h1, h2]
  | [], b :: y, h => by simp [D.pys] at h
  | a :: x, [], h => by simp [D.pys] at h
theorem rowD_inj {p q : Int × List Nat} (h : (rowD p).py = (rowD q).py) : p = q := by
  simp only [rowD, D.py, D.pys, PyData.tuple.injEq, List.cons.injEq, PyData.int.injEq, and_true] at h
  exact Prod.ext h.1 (nums_inj h.2)
section
variable {K : Fg} {σ : L2.St} {H : Hp} {te tz : TE}
theorem pys_rows (ps : List (Int × List Nat)) : D.pys (ps.map rowD) = ps.map fun q => (rowD q).py := by rw [D.pys_map, List.map_map]; rfl
theorem pls_rows (ps : List (Int × List Nat)) : D.pls (ps.map rowD) = true := D.pls_iff.mpr fun d hd => by
  obtain ⟨p, _, rfl⟩ := List.mem_map.mp hd
  have : D.pls (p.2.map nD) = true := D.pls_iff.mpr fun d hd => by
    obtain ⟨j, _, rfl⟩ := List.mem_map.mp hd
    rfl
  simp [rowD, D.pl, D.pls, this]
theorem rc_minT {n : Nat} {p : Int × List Nat} {ps : List (Int × List Nat)} (hn : ∀ q ∈ p :: ps, q.2.length = n) : RCD K (rMinL K) [.lst ((p :: ps).map rowD)] (rowD (minT p ps)) := fun vs H Q hv q => by
  obtain ⟨v, rfl, hw⟩ := hv.un1
  cases hw with
  | @lst a xs ds hs ha =>
    refine ⟨a, xs, (rowD p).py, ps.map fun q => (rowD q).py, rfl, SqL.of hs, ?_, ?_, ?_, fun i x hx hm => ?_⟩
    · have := ha.dps _ _ (pls_rows (p :: ps))
      rwa [pys_rows] at this
    · exact alike_rows hn
    · have := depth_rows (p :: ps)
      exact Nat.le_trans this (by decide)
    · obtain ⟨d, hd, hdx⟩ := ha.get hx
      rw [minD_rows] at hm
      have e : ((p :: ps).map fun q => (rowD q).py)[i]? = some (rowD (minT p ps)).py := hm
      rw [List.getElem?_map] at e hd
      cases hi : (p :: ps)[i]? with
      | none => rw [hi] at e; cases e
      | some z =>
        rw [hi] at e hd
        have e' := rowD_inj (Option.some.inj e)
        subst e'
        cases hd
        exact q x H (Same.refl _) hdx
end
end Cc

/-! ascending lists of texts -/
namespace Cc
open PySem L2 PyProof.Rows
def leS (a b : Str) : Prop := a.cps.toList ≤ b.cps.toList
theorem leS_trans {a b c : Str} (h : leS a b) (k : leS b c) : leS a c := List.le_trans h k
theorem leS_anti {a b : Str} (h : leS a b) (k : leS b a) : a = b := by
  have e : a.cps.toList = b.cps.toList := List.le_antisymm h k
  cases a; cases b
  simpa using e
theorem rising_pw : ∀ (p : Str) (l : List Str), risingS p l = true → (p :: l).Pairwise leS
  | p, [], _ => List.pairwise_singleton _ _
  | p, x :: r, h => by
    have h' : (!PySem.Spec.ltCps x.cps.toList p.cps.toList) = true ∧ risingS x r = true := by simpa [risingS] using h
    have ih := rising_pw x r h'.2
    have le : leS p x := by
      have := h'.1
      rw [ltCps_eq] at this
      show ¬ _ < _
      simpa using this
    refine List.pairwise_cons.mpr ⟨fun y hy => ?_, ih⟩
    rcases List.mem_cons.mp hy with rfl | hy
    · exact le
    · exact leS_trans le ((List.pairwise_cons.mp ih).1 y hy)
theorem sorted_pw {l : List Str} (h : sortedS l = true) : l.Pairwise leS := by
  cases l with
  | nil => exact .nil
  | cons x r => exact rising_pw x r h
/-- what is ascending and of the same items is the same -/
theorem sorted_one {ys zs : List Str} (p : ys.Perm zs) (hy : sortedS ys = true) (hz : zs.Pairwise leS) : ys = zs :=
  List.Perm.eq_of_pairwise (fun _ _ _ _ h k => leS_anti h k) (sorted_pw hy) hz p
theorem sorted_eq_iff {ys ts S : List Str} (p : ys.Perm ts) (hy : sortedS ys = true) (hS : S.Pairwise leS) : (ys = S) ↔ ts.Perm S :=
  ⟨fun e => e ▸ p.symm, fun q => sorted_one (p.trans q) hy hS⟩
theorem eqv_strs (ys zs : List Str) : (D.lst (ys.map D.str)).eqv (.lst (zs.map D.str)) = decide (ys = zs) := by
  unfold D.eqv
  simp only [D.py]
  rw [D.pys_map, D.pys_map, List.map_map, List.map_map]
  induction ys generalizing zs with
  | nil => cases zs <;> simp [PyData.eqv, PyData.eqvAll]
  | cons y ys ih =>
    cases zs with
    | nil => simp [PyData.eqv, PyData.eqvAll]
    | cons z zs =>
      have := ih zs
      simp only [PyData.eqv] at this ⊢
      simp only [List.map_cons, Function.comp, D.py, PyData.eqv, PyData.eqvAll] at this ⊢
      rw [this]
      by_cases h : y = z <;> simp [h]
end Cc

namespace Cc
open PySem L2 RZ
theorem walk_zipT {K : Fg} {a b : Addr} {xs ys : List V} {n : Nat} (hn : n = min xs.length ys.length) : Walk (ItzT K a b) n (fun H => SqT K H a xs ∧ SqT K H b ys) (YPair (fun i => xs[i]?) (fun i => ys[i]?)) := by
  subst hn
  refine ⟨fun i _ hi q => ?_, fun _ q => ⟨xs, ys, q.1, q.2, by omega⟩, fun i H v H' _ q y => ?_⟩
  · have h1 : i < xs.length := by omega
    have h2 : i < ys.length := by omega
    exact ⟨xs, ys, xs[i], ys[i], q.1, q.2, by simp [h1], by simp [h2]⟩
  · obtain ⟨T, x, z, h1, h2, h3, h4, h5⟩ := y
    exact ⟨T, x, z, h1, h2, h3, h4 xs q.1, h5 ys q.2⟩
theorem pi_zK {X : Cx} (K : Fg) {e e2 : Expr} {ta : TA} {p pos tpos : Pos} {elts : List Expr} {kk : Nat} (hm : X.mg "zip" = none) (ha : PA X [e, e2] ta) (hg : Gl X "zip" := by rfl) (h : X.K = K := by rfl)
    (he : starEach [e, e2] X.env = (false, eval e X.env) :: starEach [e2] X.env := by rfl) (hp : (backTo pos (starEach [e2] X.env)).any (·.1) = false := by rfl) : PI X (.Tuple elts kk tpos) (.Call (.Name "zip" p) [e, e2] [] pos) (iZipA K ta) := h ▸ pi_zipA hg hm ha he hp
theorem pg_tK {X : Cx} (K : Fg) {es : List Expr} {k : Nat} {t : TGs} {n : Nat} {pos : Pos} (hc : X.calm = true) (h : PGs X es t) (hk : X.K = K := by rfl)
    (hn : (assignEach es X.env).length = n := by rfl) (hst : (assignEach es X.env).findIdx? (·.1) = none := by rfl) : PG X (.Tuple es k pos) (gTup K n t) := hk ▸ pg_tup hc h hn hst
section
variable {K : Fg} {σ : L2.St} {H H' : Hp} {te : TE} {t : TT}
/-- [e for a, b in zip(xs, ys)], both tuples -/
theorem gn_zipT {ta : TA} {i j : Nat} {vs : List Nat} {ds es : List D} (g : D × D → D) (h : GA K ta σ H [.tup ds, .tup es]) (hz : ds.length ≤ 50000)
    (hw : ∀ x y, wipe (((wipe σ vs).set i (some x)).set j (some y)) vs = wipe σ vs) (hf : ∀ p ∈ ds.zip es, (g p).fix = true)
    (he : ∀ p x y H1, p ∈ ds.zip es → Same H H1 → Dn K H1 x p.1 → Dn K H1 y p.2 → GD K te (((wipe σ vs).set i (some x)).set j (some y)) H1 (g p)) : GN K (tLc (iZipA K ta) (gTup K 2 (gCons (gName i) (gCons (gName j) gNil))) tYes te vs) σ H ((ds.zip es).map g) := fun H1 e1 Q q =>
  h H1 e1 _ fun ws H2 e2 hv => by
    obtain ⟨v, w, rfl, h1, h2⟩ := hv.un2
    cases h1 with
    | @tup a xs _ hs ha =>
      cases h2 with
      | @tup b ys _ ht hb =>
        refine ⟨a, b, xs, ys, rfl, .inr ⟨hs, ht, fun Dl hD => ?_⟩⟩
        have hn : (ds.zip es).length = min xs.length ys.length := by rw [List.length_zip, ha.length, hb.length]
        have fx : ∀ k, D.fixs (((ds.zip es).take k).map g) = true := fun k => D.fixs_iff.mpr fun d hd => by
          obtain ⟨c, hc, rfl⟩ := List.mem_map.mp hd
          exact hf c (List.mem_of_mem_take hc)
        refine lc_it (walk_zipT (K := K) hn) (fun i H' => Same H2 H' ∧ ∃ acc, H' Dl = some (.lst acc) ∧ Dns K H' acc (((ds.zip es).take i).map g)) ⟨Same.new hD, [], upd_same, by simpa using Dns.nil⟩ (fun i H' _ p => ⟨same_t p.1 hs, same_t p.1 ht⟩) (fun k x Ha Hb hi p y => ?_) (fun H' p => ?_)
        · obtain ⟨p1, acc, p2, p3⟩ := p
          obtain ⟨T, x1, x2, rfl, hT, rfl, y1, y2⟩ := y
          obtain ⟨d, hd, hx⟩ := ha.get y1
          obtain ⟨d', hd', hx'⟩ := hb.get y2
          have eb : Same Ha (upd Ha T (.tup [x1, x2])) := Same.new hT
          have hpk : (ds.zip es)[k]? = some (d, d') := by
            rw [List.getElem?_zip_eq_some]
            exact ⟨hd, hd'⟩
          have hm := List.mem_of_getElem? hpk
          have e2b := p1.trans eb
          have htk : (ds.zip es).take (k + 1) = (ds.zip es).take k ++ [(d, d')] := by
            rw [List.take_add_one, hpk]
            rfl
          refine ⟨T, [x1, x2], rfl, SqT.of upd_same, rfl, x1, [x2], rfl, x2, [], rfl, rfl, hw x1 x2, ?_⟩
          unfold tYes
          dsimp only
          rw [if_pos rfl]
          refine he (d, d') x1 x2 _ hm ((e1.trans e2).trans e2b) (hx.up e2b) (hx'.up e2b) _ (Same.refl _) _ fun z H4 e4 hzz => ⟨acc, e4 _ _ (eb _ _ p2), ?_, ?_⟩
          · have h1 := p3.length
            have h2 : (((ds.zip es).take k).map g).length ≤ ds.length := by
              rw [List.length_map, List.length_take, List.length_zip]
              omega
            rw [sizeLine_eq]
            omega
          · have hDl : H4 Dl = some (.lst acc) := e4 _ _ (eb _ _ p2)
            refine ⟨Same.mut (e2b.trans e4) hD, acc ++ [z], upd_same, ?_⟩
            rw [htk, List.map_append]
            exact ((p3.up (eb.trans e4)).keep (Kp.upd hDl rfl) (fx k)).app (.cons (hzz.keep (Kp.upd hDl rfl) (hf _ hm)) .nil)
        · obtain ⟨p1, acc, p2, p3⟩ := p
          rw [List.take_length] at p3
          exact q Dl acc H' (e2.free hD) (e2.trans p1) p2 p3
end
end Cc

/-! enumerate(tuple) -/
namespace CcE
open PySem PySem.AutoSeq1
open Sem (wp)
theorem meets_newT (l : Addr) (items : Array Value) (n : Nat) (dct : Option Addr) (sl : Array (Option Value)) :
    Meets (Builtin.«enumerate.__new__» ⟨[.type "enumerate", .ref l], []⟩) (fun _ R s => s.heap.get? l = some { cls := .type "tuple", dict := dct, data := .seq items n, slots := sl } ∧
      R (.ok (.ret (.ref (s.heap.push { cls := .type "tuple_iterator", data := .fields #[.ref l, .int 0 0] }).objs.size)))
        { s with heap := (s.heap.push { cls := .type "tuple_iterator", data := .fields #[.ref l, .int 0 0] }).push { cls := .type "enumerate", data := .fields #[.none, .bool false, .ref s.heap.objs.size, rawInt 0, .none, .none] } }) :=
  .of_wp fun prog w A R s h => by
    obtain ⟨hp, g, d, tk, os⟩ := s; obtain ⟨hl, h⟩ := h
    have hsub := sub_enumerate
    have hL : Heap.IsTuple (Shared.heap ⟨hp, g, d, tk, os⟩) l items := ⟨_, hl, rfl, n, rfl⟩
    wp_walk using wpAny_loadPart' hl
    refine wpAny_stack_any fun st => wpAny_pure ?_
    split
    · rename_i c _ _ _ _ _
      cases (c == Value.type "enumerate")
      · wp_walk using wpAny_loadPart' hl, wpAny_pyIter_tuple hL
        exact ⟨_, rfl, h⟩
      · wp_walk using wpAny_loadPart' hl, wpAny_pyIter_tuple hL
        exact ⟨_, rfl, h⟩
    · wp_walk using wpAny_loadPart' hl, wpAny_pyIter_tuple hL
      exact ⟨_, rfl, h⟩
theorem drawsT {prog : Program} {w : World} {A : Around} (hh : A.handled = none) (it l : Addr) (hne : l ≠ it) (items : Array Value) :
    Draws prog w A it [it, l] items.size (fun i v => items[i]? = some v) (fun i h => h.IsTupleIter it l i ∧ h.IsTuple l items) where
  live := fun _ _ st => let ⟨o, ho, _⟩ := st.1; ⟨o, ho⟩
  frame := fun _ _ _ st hk => ⟨st.1.at fun o e => hk it (by simp) o e, st.2.at fun o e => hk l (by simp) o e⟩
  item := fun i s Q E hi st hQ => by
    refine RZ.nextOf_tuple_item st.1 st.2 (x := items[i]) (by simp [hi]) fun h' hit' hs' => ?_
    exact hQ _ h' s.toks (by simp [hi]) ⟨hit', st.2.extBut hs'.extBut hne⟩ hs'
  done := fun s Q E st hE => RZ.nextOf_tuple_end hh st.1 st.2 (by simp) hE
section
variable {prog : Program} {w : World} {A : Around} {E : Value → Shared → Prop} {s : Shared}
theorem call_enumT {l : Addr} {items : Array Value} {Q : Value → Shared → Prop} (hL : s.heap.IsTuple l items)
    (k : ∀ h', IsEnum h' (s.heap.objs.size + 1) s.heap.objs.size 0 .none → h'.IsTupleIter s.heap.objs.size l 0 → h'.objs.size = s.heap.objs.size + 2 → (∀ b o, s.heap.get? b = some o → h'.get? b = some o) → Q (.ref (s.heap.objs.size + 1)) { s with heap := h' }) :
    wpAny (model prog w) A (call (.type "enumerate") [.ref l]) Q E s := by
  obtain ⟨⟨c, dct, dt, sl⟩, hl, hc, n, hd⟩ := hL
  have hc' : c = .type "tuple" := hc
  have hd' : dt = .seq items n := hd
  subst hc' hd'
  refine callType_new F.called_enumerate (by decide) (F.typeCall_enumerate_1 _) (F.newCall_enumerate_1 _) (fun obj => F.args_object_init_2 obj _) F.entry_enumerate_new (meets_newT l items n dct sl) ⟨hl, ?_⟩
  have sz : (s.heap.push { cls := .type "tuple_iterator", data := .fields #[.ref l, .int 0 0] }).objs.size = s.heap.objs.size + 1 := Heap.size_push ..
  show _ ∧ _
  rw [sz]
  have en : IsEnum ((s.heap.push { cls := .type "tuple_iterator", data := .fields #[.ref l, .int 0 0] }).push { cls := .type "enumerate", data := .fields #[.none, .bool false, .ref s.heap.objs.size, rawInt 0, .none, .none] }) (s.heap.objs.size + 1) s.heap.objs.size 0 .none := by
    have z := Heap.get?_push_size (s.heap.push { cls := .type "tuple_iterator", data := .fields #[.ref l, .int 0 0] }) (o := { cls := .type "enumerate", data := .fields #[.none, .bool false, .ref s.heap.objs.size, rawInt 0, .none, .none] }) rfl
    rw [sz] at z; exact z
  exact ⟨⟨_, en, rfl⟩, k _ en ⟨_, Heap.get?_push_of_some _ (Heap.get?_push_size _ rfl), rfl, rfl⟩ (by rw [Heap.size_push, sz]) fun b o x => Heap.get?_push_of_some _ (Heap.get?_push_of_some _ x)⟩
theorem wpAny_pyNext_enum_endT {e it l : Addr} {i : Nat} {items : Array Value} {old : Value} {n : Int} {Q : Option Value → Shared → Prop} (hh : A.handled = none) (he : IsEnum s.heap e it n old) (hit : s.heap.IsTupleIter it l i) (hl : s.heap.IsTuple l items) (hi : items.size ≤ i)
    (k : ∀ h', Heap.ExtBut it s.heap h' → Q none { s with heap := h' }) : wpAny (model prog w) A (pyNext (.ref e)) Q E s := by
  have D : Draws prog w A.in1 it [it, l] 0 (fun _ _ => True) (fun _ h => h.IsTupleIter it l i ∧ h.IsTuple l items) :=
    { live := fun _ _ st => let ⟨o, ho, _⟩ := st.1; ⟨o, ho⟩, frame := fun _ _ _ st hk => ⟨st.1.at fun o e => hk it (by simp) o e, st.2.at fun o e => hk l (by simp) o e⟩,
      item := fun _ _ _ _ hi => absurd hi (Nat.not_lt_zero _), done := fun s Q E st hE => RZ.nextOf_tuple_end hh st.1 st.2 (Array.getElem?_eq_none_iff.mpr hi) hE }
  exact wpAny_pyNext_enum_endD D he ⟨hit, hl⟩ k
end
end CcE
namespace CcE
open PySem L2 PyProof.Rows
/-- the tuple at a, each item in a new pair behind its number -/
def Itet (K : PySem.W.Frag) (a : Addr) : It :=
  ⟨fun i H => ∃ (xs : List V) (x : V), SqT K H a xs ∧ xs[i]? = some x, fun i H v H' => ∃ T x, v = .ref T ∧ H T = none ∧ H' = upd H T (.tup [.int (i : Nat), x]) ∧ ∀ xs, SqT K H a xs → xs[i]? = some x, fun i H => ∃ xs : List V, SqT K H a xs ∧ xs.length ≤ i⟩
theorem turn_et {P : Program} {w : World} {K : PySem.W.Frag} {elts : List Expr} {kk : Nat} {tpos : Pos} (a e it : Addr) (hai : a ≠ it) (hae : a ≠ e) :
    Turn P w K (.Tuple elts kk tpos) (Itet K a) [e, it] e (fun i h => (∃ old, IsEnum h e it ((i : Nat) : Int) old) ∧ h.IsTupleIter it a i ∧ e ≠ it) where
  mem := by simp
  obj := fun i h st b hb => by
    obtain ⟨⟨old, he⟩, ⟨o, ho, hc, hd⟩, _⟩ := st
    rcases (by simpa using hb : b = e ∨ b = it) with rfl | rfl
    · exact ⟨_, he, fun v q => nomatch q⟩
    · exact ⟨o, ho, fun v q => by rw [hd] at q; cases q⟩
  keep := fun i h h' st k => let ⟨⟨old, he⟩, hi, hne⟩ := st; ⟨⟨old, k e (by simp) _ he⟩, hi.at fun o q => k it (by simp) o q, hne⟩
  item := by
    intro X hP hw hK hc i pins s σ H E I hf st hg
    subst hP hw hK
    obtain ⟨⟨old, he⟩, hit, hne⟩ := st
    obtain ⟨xs, x, hq, hx⟩ := hg
    obtain ⟨its, rv, p, hz⟩ := I.tuple hq
    obtain ⟨u, hu, ru⟩ := rv.get hx
    have hel : e < s.heap.objs.size := Heap.lt_size he
    have hil : it < s.heap.objs.size := by obtain ⟨_, q, _⟩ := hit; exact Heap.lt_size q
    have hlt : i < its.toArray.size := by
      have := (List.getElem?_eq_some_iff.mp hu).1
      simpa using this
    refine wpAny_pyNext_enum_itemD (drawsT (prog := X.prog) (w := X.w) (A := X.A.in1) (I.ok.hd hc) it a hai its.toArray) he ⟨hit, p⟩ hlt hne (by simp [hne, Ne.symm hae]) fun u' h' tk hu' ho hst' hT hsz hk => ?_
    have eu : u' = u := by
      have z : its[i]? = some u' := by simpa using hu'
      rw [hu] at z
      exact (Option.some.inj z).symm
    subst eu
    refine ⟨_, rfl, wpAny_letOwnedTupleGo_enum (s := { s with heap := h', toks := tk + 1 }) ho fun h'' he' sb => ?_⟩
    have hT2 : h''.get? s.heap.objs.size = some { cls := .type "tuple", data := .seq #[.int i tk, u'] } := (sb.2 _ (Nat.ne_of_gt hel)).trans hT
    have new : ObjOk X.prog X.w (upd H s.heap.objs.size (.tup [.int (i : Nat), x])) h'' s.heap.objs.size (.tup [.int (i : Nat), x]) :=
      ⟨by show 2 ≤ sizeLine; decide, [.int i tk, u'], .cons ⟨_, rfl⟩ (.cons ru .nil), ⟨_, hT2, rfl, _, rfl⟩⟩
    have I1 : Inv X pins σ (upd H s.heap.objs.size (.tup [.int (i : Nat), x])) { s with heap := h'', toks := tk + 1 } :=
      I.turnedNew (ch := [e, it]) (fun b ob hb q => (sb.2 b (fun z => hb (by simp [z]))).trans (hk b ob (fun z => hb (by simp [z])) (fun z => hb (by simp [z])) q)) hf (Nat.le_refl _) new
    refine ⟨.ref s.heap.objs.size, _, I1, rfl, ⟨_, x, rfl, I.hok.fresh (Nat.le_refl _), rfl, fun ys hy => ?_⟩, ⟨⟨u', ?_⟩, hst'.1.at fun o q => (sb.2 it (Ne.symm hne)).trans q, hne⟩, fun b hb => ?_⟩
    · rw [I.tuple_inj hy hq]; exact hx
    · have e1 : ((i + 1 : Nat) : Int) = (i : Int) + 1 := by omega
      rw [e1]; exact he'
    · have hb' : b < s.heap.objs.size := by
        rcases (by simpa using hb : b = e ∨ b = it) with rfl | rfl
        · exact hel
        · exact hil
      rw [upd_ne (Nat.ne_of_lt hb')]
      exact (hf b hb).1
  done := by
    intro X hP hw hK hc i pins s σ H E I hf st hg
    subst hP hw hK
    obtain ⟨⟨old, he⟩, hit, hne⟩ := st
    obtain ⟨xs, hq, hx⟩ := hg
    obtain ⟨its, rv, p, hz⟩ := I.tuple hq
    obtain ⟨f0, f1, f2, f3, f4, f5⟩ := hf it (by simp)
    have hl := rv.length
    have hend : its.toArray.size ≤ i := by rw [List.size_toArray]; omega
    obtain ⟨o, ho, hcl, hd⟩ := id hit
    refine wpAny_pyNext_enum_endT (I.ok.hd hc) he hit p hend fun h' eb => ⟨rfl, I.turned (t' := s.toks) (fun b o hb q => eb b o hb q) f0 f1 f3 f4 f5⟩
  self := fun A i s Q E st h => let ⟨⟨_, he⟩, _⟩ := st; wpAny_pyIter_enum he h
def iEnumT (K : PySem.W.Frag) (ta : TA) : TI := fun σ H R => ta σ H fun vs H1 => ∃ a xs, vs = [.ref a] ∧ SqT K H1 a xs ∧ R (Itet K a) H1
theorem pi_enumT {X : Cx} (K : PySem.W.Frag) {e : Expr} {ta : TA} {p pos tpos : Pos} {elts : List Expr} {kk : Nat} (hm : X.mg "enumerate" = none) (ha : PA X [e] ta) (hK : X.K = K := by rfl) (hg : Gl X "enumerate" := by rfl) (hs : starEach [e] X.env = [(false, eval e X.env)] := by rfl) :
    PI X (.Tuple elts kk tpos) (.Call (.Name "enumerate" p) [e] [] pos) (iEnumT K ta) := by
  subst hK
  refine ⟨fun pins s σ H R I h => ?_⟩
  refine Call_ (ld_blt I hg hm boot_enumerate (PyProof.Rows.callWith_type1 (thn (ha.run pos pins s σ H _ I h) fun us s1 ⟨vs, H1, I1, r1, q1⟩ => ?_) hs rfl))
  obtain ⟨a, xs, rfl, hq, q⟩ := q1
  cases r1 with
  | cons r rr =>
    cases rr
    cases r
    obtain ⟨its, rv, tp, hz⟩ := I1.tuple hq
    have hal : a < s1.heap.objs.size := by obtain ⟨o, ho, _⟩ := tp; exact Heap.lt_size ho
    refine call_enumT tp fun h' he hit hsz hk => wpAny_pyIter_enum he ?_
    have I2 : Inv X pins σ H1 { s1 with heap := h' } := I1.kept (t' := s1.toks) hk
    refine ⟨s1.heap.objs.size + 1, [s1.heap.objs.size + 1, s1.heap.objs.size], _, _, H1, rfl, I2, turn_et a (s1.heap.objs.size + 1) s1.heap.objs.size (Nat.ne_of_lt hal) (Nat.ne_of_lt (Nat.lt_succ_of_lt hal)), ⟨⟨.none, he⟩, hit, Nat.succ_ne_self _⟩, fun b hb => ?_, q⟩
    have hle : s1.heap.objs.size ≤ b := by
      rcases (by simpa using hb : b = s1.heap.objs.size + 1 ∨ b = s1.heap.objs.size) with rfl | rfl
      · exact Nat.le_succ _
      · exact Nat.le_refl _
    exact I1.fpOk hle (I1.hok.fresh hle)
theorem walk_et {K : PySem.W.Frag} {a : Addr} {xs : List V} : Walk (Itet K a) xs.length (fun H => SqT K H a xs) (YPair (fun i => some (.int (i : Nat))) (fun i => xs[i]?)) := by
  refine ⟨fun i _ hi q => ⟨xs, xs[i], q, by simp [hi]⟩, fun _ q => ⟨xs, q, Nat.le_refl _⟩, fun i H v H' _ q y => ?_⟩
  obtain ⟨T, x, h1, h2, h3, h4⟩ := y
  exact ⟨T, .int (i : Nat), x, h1, h2, h3, rfl, h4 xs q⟩
end CcE

/-! Mi: what a def does, as a function on data; that the program does what such a function says -/
namespace Mi
open PySem L2 Cc
/-- what a def does: it hands back, it raises, it draws a number below n (and goes on), or nothing is known -/
inductive M (α : Type) where
  | ret (a : α)
  | err (c : Str) (p : List D)
  | bad
  | draw (n : Int) (k : Int → M α)
namespace M
variable {α β γ : Type}
def bind : M α → (α → M β) → M β
  | .ret a, f => f a
  | .err c p, _ => .err c p
  | .bad, _ => .bad
  | .draw n k, f => .draw n fun i => (k i).bind f
def wp : M α → (α → Prop) → (Str → List D → Prop) → Prop
  | .ret a, Q, _ => Q a
  | .err c p, _, E => E c p
  | .bad, _, _ => False
  | .draw n k, Q, E => (0 < n ∧ n < 1073741824) ∧ ∀ i, 0 ≤ i → i < n → (k i).wp Q E
/-- errors are not known here -/
def calm : M α → M α
  | .ret a => .ret a
  | .err _ _ => .bad
  | .bad => .bad
  | .draw n k => .draw n fun i => (k i).calm
@[simp] theorem bind_ret {a : α} {f : α → M β} : (M.ret a).bind f = f a := rfl
@[simp] theorem bind_err {c : Str} {p : List D} {f : α → M β} : (M.err c p).bind f = M.err c p := rfl
@[simp] theorem bind_bad {f : α → M β} : (M.bad).bind f = M.bad := rfl
@[simp] theorem bind_draw {n : Int} {k : Int → M α} {f : α → M β} : (M.draw n k).bind f = M.draw n fun i => (k i).bind f := rfl
@[simp] theorem wp_ret {a : α} {Q : α → Prop} {E} : (M.ret a).wp Q E = Q a := rfl
@[simp] theorem wp_err {c : Str} {p : List D} {Q : α → Prop} {E} : (M.err c p).wp Q E = E c p := rfl
@[simp] theorem wp_bad {Q : α → Prop} {E} : (M.bad).wp Q E = False := rfl
theorem wp_draw {n : Int} {k : Int → M α} {Q : α → Prop} {E} : (M.draw n k).wp Q E = ((0 < n ∧ n < 1073741824) ∧ ∀ i, 0 ≤ i → i < n → (k i).wp Q E) := rfl
@[simp] theorem calm_ret {a : α} : (M.ret a).calm = M.ret a := rfl
@[simp] theorem calm_bad : (M.bad : M α).calm = M.bad := rfl
@[simp] theorem calm_draw {n : Int} {k : Int → M α} : (M.draw n k).calm = M.draw n fun i => (k i).calm := rfl
theorem wp_bind {Q : β → Prop} {E} {f : α → M β} : ∀ m : M α, (m.bind f).wp Q E ↔ m.wp (fun a => (f a).wp Q E) E
  | .ret _ => Iff.rfl
  | .err _ _ => Iff.rfl
  | .bad => Iff.rfl
  | .draw n k => by
    simp only [bind_draw, wp_draw]
    exact and_congr_right fun _ => forall_congr' fun i => forall_congr' fun _ => forall_congr' fun _ => wp_bind (k i)
theorem wp_mono {Q Q' : α → Prop} {E E' : Str → List D → Prop} (hQ : ∀ a, Q a → Q' a) (hE : ∀ c p, E c p → E' c p) : ∀ m : M α, m.wp Q E → m.wp Q' E'
  | .ret a, h => hQ a h
  | .err c p, h => hE c p h
  | .bad, h => h
  | .draw n k, h => ⟨h.1, fun i h0 h1 => wp_mono hQ hE (k i) (h.2 i h0 h1)⟩
theorem wp_calm {Q : α → Prop} {E E'} : ∀ m : M α, m.calm.wp Q E → m.wp Q E'
  | .ret a, h => h
  | .err c p, h => h.elim
  | .bad, h => h
  | .draw n k, h => ⟨h.1, fun i h0 h1 => wp_calm (k i) (h.2 i h0 h1)⟩
theorem bind_assoc {f : α → M β} {g : β → M γ} : ∀ m : M α, (m.bind f).bind g = m.bind fun a => (f a).bind g
  | .ret _ => rfl
  | .err _ _ => rfl
  | .bad => rfl
  | .draw n k => by
    simp only [bind_draw]
    congr 1
    funext i
    exact bind_assoc (k i)
def ofO : Option α → M α
  | some a => .ret a
  | none => .bad
@[simp] theorem ofO_some {a : α} : ofO (some a) = M.ret a := rfl
@[simp] theorem ofO_none : ofO (none : Option α) = M.bad := rfl
theorem wp_ofO {o : Option α} {Q : α → Prop} {E} (h : (ofO o).wp Q E) : ∃ a, o = some a ∧ Q a := by
  cases o with
  | none => exact h.elim
  | some a => exact ⟨a, rfl, h⟩
end M
/-- what a slot holds: nothing that is known, data, a list of its own -/
inductive Sl where
  | no
  | dat (d : D)
  | own (ds : List D)
  /-- a dict of its own, whose keys are ints and texts -/
  | dk (kvs : List (Key × D))
  /-- .. as it is read -/
  | dkR (kvs : List (Key × D))
  /-- an instance of the k-th class that is being made -/
  | slf (k : Nat) (C : Addr) (ns : List Str) (ds : List D)
  /-- the row of draws -/
  | row
/-- what may change -/
def cellO : HO → Bool
  | .ext _ => false
  | .tup _ => false
  | .frz _ _ => false
  | _ => true
abbrev Env := List Sl
/-- the world: classes, errors, what changes (X), what is kept of it (I) -/
structure Wd (K : Fg) where
  ct : List Str → Option Addr
  cls : Nat → Addr
  r : Addr
  ea : Str → Option Addr
  ef : Str → List Str
  X : Addr → Bool
  I : Hp → Prop
  Fr : Addr → Prop
  cell : ∀ {H : Hp} {a : Addr}, I H → X a = true → ∃ o, H a = some o ∧ cellO o = true
  up : ∀ {H H' : Hp}, I H → Same H H' → I H'
  new : ∀ {H : Hp} {a : Addr}, I H → H a = none → Fr a
  off : ∀ {H : Hp} {a : Addr} {o u : HO}, I H → Fr a → H a = some o → cellO o = true → I (upd H a u)
section
variable {K : Fg} {W : Wd K} {H H' H1 H2 : Hp} {Y Y' : Addr → Bool}
/-- the heap without what stands at Y, and without instances that are not told by their attributes -/
def mask (W : Wd K) (Y : Addr → Bool) (H : Hp) : Hp := fun a => if Y a = true then none else match H a with
  | some (.ins C dx fs) => if W.ct (fs.map (·.1)) = some C then some (.ins C dx fs) else none
  | o => o
theorem mask_le : Same (mask W Y H) H := fun a o h => by
  unfold mask at h
  split at h
  · cases h
  · split at h
    · rename_i e
      split at h
      · rw [← h]; exact e
      · cases h
    · exact h
theorem mask_at {a : Addr} {o : HO} (h : H a = some o) (hy : Y a = false) (ho : ∀ C dx fs, o = .ins C dx fs → W.ct (fs.map (·.1)) = some C) : mask W Y H a = some o := by
  unfold mask
  rw [if_neg (by rw [hy]; exact Bool.false_ne_true), h]
  cases o with
  | ins C dx fs => exact if_pos (ho C dx fs rfl)
  | _ => rfl
def Ext (W : Wd K) (H H' : Hp) : Prop := (∀ b o, H b = some o → W.X b = false → H' b = some o) ∧ W.I H'
def Ok (W : Wd K) (Y : Addr → Bool) (H : Hp) : Prop := W.I H ∧ (∀ a, W.X a = true → Y a = true) ∧ ∀ a, Y a = true → ∃ o, H a = some o ∧ cellO o = true
theorem Ext.refl (h : W.I H) : Ext W H H := ⟨fun _ _ e _ => e, h⟩
theorem Ext.trans (a : Ext W H H1) (b : Ext W H1 H2) : Ext W H H2 := ⟨fun c o e x => b.1 c o (a.1 c o e x) x, b.2⟩
theorem Ext.of (h : W.I H) (e : Same H H') : Ext W H H' := ⟨fun b o q _ => e b o q, W.up h e⟩
theorem Ext.free (e : Ext W H H') (hi : W.I H) {p : Addr} (h : H' p = none) : H p = none := by
  cases q : H p with
  | none => rfl
  | some o =>
    cases x : W.X p with
    | false => rw [e.1 p o q x] at h; cases h
    | true =>
      obtain ⟨u, hu, _⟩ := W.cell e.2 x
      rw [hu] at h; cases h
theorem Ok.x (h : Ok W Y H) {a : Addr} (hy : Y a = false) : W.X a = false := by
  cases x : W.X a with
  | false => rfl
  | true => rw [h.2.1 a x] at hy; cases hy
theorem Ok.ext (h : Ok W Y H) (e : Ext W H H') : Ok W Y H' := ⟨e.2, h.2.1, fun a ha => by
  obtain ⟨o, ho, i⟩ := h.2.2 a ha
  cases x : W.X a with
  | true => exact W.cell e.2 x
  | false => exact ⟨o, e.1 a o ho x, i⟩⟩
theorem Ok.fresh (h : Ok W Y H) {p : Addr} (hp : H p = none) : Y p = false := by
  cases q : Y p with
  | false => rfl
  | true =>
    obtain ⟨o, ho, _⟩ := h.2.2 p q
    rw [hp] at ho; cases ho
theorem mask_ext (h : Ok W Y H) (e : Ext W H H') : Same (mask W Y H) (mask W Y H') := fun a o q => by
  have hy : Y a = false := by
    cases z : Y a with
    | false => rfl
    | true => unfold mask at q; rw [if_pos z] at q; cases q
  have q1 := mask_le a o q
  refine mask_at (e.1 a o q1 (h.x hy)) hy fun C dx fs eo => ?_
  subst eo
  unfold mask at q
  rw [if_neg (by rw [hy]; exact Bool.false_ne_true), q1] at q
  by_cases c : W.ct (fs.map (·.1)) = some C
  · exact c
  · simp only [if_neg c] at q; cases q
theorem mask_anti (h : ∀ a, Y' a = true → Y a = true) : Same (mask W Y H) (mask W Y' H) := fun a o q => by
  have hy : Y a = false := by
    cases z : Y a with
    | false => rfl
    | true => unfold mask at q; rw [if_pos z] at q; cases q
  have hy' : Y' a = false := by
    cases z : Y' a with
    | false => rfl
    | true => rw [h a z] at hy; cases hy
  unfold mask at q ⊢
  rw [if_neg (by rw [hy]; exact Bool.false_ne_true)] at q
  rw [if_neg (by rw [hy']; exact Bool.false_ne_true)]
  exact q
theorem mask_off {a : Addr} {o : HO} (h : Y a = true) : mask W Y (upd H a o) = mask W Y H := by
  funext b
  unfold mask
  by_cases e : b = a
  · subst e
    rw [if_pos h, if_pos h]
  · rw [upd_ne e]
def also (Y : Addr → Bool) (p : Addr) : Addr → Bool := fun a => a == p || Y a
/-- what stood before p was laid does not reach it -/
theorem mask_new {p : Addr} {o : HO} (h : Ok W Y H) (hp : H p = none) : Same (mask W Y H) (mask W (also Y p) (upd H p o)) := fun a u q => by
  have q1 := mask_le a u q
  have ha : a ≠ p := ne_of_none q1 hp
  unfold mask at q ⊢
  have e : also Y p a = Y a := by simp [also, ha]
  rw [e, upd_ne ha]
  exact q
abbrev Dm (W : Wd K) (Y : Addr → Bool) (H : Hp) : V → D → Prop := Dn K (mask W Y H)
abbrev Dms (W : Wd K) (Y : Addr → Bool) (H : Hp) : List V → List D → Prop := Dns K (mask W Y H)
/-! what holds no lists and no instances is seen through any mask -/
mutual
theorem Dn.see (h : Ok W Y H) : ∀ (d : D) (v : V), d.fix = true → d.pl = true → Dn K H v d → Dn K (mask W Y H) v d
  | .non, _, _, _, e => by cases e; exact .non
  | .bl b, _, _, _, e => by cases e; exact .bl b
  | .int i, _, _, _, e => by cases e; exact .int i
  | .str x, _, _, _, e => by cases e; exact .str x
  | .lst _, _, f, _, _ => by cases f
  | .tup ds, _, f, p, e => by
    cases e with
    | tup hs ha =>
      refine .tup ?_ (Dns.see h ds _ f p ha)
      have at' : ∀ {a : Addr} {o : HO}, H a = some o → cellO o = false → (∀ C dx fs, o ≠ .ins C dx fs) → mask W Y H a = some o := fun {a o} e i n => mask_at e (by
        cases z : Y a with
        | false => rfl
        | true =>
          obtain ⟨u, hu, iu⟩ := h.2.2 a z
          rw [e] at hu; cases hu; rw [i] at iu; cases iu) fun C dx fs eo => (n C dx fs eo).elim
      rcases hs with (hs | ⟨o, hs⟩) | hs
      · exact .inl (.inl (at' hs rfl (fun _ _ _ z => nomatch z)))
      · exact .inl (.inr ⟨o, at' hs rfl (fun _ _ _ z => nomatch z)⟩)
      · exact .inr hs
  | .ptup ds, _, f, p, e => by
    cases e with
    | ptup hs ha =>
      obtain ⟨o, po, hs⟩ := hs
      refine .ptup ⟨o, po, mask_at hs ?_ fun _ _ _ z => nomatch z⟩ (Dns.see h ds _ f p ha)
      · rename_i a xs
        cases z : Y a with
        | false => rfl
        | true =>
          obtain ⟨u, hu, iu⟩ := h.2.2 a z
          rw [hs] at hu; cases hu; cases iu
  | .ob _ _ _, _, _, p, _ => by cases p
  | .adr _, _, _, p, _ => by cases p
theorem Dns.see (h : Ok W Y H) : ∀ (ds : List D) (vs : List V), D.fixs ds = true → D.pls ds = true → Dns K H vs ds → Dns K (mask W Y H) vs ds
  | [], _, _, _, e => by cases e; exact .nil
  | d :: ds, _, f, p, e => by
    cases e with
    | cons h1 h2 =>
      have f' : d.fix = true ∧ D.fixs ds = true := by simpa [D.fixs] using f
      have p' : d.pl = true ∧ D.pls ds = true := by simpa [D.pls] using p
      exact .cons (Dn.see h d _ f'.1 p'.1 h1) (Dns.see h ds _ f'.2 p'.2 h2)
end
theorem Dm.up {v : V} {d : D} (h : Dm W Y H v d) (o : Ok W Y H) (e : Ext W H H') : Dm W Y H' v d := Dn.same (mask_ext o e) d v h
theorem Dms.up {vs : List V} {ds : List D} (h : Dms W Y H vs ds) (o : Ok W Y H) (e : Ext W H H') : Dms W Y H' vs ds := Dns.same (mask_ext o e) ds vs h
theorem Dm.un {v : V} {d : D} (h : Dm W Y H v d) : Dn K H v d := Dn.same mask_le d v h
theorem Dms.un {vs : List V} {ds : List D} (h : Dms W Y H vs ds) : Dns K H vs ds := Dns.same mask_le ds vs h
theorem Dm.fresh {v : V} {d : D} {p : Addr} {o : HO} (h : Dm W Y H v d) (k : Ok W Y H) (hp : H p = none) : Dm W (also Y p) (upd H p o) v d := Dn.same (mask_new k hp) d v h
theorem Dms.fresh {vs : List V} {ds : List D} {p : Addr} {o : HO} (h : Dms W Y H vs ds) (k : Ok W Y H) (hp : H p = none) : Dms W (also Y p) (upd H p o) vs ds := Dns.same (mask_new k hp) ds vs h
theorem Dm.less {v : V} {d : D} (h : Dm W Y H v d) (k : ∀ a, Y' a = true → Y a = true) : Dm W Y' H v d := Dn.same (mask_anti k) d v h
theorem Dms.less {vs : List V} {ds : List D} (h : Dms W Y H vs ds) (k : ∀ a, Y' a = true → Y a = true) : Dms W Y' H vs ds := Dns.same (mask_anti k) ds vs h
theorem also_r {p : Addr} : ∀ a, Y a = true → also Y p a = true := fun a h => by simp [also, h]
/-! what is wanted of what comes back -/
def RetP (W : Wd K) (Y : Addr → Bool) (H : Hp) (Q : VK) : D → Prop := fun d => ∀ v H', Ext W H H' → Dm W Y H' v d → Q v H'
def RetPs (W : Wd K) (Y : Addr → Bool) (H : Hp) (Q : List V → Hp → Prop) : List D → Prop := fun ds => ∀ vs H', Ext W H H' → Dms W Y H' vs ds → Q vs H'
def RetPb (W : Wd K) (H : Hp) (Q : Bool → Hp → Prop) : Bool → Prop := fun b => ∀ H', Ext W H H' → Q b H'
/-- .. of a new list: its items do not reach it -/
def RetPn (W : Wd K) (Y : Addr → Bool) (H : Hp) (Q : VK) : List D → Prop := fun ds => ∀ p xs H', Ext W H H' → H p = none → H' p = some (.lst xs) → Dms W (also Y p) H' xs ds → Q (.ref p) H'
/-- an error of the class c with the fields p -/
def IsE (W : Wd K) (c : Str) (p : List D) (cls : Value) (o : Option Addr) (H : Hp) : Prop := ∃ A, W.ea c = some A ∧ cls = .ref A ∧
  ((p = [] ∧ o = none) ∨ (p ≠ [] ∧ ∃ dd vs, o = some dd ∧ (W.ef c).length = vs.length ∧ H dd = some (.xd ((W.ef c).zip vs)) ∧ Dns K (fun _ => none) vs p))
def ErrP (W : Wd K) (E : XK) (H : Hp) : Str → List D → Prop := fun c p => ∀ cls o H', Ext W H H' → IsE W c p cls o H' → E cls o H'
theorem RetP.up {Q : VK} {d : D} (h : RetP W Y H Q d) (e : Ext W H H') : RetP W Y H' Q d := fun v H2 e2 hv => h v H2 (e.trans e2) hv
theorem ErrP.up {E : XK} {c : Str} {p : List D} (h : ErrP W E H c p) (e : Ext W H H') : ErrP W E H' c p := fun cls o H2 e2 hv => h cls o H2 (e.trans e2) hv
/-! readings -/
def look (ρ : Env) (i : Nat) : Option D := match ρ[i]? with
  | some (.dat d) => some d
  | _ => none
def DkR (K : Fg) (Hm : Hp) (σ : L2.St) (i : Nat) (kvs : List (Key × D)) : Prop := ∃ l vs, σ[i]? = some (some (V.ref l)) ∧ Hm l = some (.dK ((kvs.map (·.1)).zip vs)) ∧ Dns K Hm vs (kvs.map (·.2))
def EnvR {K : Fg} (W : Wd K) (Hm : Hp) (σ : L2.St) (ρ : Env) : Prop := σ.length = ρ.length ∧ (∀ i d, look ρ i = some d → ∃ v, σ[i]? = some (some v) ∧ Dn K Hm v d) ∧ (∀ i : Nat, ρ[i]? = some Sl.row → σ[i]? = some (some (V.ref W.r))) ∧ ∀ (i : Nat) kvs, ρ[i]? = some (Sl.dkR kvs) → DkR K Hm σ i kvs
theorem EnvR.same {Hm Hm' : Hp} {σ : L2.St} {ρ : Env} (h : EnvR W Hm σ ρ) (e : Same Hm Hm') : EnvR W Hm' σ ρ := ⟨h.1, fun i d l => by
  obtain ⟨v, h1, h2⟩ := h.2.1 i d l
  exact ⟨v, h1, h2.up e⟩, h.2.2.1, fun i kvs l => by
  obtain ⟨p, vs, h1, h2, h3⟩ := h.2.2.2 i kvs l
  exact ⟨p, vs, h1, e _ _ h2, Dns.same e _ _ h3⟩⟩
theorem EnvR.up {σ : L2.St} {ρ : Env} (h : EnvR W (mask W Y H) σ ρ) (o : Ok W Y H) (e : Ext W H H') : EnvR W (mask W Y H') σ ρ := h.same (mask_ext o e)
def GE (W : Wd K) (E : XK) (te : TE) (m : Env → M D) : Prop := ∀ Y σ H ρ Q, Ok W Y H → EnvR W (mask W Y H) σ ρ → (m ρ).wp (RetP W Y H Q) (ErrP W E H) → te σ H Q
def GA (W : Wd K) (E : XK) (ta : TA) (m : Env → M (List D)) : Prop := ∀ Y σ H ρ Q, Ok W Y H → EnvR W (mask W Y H) σ ρ → (m ρ).wp (RetPs W Y H Q) (ErrP W E H) → ta σ H Q
def GT (W : Wd K) (E : XK) (tt : TT) (m : Env → M Bool) : Prop := ∀ Y σ H ρ Q, Ok W Y H → EnvR W (mask W Y H) σ ρ → (m ρ).wp (RetPb W H Q) (ErrP W E H) → tt σ H Q
def GN (W : Wd K) (E : XK) (te : TE) (m : Env → M (List D)) : Prop := ∀ Y σ H ρ Q, Ok W Y H → EnvR W (mask W Y H) σ ρ → (m ρ).wp (RetPn W Y H Q) (ErrP W E H) → te σ H Q
def RetPo (W : Wd K) (H : Hp) (Q : Option Int → Hp → Prop) : Option Int → Prop := fun b => ∀ H', Ext W H H' → Q b H'
def GO (W : Wd K) (E : XK) (to : TO) (m : Env → M (Option Int)) : Prop := ∀ Y σ H ρ Q, Ok W Y H → EnvR W (mask W Y H) σ ρ → (m ρ).wp (RetPo W H Q) (ErrP W E H) → to σ H Q
/-! combinators of functions -/
def mVar (i : Nat) : Env → M D := fun ρ => M.ofO (look ρ i)
def mC (d : D) : Env → M D := fun _ => .ret d
def mOp (f : D → D → Option D) (a b : Env → M D) : Env → M D := fun ρ => (a ρ).bind fun x => (b ρ).bind fun y => M.ofO (f x y)
def mUn (f : D → Option D) (a : Env → M D) : Env → M D := fun ρ => (a ρ).bind fun x => M.ofO (f x)
def mNil : Env → M (List D) := fun _ => .ret []
def mCons (a : Env → M D) (r : Env → M (List D)) : Env → M (List D) := fun ρ => (a ρ).bind fun x => (r ρ).bind fun xs => .ret (x :: xs)
def mCB (f : List D → Option D) (a : Env → M (List D)) : Env → M D := fun ρ => (a ρ).bind fun xs => M.ofO (f xs)
def mCBn (f : List D → Option (List D)) (a : Env → M (List D)) : Env → M (List D) := fun ρ => (a ρ).bind fun xs => M.ofO (f xs)
def mCall (F : List D → M D) (a : Env → M (List D)) : Env → M D := fun ρ => (a ρ).bind F
def mTup (a : Env → M (List D)) : Env → M D := fun ρ => (a ρ).bind fun xs => if xs.length ≤ 100000 then .ret (.ptup xs) else .bad
def mLst (a : Env → M (List D)) : Env → M (List D) := fun ρ => (a ρ).bind fun xs => if xs.length ≤ 100000 then .ret xs else .bad
def mNew (a : Env → M (List D)) : Env → M D := fun ρ => (a ρ).bind fun xs => .ret (.lst xs)
def asB : D → M Bool
  | .bl b => .ret b
  | _ => .bad
def cOf (a : Env → M D) : Env → M Bool := fun ρ => (a ρ).bind asB
def cAnd (a b : Env → M Bool) : Env → M Bool := fun ρ => (a ρ).bind fun x => if x then b ρ else .ret false
def cOr (a b : Env → M Bool) : Env → M Bool := fun ρ => (a ρ).bind fun x => if x then .ret true else b ρ
def cNot (a : Env → M Bool) : Env → M Bool := fun ρ => (a ρ).bind fun x => .ret (!x)
def cYes : Env → M Bool := fun _ => .ret true
def mAnd (a b : Env → M D) : Env → M D := fun ρ => (a ρ).bind fun x => (asB x).bind fun k => if k then b ρ else .ret (.bl false)
def mOr (a b : Env → M D) : Env → M D := fun ρ => (a ρ).bind fun x => (asB x).bind fun k => if k then .ret (.bl true) else b ρ
def mNot (a : Env → M D) : Env → M D := fun ρ => (a ρ).bind fun x => (asB x).bind fun k => .ret (.bl (!k))
def mIf (c : Env → M Bool) (a b : Env → M D) : Env → M D := fun ρ => (c ρ).bind fun k => if k then a ρ else b ρ
def mChain (f g : D → D → Option D) (a b c : Env → M D) : Env → M D := fun ρ => (a ρ).bind fun x => (b ρ).bind fun y => (M.ofO (f x y)).bind fun z => (asB z).bind fun k => if k then (c ρ).bind fun w => M.ofO (g y w) else .ret (.bl false)
def oNone : Env → M (Option Int) := fun _ => .ret none
def asI : D → M Int
  | .int i => .ret i
  | _ => .bad
def oSome (a : Env → M D) : Env → M (Option Int) := fun ρ => (a ρ).bind fun x => (asI x).bind fun i => .ret (some i)
end
section
variable {K : Fg} {W : Wd K} {E : XK} {ta tb tc te : TE} {tt uu : TT} {m a b c : Env → M D} {tl : TA} {ma : Env → M (List D)} {p q : Env → M Bool}
/-- the rule by which most are shown: first m, then what follows -/
theorem GE.seq {α : Type} {Y : Addr → Bool} {σ : L2.St} {H : Hp} {ρ : Env} {f : D → M α} {R : α → Prop} {Er : Str → List D → Prop} {Q : VK} (h : GE W E te m) (o : Ok W Y H) (e : EnvR W (mask W Y H) σ ρ) (w : ((m ρ).bind f).wp R Er) (hE : ∀ c p, Er c p → ErrP W E H c p)
    (k : ∀ d v H1, Ext W H H1 → Ok W Y H1 → EnvR W (mask W Y H1) σ ρ → Dm W Y H1 v d → (f d).wp R Er → Q v H1) : te σ H Q :=
  h Y σ H ρ Q o e (M.wp_mono (fun d hd v H1 e1 hv => k d v H1 e1 (o.ext e1) (e.up o e1) hv hd) hE _ ((M.wp_bind _).mp w))
theorem GA.seq {α : Type} {Y : Addr → Bool} {σ : L2.St} {H : Hp} {ρ : Env} {f : List D → M α} {R : α → Prop} {Er : Str → List D → Prop} {Q : List V → Hp → Prop} (h : GA W E tl ma) (o : Ok W Y H) (e : EnvR W (mask W Y H) σ ρ) (w : ((ma ρ).bind f).wp R Er) (hE : ∀ c p, Er c p → ErrP W E H c p)
    (k : ∀ ds vs H1, Ext W H H1 → Ok W Y H1 → EnvR W (mask W Y H1) σ ρ → Dms W Y H1 vs ds → (f ds).wp R Er → Q vs H1) : tl σ H Q :=
  h Y σ H ρ Q o e (M.wp_mono (fun d hd v H1 e1 hv => k d v H1 e1 (o.ext e1) (e.up o e1) hv hd) hE _ ((M.wp_bind _).mp w))
theorem GT.seq {α : Type} {Y : Addr → Bool} {σ : L2.St} {H : Hp} {ρ : Env} {f : Bool → M α} {R : α → Prop} {Er : Str → List D → Prop} {Q : Bool → Hp → Prop} (h : GT W E tt p) (o : Ok W Y H) (e : EnvR W (mask W Y H) σ ρ) (w : ((p ρ).bind f).wp R Er) (hE : ∀ c p, Er c p → ErrP W E H c p)
    (k : ∀ b H1, Ext W H H1 → Ok W Y H1 → EnvR W (mask W Y H1) σ ρ → (f b).wp R Er → Q b H1) : tt σ H Q :=
  h Y σ H ρ Q o e (M.wp_mono (fun b hd H1 e1 => k b H1 e1 (o.ext e1) (e.up o e1) hd) hE _ ((M.wp_bind _).mp w))
theorem wp_up {α : Type} {x : M α} {R R' : α → Prop} {H H1 : Hp} (w : x.wp R (ErrP W E H)) (e : Ext W H H1) (k : ∀ a, R a → R' a) : x.wp R' (ErrP W E H1) := M.wp_mono k (fun _ _ h => h.up e) _ w
theorem ge_var {i : Nat} : GE W E (tVar i) (mVar i) := fun Y σ H ρ Q o e w => by
  obtain ⟨d, hd, hq⟩ := M.wp_ofO w
  obtain ⟨v, h1, h2⟩ := e.2.1 i d hd
  exact ⟨v, h1, hq v H (.refl o.1) h2⟩
theorem ge_c {v : V} {d : D} (h : ∀ Hm : Hp, Dn K Hm v d) : GE W E (tC v) (mC d) := fun Y σ H ρ Q o e w => w v H (.refl o.1) (h _)
theorem ge_int {i : Int} : GE W E (tC (.int i)) (mC (.int i)) := ge_c fun _ => .int i
theorem ge_str {x : Str} : GE W E (tC (.str x)) (mC (.str x)) := ge_c fun _ => .str x
theorem ge_bl {x : Bool} : GE W E (tC (.bl x)) (mC (.bl x)) := ge_c fun _ => .bl x
theorem ge_non : GE W E (tC .non) (mC .non) := ge_c fun _ => .non
/-- an operator: what it gives on data -/
def R2M (W : Wd K) (r : R2) (f : D → D → Option D) : Prop := ∀ Y H x y d e z (Q : VK), Ok W Y H → Dm W Y H x d → Dm W Y H y e → f d e = some z → RetP W Y H Q z → r x y H Q
def R1M (W : Wd K) (r : V → Hp → VK → Prop) (f : D → Option D) : Prop := ∀ Y H x d z (Q : VK), Ok W Y H → Dm W Y H x d → f d = some z → RetP W Y H Q z → r x H Q
def RCM (W : Wd K) (r : List V → Hp → VK → Prop) (f : List D → Option D) : Prop := ∀ Y H vs ds z (Q : VK), Ok W Y H → Dms W Y H vs ds → f ds = some z → RetP W Y H Q z → r vs H Q
def RCN (W : Wd K) (r : List V → Hp → VK → Prop) (f : List D → Option (List D)) : Prop := ∀ Y H vs ds z (Q : VK), Ok W Y H → Dms W Y H vs ds → f ds = some z → RetPn W Y H Q z → r vs H Q
def R2N (W : Wd K) (r : R2) (f : D → D → Option (List D)) : Prop := ∀ Y H x y d e z (Q : VK), Ok W Y H → Dm W Y H x d → Dm W Y H y e → f d e = some z → RetPn W Y H Q z → r x y H Q
theorem R2M.of {r : R2} {f : D → D → Option D} (h : ∀ d e z, f d e = some z → R2D K r d e z ∧ z.fix = true ∧ z.pl = true) : R2M W r f := fun Y H x y d e z Q o hx hy hz q => by
  obtain ⟨h1, h2, h3⟩ := h d e z hz
  exact h1 x y H Q hx.un hy.un fun v H' e' hv => q v H' (.of o.1 e') (Dn.see (o.ext (.of o.1 e')) z v h2 h3 hv)
theorem R1M.of {r : V → Hp → VK → Prop} {f : D → Option D} (h : ∀ d z, f d = some z → R1D K r d z ∧ z.fix = true ∧ z.pl = true) : R1M W r f := fun Y H x d z Q o hx hz q => by
  obtain ⟨h1, h2, h3⟩ := h d z hz
  exact h1 x H Q hx.un fun v H' e' hv => q v H' (.of o.1 e') (Dn.see (o.ext (.of o.1 e')) z v h2 h3 hv)
theorem RCM.of {r : List V → Hp → VK → Prop} {f : List D → Option D} (h : ∀ ds z, f ds = some z → RCD K r ds z ∧ z.fix = true ∧ z.pl = true) : RCM W r f := fun Y H vs ds z Q o hx hz q => by
  obtain ⟨h1, h2, h3⟩ := h ds z hz
  exact h1 vs H Q hx.un fun v H' e' hv => q v H' (.of o.1 e') (Dn.see (o.ext (.of o.1 e')) z v h2 h3 hv)
theorem ge_op {r : R2} {f : D → D → Option D} (ha : GE W E ta a) (hb : GE W E tb b) (hr : R2M W r f) : GE W E (tOp r ta tb) (mOp f a b) := fun Y σ H ρ Q o e w =>
  ha.seq o e w (fun _ _ h => h) fun d x H1 e1 o1 r1 hx w1 => hb.seq o1 r1 w1 (fun _ _ h => h.up e1) fun d2 y H2 e2 o2 r2 hy w2 => by
    obtain ⟨z, hz, q⟩ := M.wp_ofO w2
    exact hr Y H2 x y d d2 z Q o2 (hx.up o1 e2) hy hz (q.up (e1.trans e2))
theorem gn_op {r : R2} {f : D → D → Option (List D)} (ha : GE W E ta a) (hb : GE W E tb b) (hr : R2N W r f) : GN W E (tOp r ta tb) (fun ρ => (a ρ).bind fun x => (b ρ).bind fun y => M.ofO (f x y)) := fun Y σ H ρ Q o e w =>
  ha.seq o e w (fun _ _ h => h) fun d x H1 e1 o1 r1 hx w1 => hb.seq o1 r1 w1 (fun _ _ h => h.up e1) fun d2 y H2 e2 o2 r2 hy w2 => by
    obtain ⟨z, hz, q⟩ := M.wp_ofO w2
    exact hr Y H2 x y d d2 z Q o2 (hx.up o1 e2) hy hz fun p xs H3 e3 hp h3 hd => q p xs H3 ((e1.trans e2).trans e3) ((e1.trans e2).free o.1 hp) h3 hd
theorem ge_un {r : V → Hp → VK → Prop} {f : D → Option D} (ha : GE W E ta a) (hr : R1M W r f) : GE W E (tUn r ta) (mUn f a) := fun Y σ H ρ Q o e w =>
  ha.seq o e w (fun _ _ h => h) fun d x H1 e1 o1 r1 hx w1 => by
    obtain ⟨z, hz, q⟩ := M.wp_ofO w1
    exact hr Y H1 x d z Q o1 hx hz (q.up e1)
theorem ga_nil : GA W E tNil mNil := fun Y σ H ρ Q o e w => w [] H (.refl o.1) .nil
theorem ga_cons (ha : GE W E ta a) (hr : GA W E tl ma) : GA W E (tCons ta tl) (mCons a ma) := fun Y σ H ρ Q o e w =>
  ha.seq o e w (fun _ _ h => h) fun d x H1 e1 o1 r1 hx w1 => hr.seq o1 r1 w1 (fun _ _ h => h.up e1) fun ds xs H2 e2 o2 r2 hxs w2 => w2 _ H2 (e1.trans e2) (.cons (hx.up o1 e2) hxs)
theorem ge_cb {r : List V → Hp → VK → Prop} {f : List D → Option D} (ha : GA W E tl ma) (hr : RCM W r f) : GE W E (tCB r tl) (mCB f ma) := fun Y σ H ρ Q o e w =>
  ha.seq o e w (fun _ _ h => h) fun ds xs H1 e1 o1 r1 hx w1 => by
    obtain ⟨z, hz, q⟩ := M.wp_ofO w1
    exact hr Y H1 xs ds z Q o1 hx hz (q.up e1)
theorem gn_cb {r : List V → Hp → VK → Prop} {f : List D → Option (List D)} (ha : GA W E tl ma) (hr : RCN W r f) : GN W E (tCB r tl) (mCBn f ma) := fun Y σ H ρ Q o e w =>
  ha.seq o e w (fun _ _ h => h) fun ds xs H1 e1 o1 r1 hx w1 => by
    obtain ⟨z, hz, q⟩ := M.wp_ofO w1
    exact hr Y H1 xs ds z Q o1 hx hz fun p xs H3 e3 hp h3 hd => q p xs H3 (e1.trans e3) (e1.free o.1 hp) h3 hd
/-- a new list is data -/
theorem GN.ge {mn : Env → M (List D)} (h : GN W E te mn) : GE W E te (mNew mn) := fun Y σ H ρ Q o e w =>
  h Y σ H ρ Q o e (M.wp_mono (fun ds hd p xs H' e' hp hx hds => hd (.ref p) H' e' (.lst (mask_at hx (o.fresh hp) fun _ _ _ z => nomatch z) (hds.less also_r))) (fun _ _ h => h) _ ((M.wp_bind _).mp w))
theorem ge_tup (ha : GA W E tl ma) : GE W E (tTupP tl) (mTup ma) := fun Y σ H ρ Q o e w =>
  ha.seq o e w (fun _ _ h => h) fun ds xs H1 e1 o1 r1 hx w1 => by
    split at w1
    · rename_i hl
      refine ⟨by rw [hx.length, sizeLine_eq]; omega, fun p ob hp ho => w1 _ _ (e1.trans (.of o1.1 (Same.new hp))) (.ptup ⟨ob, ho, mask_at upd_same (o1.fresh hp) fun _ _ _ z => nomatch z⟩ (hx.up o1 (.of o1.1 (Same.new hp))))⟩
    · exact w1.elim
theorem gn_lst (ha : GA W E tl ma) : GN W E (tLst tl) (mLst ma) := fun Y σ H ρ Q o e w =>
  ha.seq o e w (fun _ _ h => h) fun ds xs H1 e1 o1 r1 hx w1 => by
    split at w1
    · exact ⟨by rw [hx.length, sizeLine_eq]; omega, fun p hp => w1 p xs _ (e1.trans (.of o1.1 (Same.new hp))) (e1.free o.1 hp) upd_same (hx.fresh o1 hp)⟩
    · exact w1.elim
/-! tests, and, or, not, if -/
theorem asB_wp {d : D} {R : Bool → Prop} {Er} (h : (asB d).wp R Er) : ∃ k, d = .bl k ∧ R k := by
  cases d <;> first | exact h.elim | exact ⟨_, rfl, h⟩
theorem gt_of (ha : GE W E ta a) : GT W E (tTest ta) (cOf a) := fun Y σ H ρ Q o e w =>
  ha.seq o e w (fun _ _ h => h) fun d x H1 e1 o1 r1 hx w1 => by
    obtain ⟨k, rfl, hk⟩ := asB_wp w1
    cases hx
    exact ⟨k, rfl, hk H1 e1⟩
theorem gt_ofB (ha : GE W E ta a) : GT W E (tB ta) (cOf a) := fun Y σ H ρ Q o e w =>
  ha.seq o e w (fun _ _ h => h) fun d x H1 e1 o1 r1 hx w1 => by
    obtain ⟨k, rfl, hk⟩ := asB_wp w1
    cases hx
    exact ⟨k, rfl, hk H1 e1⟩
theorem gt_and (h1 : GT W E tt p) (h2 : GT W E uu q) : GT W E (tAnd tt uu) (cAnd p q) := fun Y σ H ρ Q o e w =>
  h1.seq o e w (fun _ _ h => h) fun k H1 e1 o1 r1 w1 => by
    cases k with
    | true => exact (if_pos rfl).mpr (h2 Y σ H1 ρ Q o1 r1 (wp_up w1 e1 fun b hb H2 e2 => hb H2 (e1.trans e2)))
    | false => exact (if_neg Bool.false_ne_true).mpr (w1 H1 e1)
theorem gt_or (h1 : GT W E tt p) (h2 : GT W E uu q) : GT W E (tOr tt uu) (cOr p q) := fun Y σ H ρ Q o e w =>
  h1.seq o e w (fun _ _ h => h) fun k H1 e1 o1 r1 w1 => by
    cases k with
    | true => exact (if_pos rfl).mpr (w1 H1 e1)
    | false => exact (if_neg Bool.false_ne_true).mpr (h2 Y σ H1 ρ Q o1 r1 (wp_up w1 e1 fun b hb H2 e2 => hb H2 (e1.trans e2)))
theorem gt_not (h1 : GT W E tt p) : GT W E (tNot tt) (cNot p) := fun Y σ H ρ Q o e w =>
  h1.seq o e w (fun _ _ h => h) fun k H1 e1 o1 r1 w1 => w1 H1 e1
theorem gt_yes : GT W E tYes cYes := fun Y σ H ρ Q o e w => w H (.refl o.1)
theorem ge_and (ha : GE W E ta a) (hb : GE W E tb b) : GE W E (tAndV ta tb) (mAnd a b) := fun Y σ H ρ Q o e w =>
  ha.seq o e w (fun _ _ h => h) fun d x H1 e1 o1 r1 hx w1 => by
    obtain ⟨k, rfl, hk⟩ := asB_wp ((M.wp_bind _).mp w1)
    cases hx
    refine ⟨k, rfl, ?_⟩
    cases k with
    | true => exact (if_pos rfl).mpr (hb Y σ H1 ρ Q o1 r1 (wp_up hk e1 fun d hd => hd.up e1))
    | false => exact (if_neg Bool.false_ne_true).mpr (hk _ H1 e1 (.bl _))
theorem ge_or (ha : GE W E ta a) (hb : GE W E tb b) : GE W E (tOrV ta tb) (mOr a b) := fun Y σ H ρ Q o e w =>
  ha.seq o e w (fun _ _ h => h) fun d x H1 e1 o1 r1 hx w1 => by
    obtain ⟨k, rfl, hk⟩ := asB_wp ((M.wp_bind _).mp w1)
    cases hx
    refine ⟨k, rfl, ?_⟩
    cases k with
    | true => exact (if_pos rfl).mpr (hk _ H1 e1 (.bl _))
    | false => exact (if_neg Bool.false_ne_true).mpr (hb Y σ H1 ρ Q o1 r1 (wp_up hk e1 fun d hd => hd.up e1))
theorem ge_not (ha : GE W E ta a) : GE W E (tNotV ta) (mNot a) := fun Y σ H ρ Q o e w =>
  ha.seq o e w (fun _ _ h => h) fun d x H1 e1 o1 r1 hx w1 => by
    obtain ⟨k, rfl, hk⟩ := asB_wp ((M.wp_bind _).mp w1)
    cases hx
    exact ⟨k, rfl, hk _ H1 e1 (.bl _)⟩
theorem ge_if (hc : GT W E tt p) (ha : GE W E ta a) (hb : GE W E tb b) : GE W E (tIf tt ta tb) (mIf p a b) := fun Y σ H ρ Q o e w =>
  hc.seq o e w (fun _ _ h => h) fun k H1 e1 o1 r1 w1 => by
    cases k with
    | true => exact (if_pos rfl).mpr (ha Y σ H1 ρ Q o1 r1 (wp_up w1 e1 fun d hd => hd.up e1))
    | false => exact (if_neg Bool.false_ne_true).mpr (hb Y σ H1 ρ Q o1 r1 (wp_up w1 e1 fun d hd => hd.up e1))
theorem ge_chain {r r' : R2} {f g : D → D → Option D} (ha : GE W E ta a) (hb : GE W E tb b) (hr : R2M W r f) (hc : GE W E tc c) (hr' : R2M W r' g) : GE W E (tChain r r' ta tb tc) (mChain f g a b c) := fun Y σ H ρ Q o e w =>
  ha.seq o e w (fun _ _ h => h) fun d x H1 e1 o1 r1 hx w1 => hb.seq o1 r1 w1 (fun _ _ h => h.up e1) fun d2 y H2 e2 o2 r2 hy w2 => by
    obtain ⟨z, hz, w2'⟩ := M.wp_ofO ((M.wp_bind _).mp w2)
    refine hr Y H2 x y d d2 z _ o2 (hx.up o1 e2) hy hz fun v H3 e3 hv => ?_
    obtain ⟨k, rfl, hk⟩ := asB_wp ((M.wp_bind _).mp w2')
    cases hv
    refine ⟨k, rfl, ?_⟩
    have e13 := (e1.trans e2).trans e3
    cases k with
    | true =>
      exact (if_pos rfl).mpr (hc.seq (o2.ext e3) (r2.up o2 e3) hk (fun _ _ h => h.up e13) fun d3 u H4 e4 o4 r4 hu w4 => by
        obtain ⟨z', hz', q⟩ := M.wp_ofO w4
        exact hr' Y H4 y u d2 d3 z' Q o4 ((hy.up o2 e3).up (o2.ext e3) e4) hu hz' (q.up (e13.trans e4)))
    | false => exact (if_neg Bool.false_ne_true).mpr (hk _ H3 e13 (.bl _))
theorem go_none : GO W E tNoPart oNone := fun Y σ H ρ Q o e w => w H (.refl o.1)
theorem go_some (ha : GE W E ta a) : GO W E (tPart ta) (oSome a) := fun Y σ H ρ Q o e w =>
  ha.seq o e w (fun _ _ h => h) fun d x H1 e1 o1 r1 hx w1 => by
    cases d with
    | int i =>
      cases hx
      exact ⟨i, rfl, w1 H1 e1⟩
    | _ => exact w1.elim
/-! defs -/
/-- the promise: what F says -/
def spM (W : Wd K) (F : List D → M D) : Sp := fun vs H Q E => ∃ Y ds, Ok W Y H ∧ Dms W Y H vs ds ∧ (F ds).wp (RetP W Y H Q) (ErrP W E H)
/-- .. of a def that raises nothing -/
def spC (W : Wd K) (F : List D → M D) : Sp := fun vs H Q _ => ∃ Y ds, Ok W Y H ∧ Dms W Y H vs ds ∧ (F ds).wp (RetP W Y H Q) (fun _ _ => False)
theorem ge_call {F : List D → M D} {E' : XK} (ha : GA W E tl ma) : GE W E (tCall (spC W F) [] E' tl) (mCall (fun ds => (F ds).calm) ma) := fun Y σ H ρ Q o e w =>
  ha.seq o e w (fun _ _ h => h) fun ds xs H1 e1 o1 r1 hx w1 => ⟨Y, ds, o1, by rw [List.append_nil]; exact hx, M.wp_mono (fun d hd => hd.up e1) (fun _ _ h => h) _ (M.wp_calm (E' := fun _ _ => False) _ w1)⟩
theorem ge_calS {F : List D → M D} {X : WX} (hX : ∀ σ, WE X σ = E) (ha : GA W E tl ma) : GE W E (tCallS (spM W F) (WE X) tl) (mCall F ma) := fun Y σ H ρ Q o e w =>
  ha.seq o e w (fun _ _ h => h) fun ds xs H1 e1 o1 r1 hx w1 => ⟨Y, ds, o1, hx, by rw [hX]; exact wp_up w1 e1 fun d hd => hd.up e1⟩
end
end Mi

/-! Mi: patterns, what is walked, comprehensions, statements, defs -/
namespace Mi
open PySem L2 Cc
abbrev Pat := D → Env → Option Env
def pName (i : Nat) : Pat := fun d ρ => some (ρ.set i (.dat d))
def pGo : List Pat → List D → Env → Option Env
  | [], [], ρ => some ρ
  | p :: ps, d :: ds, ρ => match p d ρ with
    | some ρ' => pGo ps ds ρ'
    | none => none
  | _, _, _ => none
def pTup (ps : List Pat) : Pat := fun d ρ => match d with
  | .tup ds => pGo ps ds ρ
  | .ptup ds => pGo ps ds ρ
  | _ => none
def pLst (ps : List Pat) : Pat := fun d ρ => match d with
  | .lst ds => pGo ps ds ρ
  | _ => none
/-- slots at is have been set -/
inductive SetR (K : Fg) (Hm : Hp) (is : List Nat) : L2.St → Env → L2.St → Env → Prop where
  | refl {σ : L2.St} {ρ : Env} : SetR K Hm is σ ρ σ ρ
  | set {σ σ1 : L2.St} {ρ ρ1 : Env} {i : Nat} {v : V} {d : D} : SetR K Hm is σ ρ σ1 ρ1 → i ∈ is → Dn K Hm v d → SetR K Hm is σ ρ (σ1.set i (some v)) (ρ1.set i (.dat d))
section
variable {K : Fg} {W : Wd K} {Hm : Hp} {is js : List Nat}
theorem SetR.trans {σ σ1 σ2 : L2.St} {ρ ρ1 ρ2 : Env} (a : SetR K Hm is σ ρ σ1 ρ1) (b : SetR K Hm is σ1 ρ1 σ2 ρ2) : SetR K Hm is σ ρ σ2 ρ2 := by
  induction b with
  | refl => exact a
  | set _ hi hd ih => exact .set (ih a) hi hd
theorem SetR.more {σ σ1 : L2.St} {ρ ρ1 : Env} (a : SetR K Hm is σ ρ σ1 ρ1) (h : ∀ i ∈ is, i ∈ js) : SetR K Hm js σ ρ σ1 ρ1 := by
  induction a with
  | refl => exact .refl
  | set _ hi hd ih => exact .set ih (h _ hi) hd
theorem look_set {ρ : Env} {i j : Nat} {s : Sl} : look (ρ.set i s) j = if i = j ∧ j < ρ.length then (match s with | .dat d => some d | _ => none) else look ρ j := by
  unfold look
  rw [List.getElem?_set]
  by_cases e : i = j
  · subst e
    by_cases h : i < ρ.length
    · simp [h]
      cases s <;> rfl
    · simp [h]
  · simp [e]
theorem EnvR.set {σ : L2.St} {ρ : Env} {i : Nat} {v : V} {d : D} (h : EnvR W Hm σ ρ) (hd : Dn K Hm v d) : EnvR W Hm (σ.set i (some v)) (ρ.set i (.dat d)) := ⟨by simp [h.1], fun j d' l => by
  rw [look_set] at l
  by_cases e : i = j ∧ j < ρ.length
  · rw [if_pos e] at l
    cases l
    obtain ⟨rfl, hj⟩ := e
    exact ⟨v, by simp [h.1, hj], hd⟩
  · rw [if_neg e] at l
    obtain ⟨w, h1, h2⟩ := h.2.1 j d' l
    refine ⟨w, ?_, h2⟩
    rw [List.getElem?_set]
    have hj : j < σ.length := (List.getElem?_eq_some_iff.mp h1).1
    have : ¬ i = j := fun z => e ⟨z, by rw [← h.1]; exact hj⟩
    simp [this, h1], fun j l => by
  rw [List.getElem?_set] at l ⊢
  by_cases e : i = j
  · rw [if_pos e] at l
    split at l <;> cases l
  · rw [if_neg e] at l ⊢
    exact h.2.2.1 j l, fun j kvs l => by
  rw [List.getElem?_set] at l
  by_cases e : i = j
  · rw [if_pos e] at l
    split at l <;> cases l
  · rw [if_neg e] at l
    obtain ⟨p, vs, h1, h2, h3⟩ := h.2.2.2 j kvs l
    exact ⟨p, vs, by rw [List.getElem?_set, if_neg e]; exact h1, h2, h3⟩⟩
theorem EnvR.sets {σ σ' : L2.St} {ρ ρ' : Env} (h : EnvR W Hm σ ρ) (s : SetR K Hm is σ ρ σ' ρ') : EnvR W Hm σ' ρ' := by
  induction s with
  | refl => exact h
  | set _ _ hd ih => exact (ih h).set hd
def GP (K : Fg) (g : TG) (p : Pat) (is : List Nat) : Prop := ∀ (Hm H : Hp) (v : V) (d : D) (σ : L2.St) (ρ ρ' : Env) (Q : L2.St → Hp → Prop), Same Hm H → Dn K Hm v d → p d ρ = some ρ' → (∀ σ', SetR K Hm is σ ρ σ' ρ' → Q σ' H) → g v σ H Q
def GPs (K : Fg) (g : TGs) (ps : List Pat) (is : List Nat) : Prop := ∀ (Hm H : Hp) (vs : List V) (ds : List D) (σ : L2.St) (ρ ρ' : Env) (Q : L2.St → Hp → Prop), Same Hm H → Dns K Hm vs ds → pGo ps ds ρ = some ρ' → (∀ σ', SetR K Hm is σ ρ σ' ρ' → Q σ' H) → g vs σ H Q
theorem gp_name {i : Nat} : GP K (gName i) (pName i) [i] := fun Hm H v d σ ρ ρ' Q e hd h q => by
  cases h
  exact q _ (.set .refl (by simp) hd)
theorem gps_nil : GPs K gNil [] [] := fun Hm H vs ds σ ρ ρ' Q e hd h q => by
  cases hd with
  | nil => cases h; exact ⟨rfl, q _ .refl⟩
  | cons _ _ => cases h
theorem gps_cons {g : TG} {gs : TGs} {p : Pat} {ps : List Pat} (h1 : GP K g p is) (h2 : GPs K gs ps js) : GPs K (gCons g gs) (p :: ps) (is ++ js) := fun Hm H vs ds σ ρ ρ' Q e hd h q => by
  cases hd with
  | nil => cases h
  | @cons v vs d ds hv hvs =>
    unfold pGo at h
    cases hp : p d ρ with
    | none => rw [hp] at h; cases h
    | some ρ1 =>
      rw [hp] at h
      refine ⟨v, vs, rfl, h1 Hm H v d σ ρ ρ1 _ e hv hp fun σ1 s1 => h2 Hm H vs ds σ1 ρ1 ρ' Q e hvs h fun σ2 s2 => q σ2 ((s1.more fun i hi => List.mem_append_left _ hi).trans (s2.more fun i hi => List.mem_append_right _ hi))⟩
theorem pGo_len {ps : List Pat} : ∀ {ds : List D} {ρ ρ' : Env}, pGo ps ds ρ = some ρ' → ds.length = ps.length := by
  induction ps with
  | nil => intro ds ρ ρ' h; cases ds with
    | nil => rfl
    | cons _ _ => cases h
  | cons p ps ih => intro ds ρ ρ' h; cases ds with
    | nil => cases h
    | cons d ds =>
      unfold pGo at h
      cases hp : p d ρ with
      | none => rw [hp] at h; cases h
      | some ρ1 => rw [hp] at h; simp [ih h]
theorem gp_tup {n : Nat} {gs : TGs} {ps : List Pat} (h : GPs K gs ps is) (hn : ps.length = n := by rfl) : GP K (gTup K n gs) (pTup ps) is := fun Hm H v d σ ρ ρ' Q e hd hp q => by
  cases hd with
  | @tup a xs ds hs ha => exact ⟨a, xs, rfl, same_t e hs, by rw [ha.length, pGo_len hp, hn], h Hm H xs ds σ ρ ρ' Q e ha hp q⟩
  | @ptup a xs ds hs ha => exact ⟨a, xs, rfl, same_t e hs.sq, by rw [ha.length, pGo_len hp, hn], h Hm H xs ds σ ρ ρ' Q e ha hp q⟩
  | _ => cases hp
theorem gp_lst {n : Nat} {gs : TGs} {ps : List Pat} (h : GPs K gs ps is) (hn : ps.length = n := by rfl) : GP K (gUnl K n gs) (pLst ps) is := fun Hm H v d σ ρ ρ' Q e hd hp q => by
  cases hd with
  | @lst a xs ds hs ha => exact ⟨a, xs, rfl, SqL.of (e _ _ hs), by rw [ha.length, pGo_len hp, hn], h Hm H xs ds σ ρ ρ' Q e ha hp q⟩
  | _ => cases hp
/-! what is walked -/
def St (Z : Addr → Bool) (H H' : Hp) : Prop := ∀ b o, H b = some o → Z b = false → H' b = some o
theorem St.trans {Z : Addr → Bool} {H H1 H2 : Hp} (a : St Z H H1) (b : St Z H1 H2) : St Z H H2 := fun c o h z => b c o (a c o h z) z
theorem St.of {Z : Addr → Bool} {H H1 : Hp} (a : Same H H1) : St Z H H1 := fun c o h _ => a c o h
theorem St.ext {Z : Addr → Bool} {H H1 : Hp} (a : Ext W H H1) (h : ∀ a, W.X a = true → Z a = true) : St Z H H1 := fun c o e z => a.1 c o e (by
  cases x : W.X c with
  | false => rfl
  | true => rw [h c x] at z; cases z)
theorem mask_st {Y : Addr → Bool} {H H' : Hp} (e : St Y H H') : Same (mask W Y H) (mask W Y H') := fun a o q => by
  have hy : Y a = false := by
    cases z : Y a with
    | false => rfl
    | true => unfold mask at q; rw [if_pos z] at q; cases q
  have q1 := mask_le a o q
  refine mask_at (e a o q1 hy) hy fun C dx fs eo => ?_
  subst eo
  unfold mask at q
  rw [if_neg (by rw [hy]; exact Bool.false_ne_true), q1] at q
  by_cases c : W.ct (fs.map (·.1)) = some C
  · exact c
  · simp only [if_neg c] at q; cases q
/-- what stood before, and does not reach Y, is seen with Y' as well -/
theorem mask_go {Y Y' : Addr → Bool} {H H' : Hp} (e : St Y H H') (h : ∀ a, Y' a = true → Y a = true ∨ H a = none) : Same (mask W Y H) (mask W Y' H') := fun a o q => by
  have hy : Y a = false := by
    cases z : Y a with
    | false => rfl
    | true => unfold mask at q; rw [if_pos z] at q; cases q
  have q1 := mask_le a o q
  have hy' : Y' a = false := by
    cases z : Y' a with
    | false => rfl
    | true =>
      rcases h a z with h | h
      · rw [hy] at h; cases h
      · rw [q1] at h; cases h
  refine mask_at (e a o q1 hy) hy' fun C dx fs eo => ?_
  subst eo
  unfold mask at q
  rw [if_neg (by rw [hy]; exact Bool.false_ne_true), q1] at q
  by_cases c : W.ct (fs.map (·.1)) = some C
  · exact c
  · simp only [if_neg c] at q; cases q
def RetIt (W : Wd K) (Y : Addr → Bool) (H : Hp) (R : It → Hp → Prop) : List D → Prop := fun ds => ∀ (J : It) (G : Hp → Prop) (Yw : Nat → Hp → V → Hp → Prop) (H2 : Hp), Ext W H H2 → Walk J ds.length G Yw → (∀ H', St Y H2 H' → G H') →
  (∀ i Ha x Hb Y', i < ds.length → St Y H2 Ha → Ok W Y' Ha → (∀ a, Y' a = true → Y a = true ∨ H2 a = none) → Yw i Ha x Hb → Same Ha Hb ∧ ∃ d, ds[i]? = some d ∧ Dm W Y' Hb x d) → R J H2
def GI (W : Wd K) (E : XK) (wi : TI) (mi : Env → M (List D)) : Prop := ∀ Y σ H ρ R, Ok W Y H → EnvR W (mask W Y H) σ ρ → (mi ρ).wp (RetIt W Y H R) (ErrP W E H) → wi σ H R
/-! comprehensions -/
def wipeE (ρ : Env) : List Nat → Env
  | [] => ρ
  | v :: vs => (wipeE ρ vs).set v .no
def lcGo (p : Pat) (c : Env → M Bool) (e : Env → M D) (ρ : Env) : List D → M (List D)
  | [] => .ret []
  | d :: ds => match p d ρ with
    | none => .bad
    | some ρ1 => (c ρ1).bind fun k => if k then (e ρ1).bind fun x => (lcGo p c e ρ ds).bind fun xs => .ret (x :: xs) else lcGo p c e ρ ds
def mLc (mi : Env → M (List D)) (p : Pat) (c : Env → M Bool) (e : Env → M D) (vs : List Nat) : Env → M (List D) := fun ρ => (mi ρ).bind fun ds => if ds.length ≤ 100000 then lcGo p c e (wipeE ρ vs) ds else .bad
end
section
variable {K : Fg} {W : Wd K} {E : XK}
theorem wipe_set {i : Nat} {x : Option V} : ∀ {vs : List Nat} {σ : L2.St}, i ∈ vs → wipe (σ.set i x) vs = wipe σ vs
  | [], _, h => by cases h
  | j :: vs, σ, h => by
    unfold wipe
    by_cases e : i ∈ vs
    · rw [wipe_set e]
    · have ij : i = j := by
        rcases List.mem_cons.mp h with h | h
        · exact h
        · exact absurd h e
      subst ij
      have key : ∀ (vs : List Nat) (σ : L2.St), i ∉ vs → wipe (σ.set i x) vs = (wipe σ vs).set i x := by
        intro vs
        induction vs with
        | nil => intro σ _; rfl
        | cons k vs ih =>
          intro σ hk
          have hk' : ¬ i = k ∧ i ∉ vs := by simpa using hk
          unfold wipe
          rw [ih σ hk'.2, List.set_comm _ _ hk'.1]
      rw [key vs σ e, List.set_set]
theorem wipe_setR {Hm : Hp} {is vs : List Nat} {σ σ' : L2.St} {ρ ρ' : Env} (s : SetR K Hm is σ ρ σ' ρ') (h : ∀ i ∈ is, i ∈ vs) : wipe σ' vs = wipe σ vs := by
  induction s with
  | refl => rfl
  | set _ hi _ ih => rw [wipe_set (h _ hi), ih]
theorem wipe_sub {vs : List Nat} {σ : L2.St} : ∀ {ws : List Nat}, (∀ i ∈ ws, i ∈ vs) → wipe (wipe σ ws) vs = wipe σ vs
  | [], _ => rfl
  | i :: ws, h => by
    show wipe ((wipe σ ws).set i none) vs = _
    rw [wipe_set (h i (by simp)), wipe_sub fun j hj => h j (List.mem_cons_of_mem _ hj)]
theorem wipe_wipe (σ : L2.St) (vs : List Nat) : wipe (wipe σ vs) vs = wipe σ vs := wipe_sub fun _ h => h
theorem EnvR.no {Hm : Hp} {σ : L2.St} {ρ : Env} (h : EnvR W Hm σ ρ) (i : Nat) (x : Option V) : EnvR W Hm (σ.set i x) (ρ.set i .no) := ⟨by simp [h.1], fun j d l => by
  rw [look_set] at l
  by_cases e : i = j ∧ j < ρ.length
  · rw [if_pos e] at l; cases l
  · rw [if_neg e] at l
    obtain ⟨w, h1, h2⟩ := h.2.1 j d l
    refine ⟨w, ?_, h2⟩
    have hj : j < σ.length := (List.getElem?_eq_some_iff.mp h1).1
    have : ¬ i = j := fun z => e ⟨z, by rw [← h.1]; exact hj⟩
    simp [List.getElem?_set, this, h1], fun j l => by
  rw [List.getElem?_set] at l ⊢
  by_cases e : i = j
  · rw [if_pos e] at l
    split at l <;> cases l
  · rw [if_neg e] at l ⊢
    exact h.2.2.1 j l, fun j kvs l => by
  rw [List.getElem?_set] at l
  by_cases e : i = j
  · rw [if_pos e] at l
    split at l <;> cases l
  · rw [if_neg e] at l
    obtain ⟨p, vs, h1, h2, h3⟩ := h.2.2.2 j kvs l
    exact ⟨p, vs, by rw [List.getElem?_set, if_neg e]; exact h1, h2, h3⟩⟩
theorem env_wipe {Hm : Hp} {σ : L2.St} {ρ : Env} (h : EnvR W Hm σ ρ) : ∀ vs : List Nat, EnvR W Hm (wipe σ vs) (wipeE ρ vs)
  | [] => h
  | i :: vs => (env_wipe h vs).no i none
/-- with the new list at p -/
theorem Ok.also {Y : Addr → Bool} {H : Hp} {p : Addr} {xs : List V} (o : Ok W Y H) (hp : H p = none) : Ok W (also Y p) (upd H p (.lst xs)) := ⟨W.up o.1 (Same.new hp), fun a h => also_r a (o.2.1 a h), fun a h => by
  by_cases ea : a = p
  · subst ea; exact ⟨_, upd_same, rfl⟩
  · have : Y a = true := by simpa [Mi.also, ea] using h
    obtain ⟨u, hu, iu⟩ := o.2.2 a this
    exact ⟨u, by rw [upd_ne ea]; exact hu, iu⟩⟩
theorem GI.seq {α : Type} {wi : TI} {mi : Env → M (List D)} {Y : Addr → Bool} {σ : L2.St} {H : Hp} {ρ : Env} {f : List D → M α} {R : α → Prop} {Er : Str → List D → Prop} {Q : It → Hp → Prop} (h : GI W E wi mi) (o : Ok W Y H) (e : EnvR W (mask W Y H) σ ρ) (w : ((mi ρ).bind f).wp R Er) (hE : ∀ c p, Er c p → ErrP W E H c p)
    (k : ∀ ds, (f ds).wp R Er → RetIt W Y H Q ds) : wi σ H Q :=
  h Y σ H ρ Q o e (M.wp_mono (fun ds hd => k ds hd) hE _ ((M.wp_bind _).mp w))
theorem gn_lc {wi : TI} {g : TG} {tt : TT} {te : TE} {vs is : List Nat} {mi : Env → M (List D)} {p : Pat} {c : Env → M Bool} {e : Env → M D} (hi : GI W E wi mi) (hp : GP K g p is) (hc : GT W E tt c) (he : GE W E te e) (hv : ∀ i ∈ is, i ∈ vs := by decide) : GN W E (tLc wi g tt te vs) (mLc mi p c e vs) := fun Y σ H ρ Q o r w =>
  hi.seq o r w (fun _ _ h => h) fun ds w1 J G Yw H2 e2 wk hG hY Dl hD => by
    split at w1
    case isFalse => exact w1.elim
    rename_i hz
    have o2 := o.ext e2
    have eD : Same H2 (upd H2 Dl (.lst [])) := Same.new hD
    have frD := W.new o2.1 hD
    have YD : Y Dl = false := o2.fresh hD
    have rr : EnvR W (mask W (also Y Dl) (upd H2 Dl (.lst []))) (wipe σ vs) (wipeE ρ vs) := env_wipe ((r.up o e2).same (mask_new o2 hD)) vs
    refine lc_it wk (fun i H' => Ext W H2 H' ∧ Ok W (also Y Dl) H' ∧ EnvR W (mask W (also Y Dl) H') (wipe σ vs) (wipeE ρ vs) ∧ ∃ acc ds', H' Dl = some (.lst acc) ∧ ds'.length ≤ i ∧ Dms W (also Y Dl) H' acc ds' ∧ (lcGo p c e (wipeE ρ vs) (ds.drop i)).wp (fun es => RetPn W Y H Q (ds' ++ es)) (ErrP W E H))
      ⟨.of o2.1 eD, o2.also hD, rr, [], [], upd_same, Nat.le_refl _, .nil, by simpa using w1⟩ (fun i H' _ q => hG H' (.ext q.1 o2.2.1)) (fun i x Ha Hb hlt q y => ?_) (fun H' q => ?_)
    · obtain ⟨q1, q2, q3, acc, ds', q4, q5, q6, q7⟩ := q
      obtain ⟨eb, d, hd, hx⟩ := hY i Ha x Hb (also Y Dl) hlt (.ext q1 o2.2.1) q2 (fun a h => by
        by_cases ea : a = Dl
        · subst ea; exact .inr hD
        · exact .inl (by simpa [Mi.also, ea] using h)) y
      have eb' : Ext W Ha Hb := .of q2.1 eb
      have ob := q2.ext eb'
      have e2b := q1.trans eb'
      have rb := q3.up q2 eb'
      have hdr : ds.drop i = d :: ds.drop (i + 1) := by
        obtain ⟨hl, hg⟩ := List.getElem?_eq_some_iff.mp hd
        rw [List.drop_eq_getElem_cons hl, hg]
      rw [hdr] at q7
      unfold lcGo at q7
      cases hpd : p d (wipeE ρ vs) with
      | none => rw [hpd] at q7; exact q7.elim
      | some ρ1 =>
        rw [hpd] at q7
        refine hp _ Hb x d (wipe σ vs) (wipeE ρ vs) ρ1 _ (mask_le (W := W) (Y := also Y Dl) (H := Hb)) hx hpd fun σ1 s1 => ⟨wipe_setR s1 hv |>.trans (wipe_wipe σ vs), ?_⟩
        have r1 := rb.sets s1
        have eHb := e2.trans e2b
        refine hc.seq (Er := ErrP W E H) ob r1 q7 (fun _ _ h => h.up eHb) fun k H3 e3 o3 r3 w3 => ?_
        have YDl : W.X Dl = false := o2.x YD
        have l3 : H3 Dl = some (.lst acc) := e3.1 _ _ (eb _ _ q4) YDl
        cases k with
        | false =>
          refine (if_neg Bool.false_ne_true).mpr ⟨e2b.trans e3, o3, rb.up ob e3, acc, ds', l3, by omega, (q6.up q2 eb').up ob e3, ?_⟩
          simpa using w3
        | true =>
          refine (if_pos rfl).mpr (he.seq (Er := ErrP W E H) o3 r3 (by simpa using w3) (fun _ _ h => h.up (eHb.trans e3)) fun dv y' H4 e4 o4 r4 hy w4 => ?_)
          have l4 : H4 Dl = some (.lst acc) := e4.1 _ _ l3 YDl
          have hds := ((q6.up q2 eb').up ob e3).up o3 e4
          have lacc := q6.length
          refine ⟨acc, l4, by rw [sizeLine_eq]; omega, ?_⟩
          have mo : mask W (also Y Dl) (upd H4 Dl (.lst (acc ++ [y']))) = mask W (also Y Dl) H4 := mask_off (by simp [Mi.also])
          have I4 : W.I (upd H4 Dl (.lst (acc ++ [y']))) := W.off o4.1 frD l4 rfl
          have e24 := (e2b.trans e3).trans e4
          refine ⟨⟨fun b u hb hx => ?_, I4⟩, ⟨I4, o4.2.1, fun a ha => ?_⟩, by rw [mo]; exact (rb.up ob e3).up o3 e4, acc ++ [y'], ds' ++ [dv], upd_same, by simp; omega, by unfold Dms; rw [mo]; exact hds.app (.cons hy .nil), ?_⟩
          · rw [upd_ne (ne_of_none hb hD)]; exact e24.1 b u hb hx
          · by_cases ea : a = Dl
            · subst ea; exact ⟨_, upd_same, rfl⟩
            · rw [upd_ne ea]; exact o4.2.2 a ha
          · exact M.wp_mono (fun es h => by simpa using h) (fun _ _ h => h) _ ((M.wp_bind _).mp w4)
    · obtain ⟨q1, q2, q3, acc, ds', q4, q5, q6, q7⟩ := q
      rw [List.drop_length] at q7
      have q7' : RetPn W Y H Q (ds' ++ []) := q7
      rw [List.append_nil] at q7'
      exact q7' Dl acc H' (e2.trans q1) (e2.free o.1 hD) q4 q6
end
end Mi

/-! Mi: statements, defs -/
namespace Mi
open PySem L2 Cc
/-- where a statement ends -/
inductive Fl where
  | nx (ρ : Env) | bk (ρ : Env) | ct (ρ : Env) | rt (d : D)
  /-- hands back d; the instance at slot 0 holds es then -/
  | rs (d : D) (k : Nat) (ns : List Str) (es : List D)
def Fl.next (f : Fl) (k : Env → M Fl) : M Fl := match f with
  | .nx ρ => k ρ
  | f => .ret f
def Fl.turn (f : Fl) (k : Env → M Fl) : M Fl := match f with
  | .nx ρ => k ρ
  | .ct ρ => k ρ
  | .bk ρ => .ret (.nx ρ)
  | .rt d => .ret (.rt d)
  | .rs d k ns es => .ret (.rs d k ns es)
/-- own lists read as data -/
def vB (ρ : Env) : Env := ρ.map fun s => match s with
  | .own ds => .dat (.lst ds)
  | .dk kvs => .dkR kvs
  | .slf _ C (n :: ns) ds => .dat (.ob C (n :: ns) ds)
  | .slf _ _ [] _ => .no
  | s => s
/-- what has to stay, and the instance that is being made -/
structure Bases where
  l : List (Hp × (Addr → Bool))
  s : Option Addr := none
def YL (Y : Addr → Bool) (L : List (Nat × Addr)) : Addr → Bool := fun a => Y a || L.any fun p => p.2 == a
section
variable {K : Fg} {W : Wd K} {E : XK}
def SlR (W : Wd K) (Y : Addr → Bool) (H : Hp) (L : List (Nat × Addr)) (S : Option Addr) (σ : L2.St) (i : Nat) : Sl → Prop
  | .no => True
  | .dat d => ∃ v, σ[i]? = some (some v) ∧ Dm W Y H v d
  | .own ds => ∃ l xs, σ[i]? = some (some (.ref l)) ∧ (i, l) ∈ L ∧ H l = some (.lst xs) ∧ Dms W Y H xs ds
  | .dk kvs => ∃ l vs, σ[i]? = some (some (.ref l)) ∧ (i, l) ∈ L ∧ H l = some (.dK ((kvs.map (·.1)).zip vs)) ∧ Dms W Y H vs (kvs.map (·.2))
  | .dkR _ => False
  | .slf k C ns ds => ∃ x dx fs, σ[i]? = some (some (.ref x)) ∧ (∀ y, S = some y → i = 0 → x = y) ∧ (i, x) ∈ L ∧ H x = some (.ins C dx fs) ∧ fs.map (·.1) = ns ∧ (C = W.cls k ∧ (ns ≠ [] → W.ct ns = some C)) ∧ Dms W Y H (fs.map (·.2)) ds
  | .row => σ[i]? = some (some (.ref W.r))
structure SR (W : Wd K) (Y : Addr → Bool) (B : Bases) (σ : L2.St) (H : Hp) (ρ : Env) (L : List (Nat × Addr)) : Prop where
  ok : Ok W Y H
  bs : ∀ k ∈ B.l, (∀ a, W.X a = true → k.2 a = true) ∧ St k.2 k.1 H
  len : σ.length = ρ.length
  fre : ∀ p ∈ L, (∀ k ∈ B.l, k.1 p.2 = none ∨ k.2 p.2 = true) ∧ W.Fr p.2 ∧ Y p.2 = false ∧ ∃ o, H p.2 = some o ∧ cellO o = true
  nd : (L.map (·.2)).Nodup
  sl : ∀ i s, ρ[i]? = some s → SlR W (YL Y L) H L B.s σ i s
abbrev SRx (W : Wd K) (Y : Addr → Bool) (B : Bases) (σ : L2.St) (H : Hp) (ρ : Env) : Prop := ∃ L, SR W Y B σ H ρ L
def Bok (W : Wd K) (B : Bases) (H : Hp) : Prop := W.I H ∧ ∀ k ∈ B.l, St k.2 k.1 H
def ErrB (W : Wd K) (E : XK) (B : Bases) : Str → List D → Prop := fun c p => ∀ cls o H', Bok W B H' → IsE W c p cls o H' → E cls o H'
def FlP (W : Wd K) (Y : Addr → Bool) (B : Bases) (Dn : Ends) : Fl → Prop
  | .nx ρ => ∀ σ H, SRx W Y B σ H ρ → Dn.nx σ H
  | .bk ρ => ∀ σ H, SRx W Y B σ H ρ → Dn.bk σ H
  | .ct ρ => ∀ σ H, SRx W Y B σ H ρ → Dn.ct σ H
  | .rt d => ∀ v H, Bok W B H → Dm W Y H v d → Dn.rt v H
  | .rs d k ns es => ∀ v H x dx fs, (∀ y, B.s = some y → x = y) → Bok W B H → H x = some (.ins (W.cls k) dx fs) → fs.map (·.1) = ns → Dms W (also Y x) H (fs.map (·.2)) es → Dm W (also Y x) H v d → Dn.rt v H
def GS (W : Wd K) (E : XK) (ts : TS) (ms : Env → M Fl) : Prop := ∀ Y B σ H ρ Dn, SRx W Y B σ H ρ → (ms ρ).wp (FlP W Y B Dn) (ErrB W E B) → ts Dn σ H
section
variable {Y : Addr → Bool} {B : Bases} {σ : L2.St} {H H' : Hp} {ρ : Env} {L : List (Nat × Addr)}
theorem Dm.same' {K : Fg} {Hm Hm' : Hp} {v : V} {d : D} (h : Dn K Hm v d) (e : Same Hm Hm') : Dn K Hm' v d := h.up e
theorem YL_y {a : Addr} (h : Y a = true) : YL Y L a = true := by simp [YL, h]
theorem YL_l {p : Nat × Addr} (h : p ∈ L) : YL Y L p.2 = true := by
  have : (L.any fun q => q.2 == p.2) = true := List.any_eq_true.mpr ⟨p, h, by simp⟩
  simp [YL, this]
theorem YL_or {a : Addr} (h : YL Y L a = true) : Y a = true ∨ ∃ p ∈ L, p.2 = a := by
  simp only [YL, Bool.or_eq_true, List.any_eq_true, beq_iff_eq] at h
  rcases h with h | ⟨p, h1, h2⟩
  · exact .inl h
  · exact .inr ⟨p, h1, h2⟩
theorem SR.okL (s : SR W Y B σ H ρ L) : Ok W (YL Y L) H := ⟨s.ok.1, fun a h => YL_y (s.ok.2.1 a h), fun a h => by
  rcases YL_or h with h | ⟨p, hp, rfl⟩
  · exact s.ok.2.2 a h
  · obtain ⟨_, _, _, o, hx, ho⟩ := s.fre p hp
    exact ⟨_, hx, ho⟩⟩
theorem SR.bok (s : SR W Y B σ H ρ L) : Bok W B H := ⟨s.ok.1, fun k hk => (s.bs k hk).2⟩
theorem SR.bokE (s : SR W Y B σ H ρ L) (e : Ext W H H') : Bok W B H' := ⟨e.2, fun k hk => (s.bs k hk).2.trans (.ext e (s.bs k hk).1)⟩
theorem SR.lx (s : SR W Y B σ H ρ L) {p : Nat × Addr} (h : p ∈ L) : W.X p.2 = false := s.ok.x (s.fre p h).2.2.1
theorem SR.up (s : SR W Y B σ H ρ L) (e : Ext W H H') : SR W Y B σ H' ρ L where
  ok := s.ok.ext e
  bs := fun k hk => ⟨(s.bs k hk).1, (s.bs k hk).2.trans (.ext e (s.bs k hk).1)⟩
  len := s.len
  fre := fun p hp => by
    obtain ⟨h1, h2, h3, o, hx, ho⟩ := s.fre p hp
    exact ⟨h1, h2, h3, o, e.1 _ _ hx (s.lx hp), ho⟩
  nd := s.nd
  sl := fun i t ht => by
    have h := s.sl i t ht
    cases t with
    | no => trivial
    | dat d =>
      obtain ⟨v, h1, h2⟩ := h
      exact ⟨v, h1, h2.up s.okL e⟩
    | own ds =>
      obtain ⟨l, xs, h1, h2, h3, h4⟩ := h
      exact ⟨l, xs, h1, h2, e.1 _ _ h3 (s.lx h2), h4.up s.okL e⟩
    | dkR _ => exact h.elim
    | dk ds =>
      obtain ⟨l, xs, h1, h2, h3, h4⟩ := h
      exact ⟨l, xs, h1, h2, e.1 _ _ h3 (s.lx h2), h4.up s.okL e⟩
    | slf k C ns ds =>
      obtain ⟨x, dx, fs, h1, hS, h2, h3, h4, h5, h6⟩ := h
      exact ⟨x, dx, fs, h1, hS, h2, e.1 _ _ h3 (s.lx h2), h4, h5, h6.up s.okL e⟩
    | row => exact h
theorem look_dat {ρ : Env} {i : Nat} {d : D} (h : look ρ i = some d) : ρ[i]? = some (.dat d) := by
  unfold look at h
  split at h
  · rename_i e; rw [e]; cases h; rfl
  · cases h
theorem SR.envA (s : SR W Y B σ H ρ L) : EnvR W (mask W (YL Y L) H) σ ρ := ⟨s.len, fun i d l => s.sl i _ (look_dat l), fun i l => s.sl i _ l, fun i kvs l => (s.sl i _ l).elim⟩
theorem SR.envB (s : SR W Y B σ H ρ L) : EnvR W (mask W Y H) σ (vB ρ) := ⟨by simp [vB, s.len], fun i d l => by
  have h := look_dat l
  unfold vB at h
  rw [List.getElem?_map] at h
  cases e : ρ[i]? with
  | none => rw [e] at h; cases h
  | some t =>
    rw [e] at h
    have q := s.sl i t e
    cases t with
    | no => cases h
    | dat d' =>
      cases h
      obtain ⟨v, h1, h2⟩ := q
      exact ⟨v, h1, h2.less fun a => YL_y⟩
    | own ds =>
      cases h
      obtain ⟨l, xs, h1, h2, h3, h4⟩ := q
      exact ⟨_, h1, .lst (mask_at h3 (s.fre _ h2).2.2.1 fun _ _ _ z => nomatch z) (h4.less fun a => YL_y)⟩
    | dkR _ => cases h
    | dk ds => cases h
    | slf k C ns ds =>
      cases ns with
      | nil => cases h
      | cons n ns =>
      cases h
      obtain ⟨x, dx, fs, h1, hS, h2, h3, h4, h5, h6⟩ := q
      refine ⟨_, h1, .ob (mask_at h3 (s.fre _ h2).2.2.1 fun C' dx' fs' z => ?_) h4 (h6.less fun a => YL_y)⟩
      cases z
      rw [h4]; exact h5.2 (by simp)
    | row => exact (nomatch h), fun i l => by
  unfold vB at l
  rw [List.getElem?_map] at l
  cases e : ρ[i]? with
  | none => rw [e] at l; cases l
  | some t =>
    rw [e] at l
    cases t with
    | row => exact s.sl i _ e
    | slf k C ns ds => cases ns <;> cases l
    | _ => (cases l), fun i kvs l => by
  unfold vB at l
  rw [List.getElem?_map] at l
  cases e : ρ[i]? with
  | none => rw [e] at l; cases l
  | some t =>
    rw [e] at l
    cases t with
    | dk kvs' =>
      cases l
      obtain ⟨p, vs, h1, h2, h3, h4⟩ := s.sl i _ e
      exact ⟨p, vs, h1, mask_at h3 (s.fre _ h2).2.2.1 (fun _ _ _ z => nomatch z), h4.less fun a => YL_y⟩
    | dkR _ => exact (s.sl i _ e).elim
    | slf k C ns ds => cases ns <;> cases l
    | _ => cases l⟩
theorem getElem?_set' {ρ : Env} {i j : Nat} {t s : Sl} (h : (ρ.set i t)[j]? = some s) : (i = j ∧ i < ρ.length ∧ s = t) ∨ (i ≠ j ∧ ρ[j]? = some s) := by
  rw [List.getElem?_set] at h
  by_cases e : i = j
  · subst e
    by_cases hl : i < ρ.length
    · rw [if_pos rfl, if_pos hl] at h
      exact .inl ⟨rfl, hl, (Option.some.inj h).symm⟩
    · rw [if_pos rfl, if_neg hl] at h; cases h
  · rw [if_neg e] at h; exact .inr ⟨e, h⟩
theorem SR.set (s : SR W Y B σ H ρ L) (i : Nat) {v : V} {d : D} (hd : Dm W (YL Y L) H v d) : SR W Y B (σ.set i (some v)) H (ρ.set i (.dat d)) L where
  ok := s.ok
  bs := s.bs
  len := by simp [s.len]
  fre := s.fre
  nd := s.nd
  sl := fun j t ht => by
    rcases getElem?_set' ht with ⟨rfl, hl, rfl⟩ | ⟨hne, h⟩
    · exact ⟨v, by simp [s.len, hl], hd⟩
    · have q := s.sl j t h
      have e : (σ.set i (some v))[j]? = σ[j]? := by simp [List.getElem?_set, hne]
      cases t with
      | no => trivial
      | dat d' => obtain ⟨w, h1, h2⟩ := q; exact ⟨w, by rw [e]; exact h1, h2⟩
      | own ds => obtain ⟨l, xs, h1, h2⟩ := q; exact ⟨l, xs, by rw [e]; exact h1, h2⟩
      | dkR _ => exact q.elim
      | dk ds => obtain ⟨l, xs, h1, h2⟩ := q; exact ⟨l, xs, by rw [e]; exact h1, h2⟩
      | slf k C ns ds => obtain ⟨x, dx, fs, h1, h2⟩ := q; exact ⟨x, dx, fs, by rw [e]; exact h1, h2⟩
      | row => exact e.trans q
theorem SR.sets {is : List Nat} {σ' : L2.St} {ρ' : Env} (s : SR W Y B σ H ρ L) (h : SetR K (mask W (YL Y L) H) is σ ρ σ' ρ') : SR W Y B σ' H ρ' L := by
  induction h with
  | refl => exact s
  | set _ _ hd ih => exact (ih s).set _ hd
theorem YL_also {i : Nat} {p : Addr} : YL Y ((i, p) :: L) = also (YL Y L) p := by
  funext a
  simp only [YL, also, List.any_cons]
  rw [show (p == a) = (a == p) from by simp [Bool.beq_eq_decide_eq, eq_comm]]
  cases (a == p) <;> cases Y a <;> simp
/-- a new list in a slot -/
theorem SR.own (s : SR W Y B σ H ρ L) (i : Nat) {p : Addr} {xs : List V} {ds : List D} (e : Ext W H H') (hp : H p = none) (hx : H' p = some (.lst xs)) (hd : Dms W (also (YL Y L) p) H' xs ds) : SR W Y B (σ.set i (some (.ref p))) H' (ρ.set i (.own ds)) ((i, p) :: L) where
  ok := s.ok.ext e
  bs := fun k hk => ⟨(s.bs k hk).1, (s.bs k hk).2.trans (.ext e (s.bs k hk).1)⟩
  len := by simp [s.len]
  fre := fun q hq => by
    rcases List.mem_cons.mp hq with rfl | hq
    · refine ⟨fun k hk => ?_, W.new s.ok.1 hp, s.ok.fresh hp, _, hx, rfl⟩
      cases z : k.2 p with
      | true => exact .inr rfl
      | false =>
        refine .inl ?_
        cases y : k.1 p with
        | none => rfl
        | some o => rw [(s.bs k hk).2 p o y z] at hp; cases hp
    · obtain ⟨h1, h2, h3, ys, hy, ho⟩ := s.fre q hq
      exact ⟨h1, h2, h3, ys, e.1 _ _ hy (s.lx hq), ho⟩
  nd := by
    rw [List.map_cons, List.nodup_cons]
    refine ⟨fun z => ?_, s.nd⟩
    obtain ⟨q, hq, e⟩ := List.mem_map.mp z
    obtain ⟨_, _, _, ys, hy, _⟩ := s.fre q hq
    rw [show q.2 = p from e, hp] at hy
    cases hy
  sl := fun j t ht => by
    rw [YL_also]
    have go : ∀ {v : V} {d : D}, Dm W (YL Y L) H v d → Dm W (also (YL Y L) p) H' v d := fun h => Dm.same' h (mask_go (.ext e s.okL.2.1) fun a ha => by
      by_cases ea : a = p
      · subst ea; exact .inr hp
      · exact .inl (by simpa [also, ea] using ha))
    have gos : ∀ {v : List V} {d : List D}, Dms W (YL Y L) H v d → Dms W (also (YL Y L) p) H' v d := fun h => Dns.same (mask_go (.ext e s.okL.2.1) fun a ha => by
      by_cases ea : a = p
      · subst ea; exact .inr hp
      · exact .inl (by simpa [also, ea] using ha)) _ _ h
    rcases getElem?_set' ht with ⟨rfl, hl, rfl⟩ | ⟨hne, h⟩
    · exact ⟨p, xs, by simp [s.len, hl], by simp, hx, hd⟩
    · have q := s.sl j t h
      have e' : (σ.set i (some (.ref p)))[j]? = σ[j]? := by simp [List.getElem?_set, hne]
      cases t with
      | no => trivial
      | dat d' => obtain ⟨w, h1, h2⟩ := q; exact ⟨w, by rw [e']; exact h1, go h2⟩
      | own ds => obtain ⟨l, ys, h1, h2, h3, h4⟩ := q; exact ⟨l, ys, by rw [e']; exact h1, List.mem_cons_of_mem _ h2, e.1 _ _ h3 (s.lx h2), gos h4⟩
      | dkR _ => exact q.elim
      | dk ds => obtain ⟨l, ys, h1, h2, h3, h4⟩ := q; exact ⟨l, ys, by rw [e']; exact h1, List.mem_cons_of_mem _ h2, e.1 _ _ h3 (s.lx h2), gos h4⟩
      | slf k C ns ds => obtain ⟨x, dx, fs, h1, hS, h2, h3, h4, h5, h6⟩ := q; exact ⟨x, dx, fs, by rw [e']; exact h1, hS, List.mem_cons_of_mem _ h2, e.1 _ _ h3 (s.lx h2), h4, h5, gos h6⟩
      | row => exact e'.trans q
theorem nd_inj : ∀ {L : List (Nat × Addr)} {p q : Nat × Addr}, (L.map (·.2)).Nodup → p ∈ L → q ∈ L → p.2 = q.2 → p = q
  | [], _, _, _, h, _, _ => by cases h
  | r :: L, p, q, nd, hp, hq, e => by
    rw [List.map_cons, List.nodup_cons] at nd
    rcases List.mem_cons.mp hp with rfl | hp'
    · rcases List.mem_cons.mp hq with rfl | hq'
      · rfl
      · exact absurd (List.mem_map.mpr ⟨q, hq', e.symm⟩) nd.1
    · rcases List.mem_cons.mp hq with rfl | hq'
      · exact absurd (List.mem_map.mpr ⟨p, hp', e⟩) nd.1
      · exact nd_inj nd.2 hp' hq' e
/-- what is its own is changed -/
theorem SR.putO (s : SR W Y B σ H ρ L) {i : Nat} {l : Addr} {o u : HO} {t : Sl} (hl : (i, l) ∈ L) (hx : H l = some o) (ho : cellO o = true) (hu : cellO u = true) (ht : SlR W (YL Y L) (upd H l u) L B.s σ i t) : SR W Y B σ (upd H l u) (ρ.set i t) L := by
  have mo : mask W (YL Y L) (upd H l u) = mask W (YL Y L) H := mask_off (YL_l hl)
  have I' : W.I (upd H l u) := W.off s.ok.1 (s.fre _ hl).2.1 hx ho
  refine ⟨⟨I', s.ok.2.1, fun a ha => ?_⟩, fun k hk => ⟨(s.bs k hk).1, fun b o hb z => ?_⟩, by simp [s.len], fun p hp => ?_, s.nd, fun j t' ht' => ?_⟩
  · have : a ≠ l := by
      rintro rfl
      rw [(s.fre _ hl).2.2.1] at ha; cases ha
    rw [upd_ne this]; exact s.ok.2.2 a ha
  · have : b ≠ l := by
      rintro rfl
      rcases (s.fre _ hl).1 k hk with h | h
      · rw [h] at hb; cases hb
      · rw [h] at z; cases z
    rw [upd_ne this]; exact (s.bs k hk).2 b o hb z
  · obtain ⟨h1, h2, h3, zs, hz, hc⟩ := s.fre p hp
    refine ⟨h1, h2, h3, ?_⟩
    by_cases e : p.2 = l
    · rw [e]; exact ⟨_, upd_same, hu⟩
    · rw [upd_ne e]; exact ⟨zs, hz, hc⟩
  · rcases getElem?_set' ht' with ⟨rfl, _, rfl⟩ | ⟨hne, h⟩
    · exact ht
    · have q := s.sl j t' h
      have ne : ∀ {l'}, (j, l') ∈ L → l' ≠ l := fun {l'} h2 => by
        rintro rfl
        have := nd_inj s.nd h2 hl rfl
        cases this
        exact hne rfl
      cases t' with
      | no => trivial
      | dat d' => obtain ⟨w, h1, h2⟩ := q; exact ⟨w, h1, by unfold Dm; rw [mo]; exact h2⟩
      | own ds' =>
        obtain ⟨l', zs, h1, h2, h3, h4⟩ := q
        exact ⟨l', zs, h1, h2, by rw [upd_ne (ne h2)]; exact h3, by unfold Dms; rw [mo]; exact h4⟩
      | dkR _ => exact q.elim
      | dk ds' =>
        obtain ⟨l', zs, h1, h2, h3, h4⟩ := q
        exact ⟨l', zs, h1, h2, by rw [upd_ne (ne h2)]; exact h3, by unfold Dms; rw [mo]; exact h4⟩
      | slf k C ns ds =>
        obtain ⟨x, dx, fs, h1, hS, h2, h3, h4, h5, h6⟩ := q
        exact ⟨x, dx, fs, h1, hS, h2, by rw [upd_ne (ne h2)]; exact h3, h4, h5, by unfold Dms; rw [mo]; exact h6⟩
      | row => exact q
/-- a list of its own is changed -/
theorem SR.put (s : SR W Y B σ H ρ L) {i : Nat} {l : Addr} {xs ys : List V} {ds es : List D} (hi : ρ[i]? = some (.own ds)) (hσ : σ[i]? = some (some (.ref l))) (hl : (i, l) ∈ L) (hx : H l = some (.lst xs)) (hd : Dms W (YL Y L) H ys es) : SR W Y B σ (upd H l (.lst ys)) (ρ.set i (.own es)) L :=
  s.putO hl hx rfl rfl ⟨l, ys, hσ, hl, upd_same, by unfold Dms; rw [mask_off (YL_l hl)]; exact hd⟩
/-- a list of its own that is not changed any more -/
def fz (i : Nat) (ρ : Env) : Env := match ρ[i]? with
  | some (.own ds) => ρ.set i (.dat (.lst ds))
  | _ => ρ
theorem SR.fz (s : SR W Y B σ H ρ L) (i : Nat) : SRx W Y B σ H (fz i ρ) := by
  unfold Mi.fz
  cases hi : ρ[i]? with
  | none => exact ⟨L, s⟩
  | some t =>
    cases t with
    | no => exact ⟨L, s⟩
    | dat _ => exact ⟨L, s⟩
    | slf _ _ _ _ => exact ⟨L, s⟩
    | dkR _ => exact ⟨L, s⟩
    | dk _ => exact ⟨L, s⟩
    | row => exact ⟨L, s⟩
    | own ds =>
      obtain ⟨l, xs, h1, h2, h3, h4⟩ := s.sl i _ hi
      have less : ∀ a, YL Y (L.filter fun p => p.2 != l) a = true → YL Y L a = true := fun a ha => by
        rcases YL_or ha with h | ⟨p, hp, rfl⟩
        · exact YL_y h
        · exact YL_l (List.mem_filter.mp hp).1
      have off : YL Y (L.filter fun p => p.2 != l) l = false := by
        cases z : YL Y (L.filter fun p => p.2 != l) l with
        | false => rfl
        | true =>
          rcases YL_or z with h | ⟨p, hp, e⟩
          · rw [(s.fre _ h2).2.2.1] at h; cases h
          · have := (List.mem_filter.mp hp).2
            simp [e] at this
      refine ⟨L.filter fun p => p.2 != l, s.ok, s.bs, by simp [s.len], fun p hp => s.fre p (List.mem_filter.mp hp).1, (List.Sublist.map _ List.filter_sublist).nodup s.nd, fun j t ht => ?_⟩
      rcases getElem?_set' ht with ⟨rfl, _, rfl⟩ | ⟨hne, h⟩
      · exact ⟨_, h1, .lst (mask_at h3 off fun _ _ _ z => nomatch z) (h4.less less)⟩
      · have q := s.sl j t h
        cases t with
        | no => trivial
        | dat d' => obtain ⟨w, h1, h2⟩ := q; exact ⟨w, h1, h2.less less⟩
        | own ds' =>
          obtain ⟨l', zs, g1, g2, g3, g4⟩ := q
          refine ⟨l', zs, g1, List.mem_filter.mpr ⟨g2, ?_⟩, g3, g4.less less⟩
          have : l' ≠ l := by
            rintro rfl
            have := nd_inj s.nd g2 h2 rfl
            cases this
            exact hne rfl
          simpa using this
        | dkR _ => exact q.elim
        | dk ds' =>
          obtain ⟨l', zs, g1, g2, g3, g4⟩ := q
          refine ⟨l', zs, g1, List.mem_filter.mpr ⟨g2, ?_⟩, g3, g4.less less⟩
          have : l' ≠ l := by
            rintro rfl
            have := nd_inj s.nd g2 h2 rfl
            cases this
            exact hne rfl
          simpa using this
        | row => exact q
        | slf k C ns ds =>
          obtain ⟨x, dx, fs, g1, gS, g2, g3, g4, g5, g6⟩ := q
          refine ⟨x, dx, fs, g1, gS, List.mem_filter.mpr ⟨g2, ?_⟩, g3, g4, g5, g6.less less⟩
          have : x ≠ l := by
            rintro rfl
            have := nd_inj s.nd g2 h2 rfl
            cases this
            exact hne rfl
          simpa using this
end
end
end Mi

/-! Mi: the rules of statements; defs -/
namespace Mi
open PySem L2 Cc
def ok1 (d : D) : Bool := d.fix && d.pl
def okL (ds : List D) : Bool := D.fixs ds && D.pls ds
def sNext : Env → M Fl := fun ρ => .ret (.nx ρ)
def sBreak : Env → M Fl := fun ρ => .ret (.bk ρ)
def sCont : Env → M Fl := fun ρ => .ret (.ct ρ)
def sSeq (a b : Env → M Fl) : Env → M Fl := fun ρ => (a ρ).bind fun f => f.next b
def sExpr (m : Env → M D) : Env → M Fl := fun ρ => (m (vB ρ)).bind fun _ => .ret (.nx ρ)
def sAsg (i : Nat) (m : Env → M D) : Env → M Fl := fun ρ => (m ρ).bind fun d => .ret (.nx (ρ.set i (.dat d)))
def sAsgB (i : Nat) (m : Env → M D) : Env → M Fl := fun ρ => (m (vB ρ)).bind fun d => if ok1 d then .ret (.nx (ρ.set i (.dat d))) else .bad
def sPat (p : Pat) (m : Env → M D) : Env → M Fl := fun ρ => (m ρ).bind fun d => match p d ρ with
  | some ρ' => .ret (.nx ρ')
  | none => .bad
def sPatB (p : Pat) (m : Env → M D) : Env → M Fl := fun ρ => (m (vB ρ)).bind fun d => if ok1 d then (match p d ρ with
  | some ρ' => .ret (.nx ρ')
  | none => .bad) else .bad
def sOwn (i : Nat) (m : Env → M (List D)) : Env → M Fl := fun ρ => (m ρ).bind fun ds => .ret (.nx (ρ.set i (.own ds)))
def sOwnB (i : Nat) (m : Env → M (List D)) : Env → M Fl := fun ρ => (m (vB ρ)).bind fun ds => if okL ds then .ret (.nx (ρ.set i (.own ds))) else .bad
def sPar (i j : Nat) (m : Env → M (List D)) : Env → M Fl := fun ρ => (m ρ).bind fun ds => match ds with
  | [d, e] => .ret (.nx ((ρ.set i (.dat d)).set j (.dat e)))
  | _ => .bad
def sRet (m : Env → M D) : Env → M Fl := fun ρ => (m (vB ρ)).bind fun d => .ret (.rt d)
def sRetN : Env → M Fl := fun _ => .ret (.rt .non)
def sIf (c : Env → M Bool) (a b : Env → M Fl) : Env → M Fl := fun ρ => (c (vB ρ)).bind fun k => if k then a ρ else b ρ
def forGo (p : Pat) (body : Env → M Fl) : List D → Env → M Fl
  | [], ρ => .ret (.nx ρ)
  | d :: ds, ρ => match p d ρ with
    | some ρ1 => (body ρ1).bind fun f => f.turn fun ρ2 => forGo p body ds ρ2
    | none => .bad
def sFor (mi : Env → M (List D)) (p : Pat) (body : Env → M Fl) : Env → M Fl := fun ρ => (mi ρ).bind fun ds => forGo p body ds ρ
def sForB (mi : Env → M (List D)) (p : Pat) (body : Env → M Fl) : Env → M Fl := fun ρ => (mi (vB ρ)).bind fun ds => if okL ds then forGo p body ds ρ else .bad
def whGo (c : Env → M Bool) (body : Env → M Fl) : Nat → Env → M Fl
  | 0, _ => .bad
  | n + 1, ρ => (c (vB ρ)).bind fun k => if k then (body ρ).bind fun f => f.turn fun ρ2 => whGo c body n ρ2 else .ret (.nx ρ)
def sApp (i : Nat) (m : Env → M D) : Env → M Fl := fun ρ => match ρ[i]? with
  | some (.own ds) => (m ρ).bind fun d => if ds.length < 100000 then .ret (.nx (ρ.set i (.own (ds ++ [d])))) else .bad
  | _ => .bad
def sAppB (i : Nat) (m : Env → M D) : Env → M Fl := fun ρ => match ρ[i]? with
  | some (.own ds) => (m (vB ρ)).bind fun d => if ds.length < 100000 ∧ ok1 d = true then .ret (.nx (ρ.set i (.own (ds ++ [d])))) else .bad
  | _ => .bad
def sExt (i : Nat) (m : Env → M D) : Env → M Fl := fun ρ => match ρ[i]? with
  | some (.own ds) => (m ρ).bind fun d => match d with
    | .lst es => if ds.length + es.length ≤ 100000 then .ret (.nx (ρ.set i (.own (ds ++ es)))) else .bad
    | _ => .bad
  | _ => .bad
def sExtB (i : Nat) (m : Env → M D) : Env → M Fl := fun ρ => match ρ[i]? with
  | some (.own ds) => (m (vB ρ)).bind fun d => match d with
    | .lst es => if ds.length + es.length ≤ 100000 ∧ okL es = true then .ret (.nx (ρ.set i (.own (ds ++ es)))) else .bad
    | _ => .bad
  | _ => .bad
/-- xs[j] = e: e first -/
def sSet (i : Nat) (mj m : Env → M D) : Env → M Fl := fun ρ => match ρ[i]? with
  | some (.own ds) => (m (vB ρ)).bind fun d => (mj (vB ρ)).bind fun j => match j with
    | .int k => match ixN ds.length k with
      | some n => if ok1 d = true then .ret (.nx (ρ.set i (.own (ds.set n d)))) else .bad
      | none => .bad
    | _ => .bad
  | _ => .bad
def sFz (i : Nat) (a : Env → M Fl) : Env → M Fl := fun ρ => a (fz i ρ)
section
variable {K : Fg} {W : Wd K} {E : XK} {te : TE} {m : Env → M D} {mn : Env → M (List D)} {tt : TT} {c : Env → M Bool} {ts tu : TS} {a b : Env → M Fl}
theorem ErrB.at' {Y : Addr → Bool} {B : Bases} {σ : L2.St} {H : Hp} {ρ : Env} {L : List (Nat × Addr)} (s : SR W Y B σ H ρ L) {c : Str} {p : List D} (h : ErrB W E B c p) : ErrP W E H c p := fun cls o H' e he => h cls o H' (s.bokE e) he
theorem gs_next : GS W E tNext sNext := fun Y B σ H ρ Dn s w => w σ H s
theorem gs_break : GS W E tBreak sBreak := fun Y B σ H ρ Dn s w => w σ H s
theorem gs_cont : GS W E tCont sCont := fun Y B σ H ρ Dn s w => w σ H s
theorem gs_seq (h1 : GS W E ts a) (h2 : GS W E tu b) : GS W E (tSeq ts tu) (sSeq a b) := fun Y B σ H ρ Dn s w =>
  h1 Y B σ H ρ _ s (M.wp_mono (fun f hf => by
    cases f with
    | nx ρ' => exact fun σ' H' s' => h2 Y B σ' H' ρ' Dn s' hf
    | bk ρ' => exact hf
    | ct ρ' => exact hf
    | rs _ _ _ _ => exact hf
    | rt d => exact hf) (fun _ _ h => h) _ ((M.wp_bind _).mp w))
theorem gs_fz {i : Nat} (h1 : GS W E ts a) : GS W E ts (sFz i a) := fun Y B σ H ρ Dn s w => h1 Y B σ H _ Dn (by obtain ⟨L, s⟩ := s; exact s.fz i) w
/-- first a reading -/
theorem GE.runA {α : Type} {Y : Addr → Bool} {B : Bases} {σ : L2.St} {H : Hp} {ρ : Env} {L : List (Nat × Addr)} {f : D → M α} {R : α → Prop} {Q : VK} (h : GE W E te m) (s : SR W Y B σ H ρ L) (w : ((m ρ).bind f).wp R (ErrB W E B))
    (k : ∀ d v H1, SR W Y B σ H1 ρ L → Dm W (YL Y L) H1 v d → (f d).wp R (ErrB W E B) → Q v H1) : te σ H Q :=
  h.seq s.okL s.envA w (fun _ _ h => h.at' s) fun d v H1 e1 o1 r1 hv w1 => k d v H1 (s.up e1) hv w1
theorem GE.runB {α : Type} {Y : Addr → Bool} {B : Bases} {σ : L2.St} {H : Hp} {ρ : Env} {L : List (Nat × Addr)} {f : D → M α} {R : α → Prop} {Q : VK} (h : GE W E te m) (s : SR W Y B σ H ρ L) (w : ((m (vB ρ)).bind f).wp R (ErrB W E B))
    (k : ∀ d v H1, SR W Y B σ H1 ρ L → Dm W Y H1 v d → (f d).wp R (ErrB W E B) → Q v H1) : te σ H Q :=
  h.seq s.ok s.envB w (fun _ _ h => h.at' s) fun d v H1 e1 o1 r1 hv w1 => k d v H1 (s.up e1) hv w1
theorem ok1_see {Y : Addr → Bool} {B : Bases} {σ : L2.St} {H : Hp} {ρ : Env} {L : List (Nat × Addr)} (s : SR W Y B σ H ρ L) {v : V} {d : D} (h : Dm W Y H v d) (k : ok1 d = true) : Dm W (YL Y L) H v d := by
  have k' : d.fix = true ∧ d.pl = true := by simpa [ok1] using k
  exact Dn.see s.okL d v k'.1 k'.2 h.un
theorem okL_see {Y : Addr → Bool} {H : Hp} (o : Ok W Y H) {vs : List V} {ds : List D} (h : Dns K H vs ds) (k : okL ds = true) : Dms W Y H vs ds := by
  have k' : D.fixs ds = true ∧ D.pls ds = true := by simpa [okL] using k
  exact Dns.see o ds vs k'.1 k'.2 h
theorem gs_expr (h : GE W E te m) : GS W E (tDrop te) (sExpr m) := fun Y B σ H ρ Dn ⟨L, s⟩ w => h.runB s w fun d v H1 s1 hv w1 => w1 σ H1 ⟨L, s1⟩
theorem gs_asg {i : Nat} (h : GE W E te m) : GS W E (tAsg te (gName i)) (sAsg i m) := fun Y B σ H ρ Dn ⟨L, s⟩ w => h.runA s w fun d v H1 s1 hv w1 => w1 _ H1 ⟨L, s1.set i hv⟩
theorem gs_asgB {i : Nat} (h : GE W E te m) : GS W E (tAsg te (gName i)) (sAsgB i m) := fun Y B σ H ρ Dn ⟨L, s⟩ w => h.runB s w fun d v H1 s1 hv w1 => by
  split at w1
  · rename_i k; exact w1 _ H1 ⟨L, s1.set i (ok1_see s1 hv k)⟩
  · exact w1.elim
theorem gs_pat {g : TG} {p : Pat} {is : List Nat} (h : GE W E te m) (hp : GP K g p is) : GS W E (tAsg te g) (sPat p m) := fun Y B σ H ρ Dn ⟨L, s⟩ w => h.runA s w fun d v H1 s1 hv w1 => by
  cases e : p d ρ with
  | none => rw [e] at w1; exact w1.elim
  | some ρ' =>
    rw [e] at w1
    exact hp _ H1 v d σ ρ ρ' _ (mask_le (W := W) (Y := YL Y L)) hv e fun σ' hs => w1 σ' H1 ⟨L, s1.sets hs⟩
theorem gs_patB {g : TG} {p : Pat} {is : List Nat} (h : GE W E te m) (hp : GP K g p is) : GS W E (tAsg te g) (sPatB p m) := fun Y B σ H ρ Dn ⟨L, s⟩ w => h.runB s w fun d v H1 s1 hv w1 => by
  split at w1
  · rename_i k
    cases e : p d ρ with
    | none => rw [e] at w1; exact w1.elim
    | some ρ' =>
      rw [e] at w1
      exact hp _ H1 v d σ ρ ρ' _ (mask_le (W := W) (Y := YL Y L)) (ok1_see s1 hv k) e fun σ' hs => w1 σ' H1 ⟨L, s1.sets hs⟩
  · exact w1.elim
theorem gs_own {i : Nat} (h : GN W E te mn) : GS W E (tAsg te (gName i)) (sOwn i mn) := fun Y B σ H ρ Dn ⟨L, s⟩ w =>
  h _ σ H ρ _ s.okL s.envA (M.wp_mono (fun ds (hd : FlP W Y B Dn (.nx (ρ.set i (.own ds)))) (p : Addr) (xs : List V) H' e hp hx hds => hd _ H' ⟨_, s.own i (p := p) e hp hx hds⟩) (fun _ _ h => h.at' s) _ ((M.wp_bind _).mp w))
theorem gs_ownB {i : Nat} (h : GN W E te mn) : GS W E (tAsg te (gName i)) (sOwnB i mn) := fun Y B σ H ρ Dn ⟨L, s⟩ w =>
  h _ σ H (vB ρ) _ s.ok s.envB (M.wp_mono (fun ds hd (p : Addr) (xs : List V) H' e hp hx hds => by
    split at hd
    · rename_i k
      refine hd _ H' ⟨_, s.own i (p := p) e hp hx (okL_see ⟨e.2, fun a h => also_r a (s.okL.2.1 a h), fun a h => ?_⟩ hds.un k)⟩
      by_cases ea : a = p
      · subst ea; exact ⟨_, hx, rfl⟩
      · exact (s.okL.ext e).2.2 a (by simpa [also, ea] using h)
    · exact hd.elim) (fun _ _ h => h.at' s) _ ((M.wp_bind _).mp w))
theorem gs_par {i j : Nat} {ta : TA} (h : GA W E ta mn) : GS W E (tPar i j ta) (sPar i j mn) := fun Y B σ H ρ Dn ⟨L, s⟩ w =>
  h.seq s.okL s.envA w (fun _ _ h => h.at' s) fun ds vs H1 e1 o1 r1 hv w1 => by
    have s1 := s.up e1
    cases hv with
    | nil => exact w1.elim
    | cons h1 h2 =>
      cases h2 with
      | nil => exact w1.elim
      | cons h2 h3 =>
        cases h3 with
        | nil => exact ⟨_, _, rfl, w1 _ H1 ⟨L, (s1.set i h1).set j h2⟩⟩
        | cons _ _ => exact w1.elim
theorem gs_ret (h : GE W E te m) : GS W E (tRet te) (sRet m) := fun Y B σ H ρ Dn ⟨L, s⟩ w => h.runB s w fun d v H1 s1 hv w1 => w1 v H1 s1.bok hv
theorem gs_retN : GS W E tRetN sRetN := fun Y B σ H ρ Dn ⟨L, s⟩ w => w .non H s.bok .non
theorem gs_if (hc : GT W E tt c) (h1 : GS W E ts a) (h2 : GS W E tu b) : GS W E (tIfS tt ts tu) (sIf c a b) := fun Y B σ H ρ Dn ⟨L, s⟩ w =>
  hc.seq s.ok s.envB w (fun _ _ h => h.at' s) fun k H1 e1 o1 r1 w1 => by
    cases k with
    | true => exact (if_pos rfl).mpr (h1 Y B σ H1 ρ Dn ⟨L, s.up e1⟩ w1)
    | false => exact (if_neg Bool.false_ne_true).mpr (h2 Y B σ H1 ρ Dn ⟨L, s.up e1⟩ w1)
/-- the bases of a loop's turn -/
theorem SR.base {Y : Addr → Bool} {B : Bases} {σ : L2.St} {H : Hp} {ρ : Env} {L : List (Nat × Addr)} (s : SR W Y B σ H ρ L) : SR W Y ⟨(H, YL Y L) :: B.l, B.s⟩ σ H ρ L :=
  { s with
    bs := fun k hk => by
      rcases List.mem_cons.mp hk with rfl | hk
      · exact ⟨s.okL.2.1, fun _ _ e _ => e⟩
      · exact s.bs k hk
    fre := fun p hp => by
      obtain ⟨h1, h2⟩ := s.fre p hp
      refine ⟨fun k hk => ?_, h2⟩
      rcases List.mem_cons.mp hk with rfl | hk
      · exact .inr (YL_l hp)
      · exact h1 k hk }
theorem SR.unbase {Y : Addr → Bool} {B : Bases} {σ : L2.St} {H : Hp} {ρ : Env} {L : List (Nat × Addr)} {b : Hp × (Addr → Bool)} (s : SR W Y ⟨b :: B.l, B.s⟩ σ H ρ L) : SR W Y B σ H ρ L :=
  { s with bs := fun k hk => s.bs k (List.mem_cons_of_mem _ hk), fre := fun p hp => ⟨fun k hk => (s.fre p hp).1 k (List.mem_cons_of_mem _ hk), (s.fre p hp).2⟩ }
theorem Bok.tail {B : Bases} {b : Hp × (Addr → Bool)} {H : Hp} (h : Bok W ⟨b :: B.l, B.s⟩ H) : Bok W B H := ⟨h.1, fun k hk => h.2 k (List.mem_cons_of_mem _ hk)⟩
/-- the turns of a loop -/
theorem for_run {Y : Addr → Bool} {B : Bases} {σ : L2.St} {H : Hp} {ρ : Env} {L : List (Nat × Addr)} {Dn : Ends} {g : TG} {p : Pat} {is : List Nat} {ds : List D} (hp : GP K g p is) (hb : GS W E ts b) (s : SR W Y B σ H ρ L) (w : (forGo p b ds ρ).wp (FlP W Y B Dn) (ErrB W E B))
    {J : It} {G : Hp → Prop} {Yw : Nat → Hp → V → Hp → Prop} {H2 : Hp} (e2 : Ext W H H2) (wk : Walk J ds.length G Yw) (hG : ∀ H', St (YL Y L) H2 H' → G H')
    (hY : ∀ i Ha x Hb Y', i < ds.length → St (YL Y L) H2 Ha → Ok W Y' Ha → (∀ a, Y' a = true → YL Y L a = true ∨ H2 a = none) → Yw i Ha x Hb → Same Ha Hb ∧ ∃ d, ds[i]? = some d ∧ Dm W Y' Hb x d) :
    ∃ Wm : Nat → Nat → L2.St → Hp → Prop, (∃ m, Wm 0 m σ H2) ∧ ∀ i m σ H, Wm i m σ H →
      (J.stop i H ∧ Dn.nx σ H) ∨ (J.go i H ∧ ∃ N : L2.St → Hp → Prop, (∀ σ' H', N σ' H' → ∃ m', m' < m ∧ Wm (i + 1) m' σ' H') ∧ ∀ x H', J.yld i H x H' → g x σ H' fun σ2 H2 => ts { Dn with nx := N, ct := N, bk := Dn.nx } σ2 H2) := by
  have s2 := (s.up e2).base
  let B2 : Bases := ⟨(H2, YL Y L) :: B.l, B.s⟩
  let Pv : Nat → L2.St → Hp → Prop := fun i σ' H' => ∃ ρ', SRx W Y B2 σ' H' ρ' ∧ (forGo p b (ds.drop i) ρ').wp (FlP W Y B Dn) (ErrB W E B)
  refine for_it wk Pv ⟨ρ, ⟨L, s2⟩, by simpa using w⟩ (fun i σ' H' _ ⟨ρ', ⟨L', s'⟩, _⟩ => hG H' (s'.bs _ List.mem_cons_self).2) (fun i x σ' Ha Hb hlt ⟨ρ', ⟨L', s'⟩, w'⟩ y => ?_) (fun σ' H' ⟨ρ', ⟨L', s'⟩, w'⟩ => ?_)
  · have st := (s'.bs _ List.mem_cons_self).2
    obtain ⟨eb, d, hd, hx⟩ := hY i Ha x Hb (YL Y L') hlt st s'.okL (fun a ha => by
      rcases YL_or ha with h | ⟨q, hq, rfl⟩
      · exact .inl (YL_y h)
      · rcases (s'.fre q hq).1 _ List.mem_cons_self with h | h
        · exact .inr h
        · exact .inl h) y
    have sb := s'.up (.of s'.ok.1 eb)
    have hdr : ds.drop i = d :: ds.drop (i + 1) := by
      obtain ⟨hl, hg⟩ := List.getElem?_eq_some_iff.mp hd
      rw [List.drop_eq_getElem_cons hl, hg]
    rw [hdr] at w'
    unfold forGo at w'
    cases hpd : p d ρ' with
    | none => rw [hpd] at w'; exact w'.elim
    | some ρ1 =>
      rw [hpd] at w'
      refine hp _ Hb x d σ' ρ' ρ1 _ (mask_le (W := W) (Y := YL Y L') (H := Hb)) hx hpd fun σ1 hs => ?_
      refine hb Y B2 σ1 Hb ρ1 _ ⟨L', sb.sets hs⟩ (M.wp_mono (fun f hf => ?_) (fun c q h cls o H' k he => h cls o H' k.tail he) _ ((M.wp_bind _).mp w'))
      cases f with
      | nx ρ2 => exact fun σ2 H3 s3 => ⟨ρ2, s3, hf⟩
      | ct ρ2 => exact fun σ2 H3 s3 => ⟨ρ2, s3, hf⟩
      | bk ρ2 => exact fun σ2 H3 ⟨L3, s3⟩ => hf σ2 H3 ⟨L3, s3.unbase⟩
      | rt d => exact fun v H3 k hv => hf v H3 k.tail hv
      | rs _ _ _ _ => exact fun v H3 x dx fs h1 k h2 hn h3 hv => hf v H3 x dx fs h1 k.tail h2 hn h3 hv
  · rw [List.drop_length] at w'
    exact w' σ' H' ⟨L', s'.unbase⟩
theorem gs_for {wi : TI} {g : TG} {p : Pat} {is : List Nat} {mi : Env → M (List D)} (hi : GI W E wi mi) (hp : GP K g p is) (hb : GS W E ts b) : GS W E (tFor wi g ts) (sFor mi p b) := fun Y B σ H ρ Dn ⟨L, s⟩ w =>
  hi.seq s.okL s.envA w (fun _ _ h => h.at' s) fun ds w1 J G Yw H2 e2 wk hG hY => for_run hp hb s w1 e2 wk hG hY
/-- a range, which depends on nothing that changes -/
def GR (W : Wd K) (E : XK) (wi : TI) (mi : Env → M (List D)) : Prop := ∀ Y σ H ρ R, Ok W Y H → EnvR W (mask W Y H) σ ρ → (mi ρ).wp (fun ds => ∀ lo n H2, Ext W H H2 → ds = (List.range n).map (fun i => D.int (lo + (i : Nat))) → R (Itr lo n) H2) (ErrP W E H) → wi σ H R
theorem gs_forR {wi : TI} {g : TG} {p : Pat} {is : List Nat} {mi : Env → M (List D)} (hi : GR W E wi mi) (hp : GP K g p is) (hb : GS W E ts b) : GS W E (tFor wi g ts) (sForB mi p b) := fun Y B σ H ρ Dn ⟨L, s⟩ w =>
  hi Y σ H (vB ρ) _ s.ok s.envB (M.wp_mono (fun ds hd lo n H2 e2 hds => by
    split at hd
    · subst hds
      refine for_run hp hb s hd e2 (G := fun _ => True) (Yw := YFn fun i => .int (lo + i)) (by simpa using walk_range (lo := lo) (n := n)) (fun _ _ => trivial) fun i Ha x Hb Y' hi _ _ _ y => ?_
      obtain ⟨e, y⟩ := y
      subst e y
      have hin : i < n := by simpa using hi
      exact ⟨.refl _, .int (lo + (i : Nat)), by simp [hin], .int _⟩
    · exact hd.elim) (fun _ _ h => h.at' s) _ ((M.wp_bind _).mp w))
theorem gs_while {n : Nat} (hc : GT W E tt c) (hb : GS W E ts b) : GS W E (tWhile tt ts) (whGo c b n) := fun Y B σ H ρ Dn s w => by
  refine ⟨fun k σ' H' => ∃ ρ', SRx W Y B σ' H' ρ' ∧ (whGo c b k ρ').wp (FlP W Y B Dn) (ErrB W E B), ⟨n, ρ, s, w⟩, ?_⟩
  rintro k σ' H' ⟨ρ', ⟨L, s⟩, w⟩
  cases k with
  | zero => exact w.elim
  | succ k =>
    unfold whGo at w
    refine hc.seq s.ok s.envB w (fun _ _ h => h.at' s) fun t H1 e1 o1 r1 w1 => ?_
    cases t with
    | false => exact (if_neg Bool.false_ne_true).mpr (w1 σ' H1 ⟨L, s.up e1⟩)
    | true =>
      refine (if_pos rfl).mpr ⟨fun σ2 H2 => ∃ ρ2, SRx W Y B σ2 H2 ρ2 ∧ (whGo c b k ρ2).wp (FlP W Y B Dn) (ErrB W E B), fun σ2 H2 h => ⟨k, by omega, h⟩, hb Y B σ' H1 ρ' _ ⟨L, s.up e1⟩ (M.wp_mono (fun f hf => ?_) (fun _ _ h => h) _ ((M.wp_bind _).mp w1))⟩
      cases f with
      | nx ρ2 => exact fun σ2 H3 s3 => ⟨ρ2, s3, hf⟩
      | ct ρ2 => exact fun σ2 H3 s3 => ⟨ρ2, s3, hf⟩
      | bk ρ2 => exact hf
      | rt d => exact hf
      | rs _ _ _ _ => exact hf
/-! lists of one's own, changed -/
theorem SR.ownAt {Y : Addr → Bool} {B : Bases} {σ : L2.St} {H : Hp} {ρ : Env} {L : List (Nat × Addr)} (s : SR W Y B σ H ρ L) {i : Nat} {ds : List D} (h : ρ[i]? = some (.own ds)) : ∃ l xs, σ[i]? = some (some (.ref l)) ∧ (i, l) ∈ L ∧ H l = some (.lst xs) ∧ Dms W (YL Y L) H xs ds := s.sl i _ h
theorem gs_app {i : Nat} (h : GE W E te m) : GS W E (tDrop (tBM K "list" rAppend (tVar i) (tCons te tNil))) (sApp i m) := fun Y B σ H ρ Dn ⟨L, s⟩ w => by
  unfold sApp at w
  split at w
  case h_2 => exact w.elim
  rename_i ds hi
  obtain ⟨l, xs, h1, h2, h3, h4⟩ := s.ownAt hi
  refine ⟨.ref l, h1, .inl ⟨rfl, xs, SqL.of h3⟩, h.runA s w fun d v H1 s1 hv w1 => ?_⟩
  obtain ⟨l', xs', g1, g2, g3, g4⟩ := s1.ownAt hi
  rw [h1] at g1
  cases g1
  split at w1
  · rename_i hz
    have hl := g4.length
    exact ⟨l, xs', v, rfl, rfl, g3, by rw [sizeLine_eq]; omega, w1 σ _ ⟨L, s1.put hi h1 g2 g3 (g4.app (.cons hv .nil))⟩⟩
  · exact w1.elim
theorem gs_appB {i : Nat} (h : GE W E te m) : GS W E (tDrop (tBM K "list" rAppend (tVar i) (tCons te tNil))) (sAppB i m) := fun Y B σ H ρ Dn ⟨L, s⟩ w => by
  unfold sAppB at w
  split at w
  case h_2 => exact w.elim
  rename_i ds hi
  obtain ⟨l, xs, h1, h2, h3, h4⟩ := s.ownAt hi
  refine ⟨.ref l, h1, .inl ⟨rfl, xs, SqL.of h3⟩, h.runB s w fun d v H1 s1 hv w1 => ?_⟩
  obtain ⟨l', xs', g1, g2, g3, g4⟩ := s1.ownAt hi
  rw [h1] at g1
  cases g1
  split at w1
  · rename_i hz
    have hl := g4.length
    exact ⟨l, xs', v, rfl, rfl, g3, by rw [sizeLine_eq]; omega, w1 σ _ ⟨L, s1.put hi h1 g2 g3 (g4.app (.cons (ok1_see s1 hv hz.2) .nil))⟩⟩
  · exact w1.elim
theorem gs_ext {i : Nat} (h : GE W E te m) : GS W E (tDrop (tBM K "list" rExtend (tVar i) (tCons te tNil))) (sExt i m) := fun Y B σ H ρ Dn ⟨L, s⟩ w => by
  unfold sExt at w
  split at w
  case h_2 => exact w.elim
  rename_i ds hi
  obtain ⟨l, xs, h1, h2, h3, h4⟩ := s.ownAt hi
  refine ⟨.ref l, h1, .inl ⟨rfl, xs, SqL.of h3⟩, h.runA s w fun d v H1 s1 hv w1 => ?_⟩
  obtain ⟨l', xs', g1, g2, g3, g4⟩ := s1.ownAt hi
  rw [h1] at g1
  cases g1
  cases hv with
  | @lst b zs es hb hz =>
    dsimp only at w1
    split at w1
    · have hl := g4.length
      have hl2 := hz.length
      exact ⟨l, b, xs', zs, rfl, rfl, g3, mask_le _ _ hb, by rw [sizeLine_eq]; omega, w1 σ _ ⟨L, s1.put hi h1 g2 g3 (g4.app hz)⟩⟩
    · exact w1.elim
  | _ => exact w1.elim
theorem gs_extB {i : Nat} (h : GE W E te m) : GS W E (tDrop (tBM K "list" rExtend (tVar i) (tCons te tNil))) (sExtB i m) := fun Y B σ H ρ Dn ⟨L, s⟩ w => by
  unfold sExtB at w
  split at w
  case h_2 => exact w.elim
  rename_i ds hi
  obtain ⟨l, xs, h1, h2, h3, h4⟩ := s.ownAt hi
  refine ⟨.ref l, h1, .inl ⟨rfl, xs, SqL.of h3⟩, h.runB s w fun d v H1 s1 hv w1 => ?_⟩
  obtain ⟨l', xs', g1, g2, g3, g4⟩ := s1.ownAt hi
  rw [h1] at g1
  cases g1
  cases hv with
  | @lst b zs es hb hz =>
    dsimp only at w1
    split at w1
    · rename_i hc
      have hl := g4.length
      have hl2 := hz.length
      exact ⟨l, b, xs', zs, rfl, rfl, g3, mask_le _ _ hb, by rw [sizeLine_eq]; omega, w1 σ _ ⟨L, s1.put hi h1 g2 g3 (g4.app (okL_see s1.okL (Dms.un hz) hc.2))⟩⟩
    · exact w1.elim
  | _ => exact w1.elim
theorem gs_set {i : Nat} {tj : TE} {mj : Env → M D} (h : GE W E te m) (hj : GE W E tj mj) : GS W E (tAsg te (gSub (tVar i) tj rSetL)) (sSet i mj m) := fun Y B σ H ρ Dn ⟨L, s⟩ w => by
  unfold sSet at w
  split at w
  case h_2 => exact w.elim
  rename_i ds hi
  refine h.runB s w fun d v H1 s1 hv w1 => ?_
  obtain ⟨l, xs, h1, h2, h3, h4⟩ := s1.ownAt hi
  refine ⟨.ref l, h1, hj.seq s1.ok s1.envB w1 (fun _ _ h => h.at' s1) fun d2 v2 H2 e2 o2 r2 hv2 w2 => ?_⟩
  have s2 := s1.up e2
  obtain ⟨l', xs', g1, g2, g3, g4⟩ := s2.ownAt hi
  rw [h1] at g1
  cases g1
  cases d2 with
  | int k =>
    cases hv2
    dsimp only at w2
    have hl := g4.length
    cases hn : ixN ds.length k with
    | none => rw [hn] at w2; exact w2.elim
    | some n =>
      rw [hn] at w2
      dsimp only at w2
      split at w2
      · rename_i ko
        exact ⟨l, xs', k, n, rfl, rfl, g3, by rw [hl]; exact hn, w2 σ _ ⟨L, s2.put hi h1 g2 g3 (Dns.set (ok1_see s2 (hv.up s1.ok e2) ko) n g4)⟩⟩
      · exact w2.elim
  | _ => exact w2.elim
/-! defs -/
def fin : Fl → M D
  | .nx _ => .ret .non
  | .rt d => .ret d
  | _ => .bad
/-- what a def does, by its body: n slots, np parameters -/
def defM (n np : Nat) (b : Env → M Fl) : List D → M D := fun ds => if ds.length = np then (b (ds.map .dat ++ List.replicate (n - np) .no)).bind fin else .bad
theorem start_sr {Y : Addr → Bool} {H : Hp} {vs : List V} {ds : List D} {N : List Str} (o : Ok W Y H) (h : Dms W Y H vs ds) (hn : ds.length ≤ N.length) : SR W Y ⟨[(H, W.X)], none⟩ (L2.start N vs) H (ds.map .dat ++ List.replicate (N.length - ds.length) .no) [] where
  ok := o
  bs := fun k hk => by
    rw [List.mem_singleton.mp hk]
    exact ⟨fun _ h => h, fun _ _ e _ => e⟩
  len := by
    have := h.length
    simp [L2.start, this]
  fre := fun p hp => nomatch hp
  nd := .nil
  sl := fun i t ht => by
    have hl := h.length
    by_cases hi : i < ds.length
    · rw [List.getElem?_append_left (by simpa using hi), List.getElem?_map, List.getElem?_eq_getElem hi] at ht
      cases ht
      obtain ⟨v, hv, hd⟩ := h.getD (List.getElem?_eq_getElem hi)
      refine ⟨v, ?_, Dm.less hd fun a ha => ?_⟩
      · have hiv : i < vs.length := by omega
        unfold L2.start
        rw [List.getElem?_append_left (by simpa using hiv), List.getElem?_map, hv]
        rfl
      · rcases YL_or ha with h | ⟨p, hp, _⟩
        · exact h
        · cases hp
    · rw [List.getElem?_append_right (by simpa using Nat.le_of_not_lt hi)] at ht
      have := List.mem_of_getElem? ht
      rw [(List.mem_replicate.mp this).2]
      trivial
theorem def_run {N ps : List Str} {Y : Addr → Bool} {H : Hp} {vs : List V} {ds : List D} {Q : VK} {Er : Str → List D → Prop} (h : GS W E ts a) (hN : ps.length ≤ N.length) (o : Ok W Y H) (hd : Dms W Y H vs ds) (w : (defM N.length ps.length a ds).wp (RetP W Y H Q) Er) (hE : ∀ c p, Er c p → ErrP W E H c p) : ts { nx := fun _ H' => Q .non H', rt := Q } (L2.start N vs) H := by
  unfold defM at w
  split at w
  · rename_i hl
    rw [← hl] at w
    refine h Y ⟨[(H, W.X)], none⟩ (L2.start N vs) H _ _ ⟨[], start_sr o hd (by omega)⟩ (M.wp_mono (fun f hf => ?_) (fun c p hc cls ob H' k he => hE c p hc cls ob H' ⟨k.2 (H, W.X) List.mem_cons_self, k.1⟩ he) _ ((M.wp_bind _).mp w))
    have ext : ∀ {H'}, Bok W ⟨[(H, W.X)], none⟩ H' → Ext W H H' := fun k => ⟨k.2 (H, W.X) List.mem_cons_self, k.1⟩
    cases f with
    | nx ρ' => exact fun σ' H' ⟨L, s⟩ => hf .non H' (ext s.bok) .non
    | rt d => exact fun v H' k hv => hf v H' (ext k) hv
    | bk _ => exact hf.elim
    | rs _ _ _ _ => exact hf.elim
    | ct _ => exact hf.elim
  · exact w.elim
theorem defM_len {n np : Nat} {ds : List D} {R : D → Prop} {Er} (w : (defM n np a ds).wp R Er) : ds.length = np := by
  unfold defM at w
  split at w
  · assumption
  · exact w.elim
end
section
variable {P : Program} {w : World} {K : Fg} {mg : Str → Option Value} {base : Heap} {W : Wd K}
/-- a def that raises nothing -/
theorem ok_defC {x qual : Str} {st : Stmt} {f : Addr} {fd : FuncData} {N ps : List Str} {k : Nat} {a : Env → M Fl} (F : Fun K x qual st f fd) (S : FnScope N ps (defScope st)) (hN : ps.length ≤ N.length)
    (hb : ∀ (cdv : Value) (A : Around) (outer : List PySem.Env) (s : Shared) (H : Hp) (E : XK), Room k (A.deeper (PyProof.Rows.envOfC qual (defScope st) s.heap.objs.size f cdv)) → ∃ t, PSs (cxOf CX0 P w K mg base N qual (defScope st) f cdv A outer s H E).nox (defBody st) t ∧ GS W Cc.E0 t a) :
    FnOk P w K mg base CX0 (k + 1) f fd ps (spC W (defM N.length ps.length a)) := by
  refine F.ok S (fun vs H Q E h => ?_) (fun cdv A outer s H vs Q E hr h => ?_)
  · obtain ⟨Y, ds, o, hd, w⟩ := h
    rw [hd.length]
    exact defM_len w
  · obtain ⟨Y, ds, o, hd, w⟩ := h
    obtain ⟨t, h1, h2⟩ := hb cdv A outer s H E hr
    exact ⟨t, h1, def_run h2 hN o hd w fun _ _ h => h.elim⟩
/-- a def that may raise -/
theorem ok_defM {x qual : Str} {st : Stmt} {f : Addr} {fd : FuncData} {N ps : List Str} {k : Nat} {a : Env → M Fl} (F : Fun K x qual st f fd) (S : FnScope N ps (defScope st)) (hN : ps.length ≤ N.length)
    (hb : ∀ (cdv : Value) (A : Around) (outer : List PySem.Env) (s : Shared) (H : Hp) (E : XK), Room k (A.deeper (PyProof.Rows.envOfC qual (defScope st) s.heap.objs.size f cdv)) → ∃ t, PSs (cxOf (L2.CX P w) P w K mg base N qual (defScope st) f cdv A outer s H E) (defBody st) t ∧ GS W E t a) :
    FnOk P w K mg base (L2.CX P w) (k + 1) f fd ps (spM W (defM N.length ps.length a)) := by
  refine F.okX S (fun vs H Q E h => ?_) (fun cdv A outer s H vs Q E hr h => ?_)
  · obtain ⟨Y, ds, o, hd, w⟩ := h
    rw [hd.length]
    exact defM_len w
  · obtain ⟨Y, ds, o, hd, w⟩ := h
    obtain ⟨t, h1, h2⟩ := hb cdv A outer s H E hr
    exact ⟨t, h1, def_run h2 hN o hd w fun _ _ h => h⟩
end
end Mi

/-! more tuples of exact type: slices, tuple(..), tuple(range) -/
namespace Cc
open PySem PySem.Spec L2 PyProof.Rows
section
variable {X : Cx}
/-- t[lo:hi] -/
def rSlP : V → Option Int → Option Int → Hp → VK → Prop := fun x lo hi H Q => ∃ a xs, x = .ref a ∧ PlT H a xs ∧
  (HT.sIx xs.length 0 lo = 0 ∧ HT.sIx xs.length xs.length hi = xs.length → Q (.ref a) H) ∧ (¬ (HT.sIx xs.length 0 lo = 0 ∧ HT.sIx xs.length xs.length hi = xs.length) → ∀ p o, H p = none → PlO o → Q (.ref p) (upd H p (.frz o (.tup (cutV xs lo hi)))))
theorem sl_tupP : SlR X rSlP := by
  intro pins s σ H x v vl vu lo hi sl Q I rx hs pl pu h
  obtain ⟨a, xs, rfl, hx, q1, q2⟩ := h
  cases rx
  obtain ⟨its, r, ht, hz⟩ := I.tuple (hx.sq (K := X.K))
  have hlen : its.toArray.size = xs.length := by rw [List.size_toArray]; exact r.length.symm
  refine ⟨"tuple", _, PyProof.Rows.slot_tuple_getitem.lookup, ht.typeIs, ?_⟩
  by_cases hw : HT.sIx xs.length 0 lo = 0 ∧ HT.sIx xs.length xs.length hi = xs.length
  · exact getItem_tuple_whole ht hs pl pu (by rw [hlen]; exact hw) ⟨.ref a, H, I, rfl, q1 hw⟩
  · refine HT.getItem_tuple_cut ht hs pl pu (by rw [hlen]; exact hw) ?_ (by rw [hlen]; exact hz)
    rw [hlen]
    refine ⟨.ref s.heap.objs.size, _, I.laid (t' := s.toks) (o := .frz { cls := .type "tuple", data := .seq ((its.drop (HT.sIx xs.length 0 lo)).take (HT.sIx xs.length xs.length hi - HT.sIx xs.length 0 lo)).toArray } (.tup (cutV xs lo hi))) (fun b ob q => Heap.get?_push_of_some _ q) (Nat.le_refl _) ⟨?_, ?_⟩, rfl, q2 hw _ _ (I.hok.fresh (Nat.le_refl _)) ⟨rfl, rfl⟩⟩
    · exact Heap.get?_push_size _ rfl
    · exact ⟨Nat.le_trans (cutV_length xs lo hi) hz, _, (r.drop (HT.sIx xs.length 0 lo)).take (HT.sIx xs.length xs.length hi - HT.sIx xs.length 0 lo), IsTup.new _ _⟩
/-- tuple(xs) -/
def rTupP (K : Fg) : List V → Hp → VK → Prop := fun xs H Q => ∃ p ys, xs = [.ref p] ∧ ((SqL K H p ys ∧ ∀ l o, H l = none → PlO o → Q (.ref l) (upd H l (.frz o (.tup ys)))) ∨ (PlT H p ys ∧ Q (.ref p) H))
theorem call_tupP : CallR X (.type "tuple") (rTupP X.K) := by
  intro pins s σ H xs us Q I r h
  obtain ⟨p, ys, rfl, h⟩ := h
  obtain ⟨u, rfl, rx⟩ := vals1 r
  cases rx
  rcases h with ⟨hq, q⟩ | ⟨hq, q⟩
  · obtain ⟨its, r', pl, hz⟩ := I.list hq
    have hlen := r'.length
    refine call_tuple_list pl.isList (fun h' kp => ?_) (by simp only [List.size_toArray] <;> omega)
    have I1 : Inv X pins σ H { s with heap := h' } := I.kept (t' := s.toks) kp
    have I2 : Inv X pins σ (upd H h'.objs.size (.frz { cls := .type "tuple", data := .seq its.toArray } (.tup ys))) { s with heap := h'.push { cls := .type "tuple", data := .seq its.toArray } } :=
      I1.laid (t' := s.toks) (fun b o e => Heap.get?_push_of_some _ e) (Nat.le_refl _) ⟨Heap.get?_push_size _ rfl, hz, its, r', IsTup.new _ _⟩
    exact ⟨.ref h'.objs.size, _, I2, rfl, q _ _ (I1.hok.fresh (Nat.le_refl _)) ⟨rfl, rfl⟩⟩
  · obtain ⟨its, r', pl, hz⟩ := I.tuple (hq.sq (K := X.K))
    exact call_tuple_same pl ⟨.ref p, H, I, rfl, q⟩
theorem tupPK (K : Fg) (h : X.K = K := by rfl) : CallR X (.type "tuple") (rTupP K) := h ▸ call_tupP
/-- tuple(range(..)) -/
def tTupRgP (te : L2.St → Hp → (Int → Int → Hp → Prop) → Prop) : TE := fun σ H Q => te σ H fun a b H1 => RgOk a b ∧ ∀ q o, H1 q = none → PlO o → Q (.ref q) (upd H1 q (.frz o (.tup (rgV a b))))
theorem pe_tupRgP {e : Expr} {te : L2.St → Hp → (Int → Int → Hp → Prop) → Prop} {p pos : Pos} (hc : X.calm = true) (hg : Gl X "tuple") (hm : X.mg "tuple" = none) (he : PRg X e te) (na : starEach [e] X.env = (false, eval e X.env) :: starEach [] X.env := by rfl) : PE X (.Call (.Name "tuple" p) [e] [] pos) (tTupRgP te) := by
  refine ⟨fun pins s σ H Q I h => ?_⟩
  refine Call_ (ld_blt I hg hm boot_tuple (PyProof.Rows.callWith_type1 (args_cons (thn (he pins s σ H _ I h) fun x s1 ⟨r, a, b, t, u, v, H1, ex, hr, I1, ok, q⟩ => args_nil ?_) na) na))
  subst ex
  obtain ⟨b1, b2, b3, b4, b5⟩ := ok
  refine call_tuple_range (n := (b - a).toNat) (I1.ok.hd hc) hr (small_one b1 b2 b3 b4) (rangeSize_nat a b) b5 fun h' tk acc hk hi => ?_
  have I2 : Inv X pins σ H1 { s1 with heap := h', toks := tk } := I1.kept hk
  refine ⟨.ref h'.objs.size, upd H1 h'.objs.size (.frz { cls := .type "tuple", data := .seq acc } (.tup (rgV a b))), I2.laid (t' := tk) (fun c o e => Heap.get?_push_of_some _ e) (Nat.le_refl _) ⟨Heap.get?_push_size _ rfl, ?_, acc.toList, vals_rg hi, ?_⟩, rfl, q _ _ (I2.hok.fresh (Nat.le_refl _)) ⟨rfl, rfl⟩⟩
  · rw [rgV_length, sizeLine_eq]; omega
  · rw [Array.toArray_toList]; exact IsTup.new _ _
/-- t * n -/
def rRepP : R2 := fun x y H Q => ∃ l k xs, x = .ref l ∧ y = .int k ∧ PlT H l xs ∧ xs ≠ [] ∧ 1 ≤ k ∧ k ≤ 1000 ∧ xs.length ≤ 1000 ∧ (k = 1 → Q (.ref l) H) ∧ (2 ≤ k → ∀ p o, H p = none → PlO o → Q (.ref p) (upd H p (.frz o (.tup (List.replicate k.toNat xs).flatten))))
/-- .. the machine's part -/
theorem op_repP2 {pins : List (Addr × Obj)} {s : Shared} {σ : L2.St} {H : Hp} {u : Value} {Q : VK} {l : Addr} {k : Int} {xs : List V} (I : Inv X pins σ H s) (ry : RelV (.int k) u) (hT : PlT H l xs) (hne : xs ≠ []) (h1 : 2 ≤ k) (h2 : k ≤ 1000) (hz : xs.length ≤ 1000)
    (q : ∀ p o, H p = none → PlO o → Q (.ref p) (upd H p (.frz o (.tup (List.replicate k.toNat xs).flatten)))) : wpAny (model X.prog X.w) X.A (binaryOp .Mult (.ref l) u) (EP X pins σ Q) X.xe s := by
  obtain ⟨t, rfl⟩ := ry
  obtain ⟨its, r, ⟨⟨cls, dd, data, sl⟩, ho, hc, n, hd⟩, hs⟩ := I.tuple (hT.sq (K := X.K))
  simp only at hc hd
  subst hc hd
  have hle : its.length = xs.length := r.length.symm
  have hn : its ≠ [] := fun e => hne (by
    rw [e] at hle
    exact List.eq_nil_of_length_eq_zero hle.symm)
  have hi : its.toArray.isEmpty = false := by
    cases its with
    | nil => exact absurd rfl hn
    | cons a b => rfl
  have hsz0 : its.toArray.size = xs.length := by rw [List.size_toArray, hle]
  have hm : ((its.toArray.size : Nat) : Int) * k ≤ 1000000 := by
    rw [hsz0]
    have a1 : ((xs.length : Nat) : Int) * k ≤ 1000 * k := Int.mul_le_mul_of_nonneg_right (by omega) (by omega)
    omega
  have flen : (List.replicate k.toNat its).flatten.length ≤ sizeLine := by
    rw [PyProof.Rows.lm_len_rep_flat, hle, sizeLine_eq]
    have a1 : k.toNat * xs.length ≤ 1000 * 1000 := Nat.mul_le_mul (by omega) hz
    omega
  have c0 : (decide (k < -(2 ^ 63)) || decide (k ≥ 2 ^ 63)) = false := by
    rw [decide_eq_false (by omega), decide_eq_false (by omega)] <;> rfl
  have c1 : (its.toArray.isEmpty || k == 1) = false := by
    rw [hi, Bool.false_or]
    exact beq_eq_false_iff_ne.mpr (by omega)
  have c2 : (decide (k ≤ 0) || its.toArray.isEmpty) = false := by
    rw [hi, Bool.or_false]
    exact decide_eq_false (by omega)
  have c4 : Builtin.Tuple.tupleTooMany (((its.toArray.size : Nat) : Int) * k) = false := by
    unfold Builtin.Tuple.tupleTooMany
    rw [sizeLine_eq]
    exact decide_eq_false (by omega)
  refine wpAny_binaryOp_repeat_ref (T := "tuple") (U := "int") (by decide) ⟨_, ho, rfl⟩ (fun s' => typeIs_int s' k t) noFill_tuple_mul F.fills_int_mul F.slot_int_rmul repeat_tuple F.slot_int_index.lookup
    (call_meets F.slot_int_rmul (typeIs_int s k t) F.entry_int_rmul (F.args_int_rmul_2 _ _) (int_rmul_tuple k t l its.toArray n dd sl)
      ⟨ho, rfl, ⟨_, ho, rfl⟩, call_meets F.slot_tuple_mul ⟨_, ho, rfl⟩ F.entry_tuple_mul (F.args_tuple_mul_2 _ _) (tuple_mulW l its.toArray n dd sl k t c0 c1 c2 (by omega) c4 (by rw [size_rep, List.size_toArray]; exact flen)) ⟨ho, ?_⟩⟩)
  rw [size_rep]
  refine ⟨.ref s.heap.objs.size, _, I.laid (t' := s.toks) (o := .frz { cls := .type "tuple", data := .seq (List.replicate k.toNat its).flatten.toArray } (.tup (List.replicate k.toNat xs).flatten)) (fun b ob q => Heap.get?_push_of_some _ q) (Nat.le_refl _) ?_, rfl, q _ _ (I.hok.fresh (Nat.le_refl _)) ⟨rfl, rfl⟩⟩
  exact ⟨Heap.get?_push_size _ rfl, by rw [PyProof.Rows.lm_len_rep_flat, sizeLine_eq]; have a1 : k.toNat * xs.length ≤ 1000 * 1000 := Nat.mul_le_mul (by omega) hz; omega, _, r.rep k.toNat, IsTup.new _ _⟩
theorem op_repP : OpR X (binaryOp .Mult) rRepP := by
  intro pins s σ H x y v u Q I rx ry h
  obtain ⟨l, k, xs, rfl, rfl, hT, h3, h4, h5, h6, h7, h8⟩ := h
  cases rx
  by_cases hk : k = 1
  · exact op_repTA pins s σ H (.ref l) (.int k) (.ref l) u Q I rfl ry ⟨l, k, xs, rfl, rfl, hT.sq, h3, h4, h5, h6, h7, fun z => absurd hk (by omega)⟩
  · exact op_repP2 I ry hT h3 (by omega) h5 h6 (h8 (by omega))
end
end Cc

/-! Mi: operators and built-ins, by data -/
namespace Mi
open PySem L2 Cc RZ
/-! numbers -/
def fI (g : Int → Int → D) : D → D → Option D
  | .int i, .int j => some (g i j)
  | _, _ => none
def fIc (c : Int → Int → Bool) (g : Int → Int → D) : D → D → Option D
  | .int i, .int j => if c i j then some (g i j) else none
  | _, _ => none
abbrev fAdd := fI fun i j => .int (i + j)
abbrev fSub := fI fun i j => .int (i - j)
def cMul (i j : Int) : Bool := (decide (-(2 ^ 64) < i) && decide (i < 2 ^ 64)) || (decide (-(2 ^ 64) < j) && decide (j < 2 ^ 64))
def cDiv (_ j : Int) : Bool := decide (0 < j) && decide (j < 1073741824)
def cMod (_ j : Int) : Bool := decide (0 < j)
def cPow (i j : Int) : Bool := decide (0 ≤ j) && decide (j ≤ 1000000) && decide (i.natAbs < 2 ^ 64)
abbrev fMul := fIc cMul fun i j => .int (i * j)
abbrev fDiv := fIc cDiv fun i j => .int (i / j)
abbrev fMod := fIc cMod fun i j => .int (i % j)
abbrev fPow := fIc cPow fun i j => .int (i ^ j.toNat)
abbrev fLt := fI fun i j => .bl (decide (i < j))
abbrev fLe := fI fun i j => .bl (decide (i ≤ j))
abbrev fGt := fI fun i j => .bl (decide (j < i))
abbrev fGe := fI fun i j => .bl (decide (j ≤ i))
section
variable {K : Fg} {W : Wd K}
theorem fI_some {g : Int → Int → D} {d e z : D} (h : fI g d e = some z) : ∃ i j, d = .int i ∧ e = .int j ∧ z = g i j := by
  unfold fI at h
  split at h
  · cases h; exact ⟨_, _, rfl, rfl, rfl⟩
  · cases h
theorem r2_I {g : Int → Int → Int} : R2M W (rI0 fun i j => .int (g i j)) (fI fun i j => .int (g i j)) := .of fun d e z h => by
  obtain ⟨i, j, rfl, rfl, rfl⟩ := fI_some h
  exact ⟨r_int, rfl, rfl⟩
theorem r2_B {g : Int → Int → Bool} : R2M W (rI0 fun i j => .bl (g i j)) (fI fun i j => .bl (g i j)) := .of fun d e z h => by
  obtain ⟨i, j, rfl, rfl, rfl⟩ := fI_some h
  exact ⟨r_intB, rfl, rfl⟩
theorem r2_C {C : Int → Int → Prop} {c : Int → Int → Bool} {g : Int → Int → Int} (hc : ∀ i j, c i j = true → C i j) : R2M W (rI C fun i j => .int (g i j)) (fIc c fun i j => .int (g i j)) := .of fun d e z h => by
  unfold fIc at h
  split at h
  · split at h
    · rename_i k; cases h; exact ⟨r_intC (hc _ _ k), rfl, rfl⟩
    · cases h
  · cases h
theorem r2_add : R2M W (rI0 fun i j => .int (i + j)) fAdd := r2_I
theorem r2_sub : R2M W (rI0 fun i j => .int (i - j)) fSub := r2_I
theorem r2_mul : R2M W (rI CMul fun i j => .int (i * j)) fMul := r2_C fun i j h => by simpa [cMul, CMul] using h
theorem r2_div : R2M W (rI CDiv fun i j => .int (i / j)) fDiv := r2_C fun i j h => by simpa [cDiv, CDiv] using h
theorem r2_mod : R2M W (rI (fun _ j => 0 < j) fun i j => .int (i % j)) fMod := r2_C fun i j h => by simpa [cMod] using h
theorem r2_pow : R2M W (rI CPow fun i j => .int (i ^ j.toNat)) fPow := r2_C fun i j h => by
  simp only [cPow, Bool.and_eq_true, decide_eq_true_eq] at h
  exact ⟨h.1.1, h.1.2, h.2⟩
def fNeg : D → Option D
  | .int i => some (.int (-i))
  | _ => none
theorem r1_neg : R1M W (rU fun i => .int (-i)) fNeg := .of fun d z h => by
  unfold fNeg at h
  split at h
  · cases h; exact ⟨r_neg, rfl, rfl⟩
  · cases h
/-! texts -/
def fS (g : Str → Str → D) : D → D → Option D
  | .str i, .str j => some (g i j)
  | _, _ => none
abbrev fLtS := fS fun i j => .bl (decide (i.cps.toList < j.cps.toList))
theorem r2_S {g : Str → Str → Bool} : R2M W (fun x y H Q => ∃ i j, x = .str i ∧ y = .str j ∧ Q (.bl (g i j)) H) (fS fun i j => .bl (g i j)) := .of fun d e z h => by
  unfold fS at h
  split at h
  · cases h
    exact ⟨fun x y H Q hx hy q => by cases hx; cases hy; exact ⟨_, _, rfl, rfl, q _ H (Same.refl _) (.bl _)⟩, rfl, rfl⟩
  · cases h
def fCatS : D → D → Option D
  | .str i, .str j => if i.length + j.length ≤ 100000 then some (.str (i ++ j)) else none
  | _, _ => none
theorem r2_catS : R2M W (fun x y H Q => ∃ i j, x = .str i ∧ y = .str j ∧ i.length + j.length ≤ sizeLine ∧ Q (.str (i ++ j)) H) fCatS := .of fun d e z h => by
  unfold fCatS at h
  split at h
  · split at h
    · rename_i k
      cases h
      exact ⟨fun x y H Q hx hy q => by cases hx; cases hy; exact ⟨_, _, rfl, rfl, by rw [sizeLine_eq]; omega, q _ H (Same.refl _) (.str _)⟩, rfl, rfl⟩
    · cases h
  · cases h
/-- the sign of a text of one sign -/
def sg1 (x : Str) : Option Nat := match x.cps.toList with
  | [c] => some c
  | _ => none
theorem sg1_some {x : Str} {c : Nat} (h : sg1 x = some c) : x = ⟨#[c]⟩ := by
  unfold sg1 at h
  split at h
  · rename_i e
    cases h
    cases x
    rename_i a
    have : a = #[c] := by
      apply Array.toList_inj.mp
      exact e
    rw [this]
  · cases h
def fInS (neg : Bool) : D → D → Option D
  | .str x, .str z => match sg1 x with
    | some c => some (.bl (if neg then !decide (c ∈ z.cps.toList) else decide (c ∈ z.cps.toList)))
    | none => none
  | _, _ => none
theorem r2_inS : R2M W (fun x y H Q => ∃ (c : Nat) (z : Str), x = .str ⟨#[c]⟩ ∧ y = .str z ∧ Q (.bl (decide (c ∈ z.cps.toList))) H) (fInS false) := .of fun d e z h => by
  unfold fInS at h
  split at h
  · split at h
    · rename_i c hc
      cases h
      rw [sg1_some hc]
      exact ⟨r_sign, rfl, rfl⟩
    · cases h
  · cases h
theorem r2_niS : R2M W (fun x y H Q => ∃ (c : Nat) (z : Str), x = .str ⟨#[c]⟩ ∧ y = .str z ∧ Q (.bl (!decide (c ∈ z.cps.toList))) H) (fInS true) := .of fun d e z h => by
  unfold fInS at h
  split at h
  · split at h
    · rename_i c hc
      cases h
      rw [sg1_some hc]
      exact ⟨fun x y H Q hx hy q => by cases hx; cases hy; exact ⟨_, _, rfl, rfl, q _ H (Same.refl _) (.bl _)⟩, rfl, rfl⟩
    · cases h
  · cases h
/-! ==, is None -/
def fEq (d e : D) : Option D := if d.pl && e.pl && d.shp && e.shp then some (.bl (d.eqv e)) else none
def fNe (d e : D) : Option D := if d.pl && e.pl && d.shp && e.shp then some (.bl (!d.eqv e)) else none
theorem r2_eq : R2M W (rEqD K) fEq := .of fun d e z h => by
  unfold fEq at h
  split at h
  · rename_i k
    simp only [Bool.and_eq_true] at k
    cases h
    exact ⟨r_eq k.1.1.1 k.1.1.2 k.1.2 k.2, rfl, rfl⟩
  · cases h
theorem r2_ne : R2M W (rNeD K) fNe := .of fun d e z h => by
  unfold fNe at h
  split at h
  · rename_i k
    simp only [Bool.and_eq_true] at k
    cases h
    exact ⟨r_ne k.1.1.1 k.1.1.2 k.1.2 k.2, rfl, rfl⟩
  · cases h
def isN : D → Bool
  | .non => true
  | _ => false
def fIsN : D → D → Option D
  | d, .non => some (.bl (isN d))
  | _, _ => none
def fNotN : D → D → Option D
  | d, .non => some (.bl (!isN d))
  | _, _ => none
theorem r2_isN : R2M W (fun x y H Q => y = .non ∧ Q (.bl (decide (x = .non))) H) fIsN := .of fun d e z h => by
  unfold fIsN at h
  split at h
  · cases h
    refine ⟨fun x y H Q hx hy q => r_isN (K := K) x y H Q hx hy fun v H2 e2 hv => q v H2 e2 ?_, rfl, rfl⟩
    cases d <;> exact hv
  · cases h
theorem r2_notN : R2M W (fun x y H Q => y = .non ∧ Q (.bl (!decide (x = .non))) H) fNotN := .of fun d e z h => by
  unfold fNotN at h
  split at h
  · cases h
    refine ⟨fun x y H Q hx hy q => r_notN (K := K) x y H Q hx hy fun v H2 e2 hv => q v H2 e2 ?_, rfl, rfl⟩
    cases d <;> exact hv
  · cases h
/-! in -/
def D.sc : D → Bool
  | .non => true
  | .bl _ => true
  | .int _ => true
  | .str _ => true
  | _ => false
def D.toV : D → V
  | .bl b => .bl b
  | .int i => .int i
  | .str x => .str x
  | _ => .non
theorem sc_v {H : Hp} {v : V} {d : D} (h : Dn K H v d) (k : Mi.D.sc d = true) : v = Mi.D.toV d ∧ flatV v = true := by
  cases h <;> first | exact ⟨rfl, rfl⟩ | cases k
theorem sc_vs {H : Hp} : ∀ {vs : List V} {ds : List D}, Dns K H vs ds → ds.all Mi.D.sc = true → vs = ds.map Mi.D.toV ∧ vs.all flatV = true
  | _, _, .nil, _ => ⟨rfl, rfl⟩
  | _, _, .cons h t, k => by
    simp only [List.all_cons, Bool.and_eq_true] at k
    obtain ⟨h1, h2⟩ := sc_v h k.1
    obtain ⟨t1, t2⟩ := sc_vs t k.2
    exact ⟨by rw [List.map_cons, ← h1, ← t1], by rw [List.all_cons, h2, t2]; rfl⟩
def items : D → Option (List D)
  | .lst ds => some ds
  | .tup ds => some ds
  | .ptup ds => some ds
  | _ => none
theorem items_some {H : Hp} {v : V} {d : D} {ds : List D} (h : Dn K H v d) (k : items d = some ds) : ∃ a xs, v = .ref a ∧ Dns K H xs ds ∧ (SqL K H a xs ∨ SqT K H a xs) := by
  cases h with
  | @lst a xs _ hs ha => cases k; exact ⟨a, xs, rfl, ha, .inl (SqL.of hs)⟩
  | @tup a xs _ hs ha => cases k; exact ⟨a, xs, rfl, ha, .inr hs⟩
  | @ptup a xs _ hs ha => cases k; exact ⟨a, xs, rfl, ha, .inr hs.sq⟩
  | _ => cases k
def fIn (neg : Bool) (d e : D) : Option D := match items e with
  | some ds => if Mi.D.sc d && ds.all Mi.D.sc then some (.bl (if neg then !inV (Mi.D.toV d) (ds.map Mi.D.toV) else inV (Mi.D.toV d) (ds.map Mi.D.toV))) else none
  | none => none
theorem r2_in {neg : Bool} : R2M W (rIn K neg) (fIn neg) := .of fun d e z h => by
  unfold fIn at h
  split at h
  · rename_i ds hi
    split at h
    · rename_i k
      simp only [Bool.and_eq_true] at k
      cases h
      refine ⟨fun x y H Q hx hy q => ?_, rfl, rfl⟩
      obtain ⟨a, xs, rfl, hd, hs⟩ := items_some hy hi
      obtain ⟨e1, f1⟩ := sc_v hx k.1
      obtain ⟨e2, f2⟩ := sc_vs hd k.2
      exact ⟨a, xs, rfl, hs, f1, f2, by rw [e1, e2]; exact q _ H (Same.refl _) (.bl _)⟩
    · cases h
  · cases h
/-! items, slices -/
def fIx : D → D → Option D
  | .lst ds, .int i => atI ds i
  | .tup ds, .int i => atI ds i
  | .ptup ds, .int i => atI ds i
  | .str w, .int i => if w.length ≤ 100000 then (match atI w.cps.toList i with
    | some c => some (.str ⟨#[c]⟩)
    | none => none) else none
  | _, _ => none
theorem at_dns {H : Hp} {xs : List V} {ds : List D} {i : Int} {z : D} (ha : Dns K H xs ds) (h : atI ds i = some z) : ∃ v, atI xs i = some v ∧ Dn K H v z := by
  have hl := ha.length
  unfold atI at h ⊢
  rw [hl]
  cases hj : ixN ds.length i with
  | none => rw [hj] at h; cases h
  | some j =>
    rw [hj] at h
    exact ha.getD (i := j) h
def fIxL : D → D → Option D
  | .lst ds, .int i => atI ds i
  | _, _ => none
def fIxT : D → D → Option D
  | .tup ds, .int i => atI ds i
  | .ptup ds, .int i => atI ds i
  | _, _ => none
theorem r2_ixL : R2M W (rIxL K) fIxL := fun Y H x y d e z Q o hx hy h q => by
  unfold fIxL at h
  split at h
  · cases hy
    cases hx with
    | @lst a xs _ hs ha =>
      obtain ⟨v, h1, h2⟩ := at_dns ha h
      exact ⟨a, xs, _, v, rfl, rfl, SqL.of (mask_le _ _ hs), h1, q v H (.refl o.1) h2⟩
  · cases h
theorem r2_ixT : R2M W (rIxT K) fIxT := fun Y H x y d e z Q o hx hy h q => by
  unfold fIxT at h
  split at h
  · cases hy
    cases hx with
    | @tup a xs _ hs ha =>
      obtain ⟨v, h1, h2⟩ := at_dns ha h
      exact ⟨a, xs, _, v, rfl, rfl, same_t mask_le hs, h1, q v H (.refl o.1) h2⟩
  · cases hy
    cases hx with
    | @ptup a xs _ hs ha =>
      obtain ⟨v, h1, h2⟩ := at_dns ha h
      exact ⟨a, xs, _, v, rfl, rfl, same_t mask_le hs.sq, h1, q v H (.refl o.1) h2⟩
  · cases h
theorem r2_ix : R2M W (rIx K) fIx := fun Y H x y d e z Q o hx hy h q => by
  unfold fIx at h
  split at h
  · exact .inl (r2_ixL Y H x y _ _ z Q o hx hy h q)
  · exact .inr (.inl (r2_ixT Y H x y _ _ z Q o hx hy h q))
  · exact .inr (.inl (r2_ixT Y H x y _ _ z Q o hx hy h q))
  · cases hy; cases hx
    split at h
    · rename_i hl
      split at h
      · rename_i c hc
        cases h
        exact .inr (.inr ⟨_, _, c, rfl, rfl, by rw [sizeLine_eq]; omega, hc, q _ H (.refl o.1) (.str _)⟩)
      · cases h
    · cases h
  · cases h
/-- lists and tuples put together -/
def fCatL : D → D → Option (List D)
  | .lst ds, .lst es => if ds.length + es.length ≤ 100000 then some (ds ++ es) else none
  | _, _ => none
theorem r2_catL : R2N W rCat fCatL := fun Y H x y d e z Q o hx hy h q => by
  unfold fCatL at h
  split at h
  · split at h
    · rename_i hl
      cases h
      cases hx with
      | @lst a xs _ hs ha =>
        cases hy with
        | @lst b ys _ hs2 hb =>
          have l1 := ha.length
          have l2 := hb.length
          exact ⟨a, b, xs, ys, rfl, rfl, mask_le _ _ hs, mask_le _ _ hs2, by rw [sizeLine_eq]; omega, fun p hp => q p _ _ (.of o.1 (Same.new hp)) hp upd_same (Dms.fresh (ha.app hb) o hp)⟩
    · cases h
  · cases h
def fCatT : D → D → Option D
  | .ptup ds, .ptup es => if ds.length + es.length ≤ 100000 then some (.ptup (ds ++ es)) else none
  | _, _ => none
theorem plT_le {Y : Addr → Bool} {H : Hp} {a : Addr} {xs : List V} (h : PlT (mask W Y H) a xs) : PlT H a xs := by
  obtain ⟨o, h1, h2⟩ := h
  exact ⟨o, h1, mask_le _ _ h2⟩
theorem new_pt {Y : Addr → Bool} {H : Hp} {p : Addr} {ob : Obj} {xs : List V} {ds : List D} (o : Ok W Y H) (hp : H p = none) (ho : PlO ob) (h : Dms W Y H xs ds) : Dm W Y (upd H p (.frz ob (.tup xs))) (.ref p) (.ptup ds) := .ptup ⟨ob, ho, mask_at upd_same (o.fresh hp) fun _ _ _ z => nomatch z⟩ (h.up o (.of o.1 (Same.new hp)))
theorem r2_catT : R2M W rCatP fCatT := fun Y H x y d e z Q o hx hy h q => by
  unfold fCatT at h
  split at h
  · split at h
    · rename_i hl
      cases h
      cases hx with
      | @ptup a xs ds hs ha =>
        cases hy with
        | @ptup b ys es hs2 hb =>
          have l1 := ha.length
          have l2 := hb.length
          refine ⟨a, b, xs, ys, rfl, rfl, plT_le hs, plT_le hs2, by rw [sizeLine_eq]; omega, fun e => ?_, fun _ e => ?_, fun _ _ p ob hp ho => q _ _ (.of o.1 (Same.new hp)) (new_pt o hp ho (ha.app hb))⟩
          · subst e
            cases ha
            exact q _ H (.refl o.1) (.ptup hs2 hb)
          · subst e
            cases hb
            rw [List.append_nil] at q
            exact q _ H (.refl o.1) (.ptup hs ha)
    · cases h
  · cases h
def fRepL : D → D → Option (List D)
  | .lst ds, .int k => if 0 ≤ k ∧ k ≤ 1000 ∧ ds.length ≤ 100 then some (List.replicate k.toNat ds).flatten else none
  | _, _ => none
theorem r2_repL : R2N W rRep fRepL := fun Y H x y d e z Q o hx hy h q => by
  unfold fRepL at h
  split at h
  · split at h
    · rename_i hl
      cases h
      cases hy
      cases hx with
      | @lst a xs ds hs ha =>
        have l1 := ha.length
        refine ⟨a, _, xs, rfl, rfl, mask_le _ _ hs, by omega, by omega, ?_, fun p hp => q p _ _ (.of o.1 (Same.new hp)) hp upd_same (Dms.fresh (Dns.rep ha _) o hp)⟩
        have : xs.length * Int.toNat ‹Int› ≤ 100 * 1000 := Nat.mul_le_mul (by omega) (by omega)
        rw [sizeLine_eq]; omega
    · cases h
  · cases h
def fRepT : D → D → Option D
  | .ptup ds, .int k => if ds ≠ [] ∧ 1 ≤ k ∧ k ≤ 1000 ∧ ds.length ≤ 1000 then some (.ptup (List.replicate k.toNat ds).flatten) else none
  | _, _ => none
theorem r2_repT : R2M W rRepP fRepT := fun Y H x y d e z Q o hx hy h q => by
  unfold fRepT at h
  split at h
  · split at h
    · rename_i hl
      cases h
      cases hy
      cases hx with
      | @ptup a xs ds hs ha =>
        have l1 := ha.length
        refine ⟨a, _, xs, rfl, rfl, plT_le hs, fun z => ?_, hl.2.1, hl.2.2.1, by omega, fun h => ?_, fun _ p ob hp ho => q _ _ (.of o.1 (Same.new hp)) (new_pt o hp ho (Dns.rep ha _))⟩
        · subst z
          cases ha
          exact hl.1 rfl
        · subst h
          simp only [show (1 : Int).toNat = 1 from rfl, List.replicate_succ, List.replicate_zero, List.flatten_cons, List.flatten_nil, List.append_nil] at q
          exact q _ H (.refl o.1) (.ptup hs ha)
    · cases h
  · cases h
end
end Mi

/-! Mi: built-ins, slices, what is walked -/
namespace Mi
open PySem L2 Cc RZ
section
variable {K : Fg} {W : Wd K} {E : XK}
/-! built-ins that hand back plain values -/
def lenD : D → Option Nat
  | .lst ds => some ds.length
  | .tup ds => some ds.length
  | .ptup ds => some ds.length
  | .str x => some x.length
  | _ => none
def fLen : List D → Option D
  | [d] => match lenD d with
    | some n => if n ≤ 100000 then some (.int (n : Nat)) else none
    | none => none
  | _ => none
theorem rc_len : RCM W (Cc.rLen K) fLen := .of fun ds z h => by
  unfold fLen at h
  split at h
  · rename_i d
    split at h
    · rename_i n hn
      split at h
      · rename_i hz
        cases h
        refine ⟨fun vs H Q hv q => ?_, rfl, rfl⟩
        obtain ⟨v, rfl, hw⟩ := hv.un1
        refine ⟨v, n, rfl, ?_, q _ H (Same.refl _) (.int _)⟩
        cases hw with
        | str x => cases hn; exact ⟨by rw [sizeLine_eq]; omega, rfl⟩
        | lst hs ha => cases hn; exact .inl ⟨_, SqL.of hs, ha.length.symm⟩
        | tup hs ha => cases hn; exact .inr ⟨_, hs, ha.length.symm⟩
        | ptup hs ha => cases hn; exact .inr ⟨_, hs.sq, ha.length.symm⟩
        | _ => cases hn
      · cases h
    · cases h
  · cases h
def intsO : List D → Option (List Int)
  | [] => some []
  | .int i :: ds => match intsO ds with
    | some ns => some (i :: ns)
    | none => none
  | _ => none
theorem intsO_some : ∀ {ds : List D} {ns : List Int}, intsO ds = some ns → ds = ns.map D.int
  | [], ns, h => by cases h; rfl
  | d :: ds, ns, h => by
    unfold intsO at h
    split at h
    · rename_i e; cases e
    · rename_i i ds' e
      cases e
      split at h
      · rename_i ms hm
        cases h
        rw [intsO_some hm]; rfl
      · cases h
    · cases h
theorem intsO_map (ns : List Int) : intsO (ns.map D.int) = some ns := by
  induction ns with
  | nil => rfl
  | cons n ns ih => simp [intsO, ih]
def blsO : List D → Option (List Bool)
  | [] => some []
  | .bl i :: ds => match blsO ds with
    | some ns => some (i :: ns)
    | none => none
  | _ => none
theorem blsO_some : ∀ {ds : List D} {ns : List Bool}, blsO ds = some ns → ds = ns.map D.bl
  | [], ns, h => by cases h; rfl
  | d :: ds, ns, h => by
    unfold blsO at h
    split at h
    · rename_i e; cases e
    · rename_i i ds' e
      cases e
      split at h
      · rename_i ms hm
        cases h
        rw [blsO_some hm]; rfl
      · cases h
    · cases h
theorem blsO_map (ns : List Bool) : blsO (ns.map D.bl) = some ns := by
  induction ns with
  | nil => rfl
  | cons n ns ih => simp [blsO, ih]
def fSum : List D → Option D
  | [.lst ds] => match intsO ds with
    | some ns => some (.int ns.sum)
    | none => none
  | _ => none
theorem rc_sum : RCM W (rSum K) fSum := .of fun ds z h => by
  unfold fSum at h
  split at h
  · split at h
    · rename_i ns hn
      cases h
      rw [intsO_some hn]
      exact ⟨Cc.rc_sum, rfl, rfl⟩
    · cases h
  · cases h
def fAll : List D → Option D
  | [.lst ds] => match blsO ds with
    | some ns => some (.bl (ns.all id))
    | none => none
  | _ => none
theorem rc_all : RCM W (rAll K) fAll := .of fun ds z h => by
  unfold fAll at h
  split at h
  · split at h
    · rename_i ns hn
      cases h
      rw [blsO_some hn]
      exact ⟨Cc.rc_all, rfl, rfl⟩
    · cases h
  · cases h
def fAny : List D → Option D
  | [.lst ds] => match blsO ds with
    | some ns => some (.bl (ns.any id))
    | none => none
  | _ => none
theorem rc_any : RCM W (rAny K) fAny := .of fun ds z h => by
  unfold fAny at h
  split at h
  · split at h
    · rename_i ns hn
      cases h
      rw [blsO_some hn]
      exact ⟨Cc.rc_any, rfl, rfl⟩
    · cases h
  · cases h
def fI2 (g : Int → Int → Int) : List D → Option D
  | [.int i, .int j] => some (.int (g i j))
  | _ => none
abbrev fMin2 := fI2 min
abbrev fMax2 := fI2 max
theorem rc_min2 : RCM W (fun xs H Q => ∃ i j, xs = [.int i, .int j] ∧ Q (.int (if j < i then j else i)) H) fMin2 := .of fun ds z h => by
  unfold fMin2 fI2 at h
  split at h
  · cases h; exact ⟨Cc.rc_min2, rfl, rfl⟩
  · cases h
theorem rc_max2 : RCM W (fun xs H Q => ∃ i j, xs = [.int i, .int j] ∧ Q (.int (if j > i then j else i)) H) fMax2 := .of fun ds z h => by
  unfold fMax2 fI2 at h
  split at h
  · cases h; exact ⟨Cc.rc_max2, rfl, rfl⟩
  · cases h
def fInt : List D → Option D
  | [.int i] => some (.int i)
  | [.bl b] => some (.int (if b then 1 else 0))
  | _ => none
theorem rc_int : RCM W (fun xs H Q => (∃ i, xs = [.int i] ∧ Q (.int i) H) ∨ ∃ k, xs = [.bl k] ∧ Q (.int (if k then 1 else 0)) H) fInt := .of fun ds z h => by
  unfold fInt at h
  split at h
  · cases h; exact ⟨Cc.rc_int, rfl, rfl⟩
  · cases h; exact ⟨Cc.rc_intB, rfl, rfl⟩
  · cases h
def fDivmod : List D → Option D
  | [.int i, .int j] => if 0 < j ∧ j < 1073741824 then some (.tup [.int (i / j), .int (i % j)]) else none
  | _ => none
theorem rc_divmod : RCM W (fun xs H Q => ∃ i j, xs = [.int i, .int j] ∧ CDiv i j ∧ ∀ p, H p = none → Q (.ref p) (upd H p (.tup [.int (i / j), .int (i % j)]))) fDivmod := .of fun ds z h => by
  unfold fDivmod at h
  split at h
  · split at h
    · rename_i k; cases h; exact ⟨Cc.rc_divmod k, rfl, rfl⟩
    · cases h
  · cases h
/-- isinstance of a built-in class -/
def mIsT (n : String) (a : Env → M D) : Env → M D := fun ρ => (a ρ).bind fun d => if d.noob then .ret (.bl (d.isT n)) else .bad
theorem ge_isT {te : TE} {a : Env → M D} {n : String} (ha : GE W E te a) (hn : n = "int" ∨ n = "bool" ∨ n = "str" ∨ n = "list" ∨ n = "tuple" := by decide) : GE W E (tCB (rIsi K) (tCons te (tCons (tC (.ty n)) tNil))) (mIsT n a) := fun Y σ H ρ Q o e w =>
  ha.seq o e w (fun _ _ h => h) fun d x H1 e1 o1 r1 hx w1 => by
    split at w1
    · rename_i k
      exact ⟨x, .ty n, .type d.ty, .type n, _, rfl, .ty n, tyx_of k (Dm.un hx), kit_ty (kit_isT k n hn), w1 _ H1 e1 (.bl _)⟩
    · exact w1.elim
/-! tuple(..), list(..), slices, ranges -/
def fTup : List D → Option D
  | [.lst ds] => some (.ptup ds)
  | [.ptup ds] => some (.ptup ds)
  | _ => none
theorem rc_tup : RCM W (rTupP K) fTup := fun Y H vs ds z Q o hv h q => by
  unfold fTup at h
  split at h
  · cases h
    obtain ⟨v, rfl, hw⟩ := hv.un1
    cases hw with
    | @lst a xs _ hs ha => exact ⟨a, xs, rfl, .inl ⟨SqL.of (mask_le _ _ hs), fun l ob hl ho => q _ _ (.of o.1 (Same.new hl)) (new_pt o hl ho ha)⟩⟩
  · cases h
    obtain ⟨v, rfl, hw⟩ := hv.un1
    cases hw with
    | @ptup a xs _ hs ha => exact ⟨a, xs, rfl, .inr ⟨plT_le hs, q _ H (.refl o.1) (.ptup hs ha)⟩⟩
  · cases h
def fList : List D → Option (List D)
  | [d] => items d
  | _ => none
theorem rc_list : RCN W (rLst K) fList := fun Y H vs ds z Q o hv h q => by
  unfold fList at h
  split at h
  · obtain ⟨v, rfl, hw⟩ := hv.un1
    obtain ⟨a, xs, rfl, ha, hs⟩ := items_some hw h
    exact ⟨a, xs, rfl, hs.imp (fun h => same_l mask_le h) (fun h => same_t mask_le h), fun l hl => q l xs _ (.of o.1 (Same.new hl)) hl upd_same (Dms.fresh ha o hl)⟩
  · cases h
def cutL (ds : List D) (lo hi : Option Int) : List D := cutD ds lo hi
def mSlT (a : Env → M D) (lo hi : Env → M (Option Int)) : Env → M D := fun ρ => (a ρ).bind fun d => (lo ρ).bind fun l => (hi ρ).bind fun u => match d with
  | .ptup ds => .ret (.ptup (cutD ds l u))
  | _ => .bad
def mSlL (a : Env → M D) (lo hi : Env → M (Option Int)) : Env → M (List D) := fun ρ => (a ρ).bind fun d => (lo ρ).bind fun l => (hi ρ).bind fun u => match d with
  | .lst ds => .ret (cutD ds l u)
  | _ => .bad
theorem GO.seq {α : Type} {to : TO} {m : Env → M (Option Int)} {Y : Addr → Bool} {σ : L2.St} {H : Hp} {ρ : Env} {f : Option Int → M α} {R : α → Prop} {Er : Str → List D → Prop} {Q : Option Int → Hp → Prop} (h : GO W E to m) (o : Ok W Y H) (e : EnvR W (mask W Y H) σ ρ) (w : ((m ρ).bind f).wp R Er) (hE : ∀ c p, Er c p → ErrP W E H c p)
    (k : ∀ b H1, Ext W H H1 → Ok W Y H1 → EnvR W (mask W Y H1) σ ρ → (f b).wp R Er → Q b H1) : to σ H Q :=
  h Y σ H ρ Q o e (M.wp_mono (fun b hd H1 e1 => k b H1 e1 (o.ext e1) (e.up o e1) hd) hE _ ((M.wp_bind _).mp w))
theorem ge_slT {te : TE} {tl th : TO} {a : Env → M D} {lo hi : Env → M (Option Int)} (ha : GE W E te a) (hl : GO W E tl lo) (hh : GO W E th hi) : GE W E (tSl rSlP te tl th) (mSlT a lo hi) := fun Y σ H ρ Q o e w =>
  ha.seq o e w (fun _ _ h => h) fun d x H1 e1 o1 r1 hx w1 => hl.seq (Er := ErrP W E H) o1 r1 w1 (fun _ _ h => h.up e1) fun l H2 e2 o2 r2 w2 => hh.seq (Er := ErrP W E H) o2 r2 w2 (fun _ _ h => h.up (e1.trans e2)) fun u H3 e3 o3 r3 w3 => by
    have e13 := (e1.trans e2).trans e3
    have hx3 := (hx.up o1 e2).up o2 e3
    cases hx3 with
    | @ptup a xs ds hs hd =>
      refine ⟨a, xs, rfl, plT_le hs, fun hw => ?_, fun _ p ob hp ho => w3 _ _ (e13.trans (.of o3.1 (Same.new hp))) (new_pt o3 hp ho (cut_dns hd l u))⟩
      have he : cutD ds l u = ds := by
        unfold cutD
        rw [hd.length] at hw
        rw [hw.1, hw.2, List.drop_zero, Nat.sub_zero, List.take_length]
      have w3' : RetP W Y H Q (.ptup (cutD ds l u)) := w3
      rw [he] at w3'
      exact w3' _ H3 e13 (.ptup hs hd)
    | _ => exact w3.elim
theorem gn_slL {te : TE} {tl th : TO} {a : Env → M D} {lo hi : Env → M (Option Int)} (ha : GE W E te a) (hl : GO W E tl lo) (hh : GO W E th hi) : GN W E (tSl (rSlL K) te tl th) (mSlL a lo hi) := fun Y σ H ρ Q o e w =>
  ha.seq o e w (fun _ _ h => h) fun d x H1 e1 o1 r1 hx w1 => hl.seq (Er := ErrP W E H) o1 r1 w1 (fun _ _ h => h.up e1) fun l H2 e2 o2 r2 w2 => hh.seq (Er := ErrP W E H) o2 r2 w2 (fun _ _ h => h.up (e1.trans e2)) fun u H3 e3 o3 r3 w3 => by
    have e13 := (e1.trans e2).trans e3
    have hx3 := (hx.up o1 e2).up o2 e3
    cases hx3 with
    | @lst a xs ds hs hd => exact ⟨a, xs, rfl, SqL.of (mask_le _ _ hs), fun p hp => w3 p _ _ (e13.trans (.of o3.1 (Same.new hp))) (e13.free o.1 hp) upd_same (Dms.fresh (cut_dns hd l u) o3 hp)⟩
    | _ => exact w3.elim
def mSlS (a : Env → M D) (lo hi : Env → M (Option Int)) : Env → M D := fun ρ => (a ρ).bind fun d => (lo ρ).bind fun l => (hi ρ).bind fun u => match d with
  | .str z => if z.length ≤ 100000 then .ret (.str (cutS z l u)) else .bad
  | _ => .bad
theorem ge_slS {te : TE} {tl th : TO} {a : Env → M D} {lo hi : Env → M (Option Int)} (ha : GE W E te a) (hl : GO W E tl lo) (hh : GO W E th hi) : GE W E (tSl rSlS te tl th) (mSlS a lo hi) := fun Y σ H ρ Q o e w =>
  ha.seq o e w (fun _ _ h => h) fun d x H1 e1 o1 r1 hx w1 => hl.seq (Er := ErrP W E H) o1 r1 w1 (fun _ _ h => h.up e1) fun l H2 e2 o2 r2 w2 => hh.seq (Er := ErrP W E H) o2 r2 w2 (fun _ _ h => h.up (e1.trans e2)) fun u H3 e3 o3 r3 w3 => by
    have e13 := (e1.trans e2).trans e3
    cases hx with
    | str z =>
      dsimp only at w3
      split at w3
      · exact ⟨z, rfl, by rw [sizeLine_eq]; omega, w3 _ H3 e13 (.str _)⟩
      · exact w3.elim
    | _ => exact w3.elim
def rgD (lo hi : Int) : List D := (List.range (hi - lo).toNat).map fun k => .int (lo + (k : Nat))
def rgOk (i j : Int) : Bool := decide (-1000000 ≤ i) && decide (i ≤ 1000000) && decide (-1000000 ≤ j) && decide (j ≤ 1000000)
theorem rg_ok {i j : Int} (h : rgOk i j = true) : RgOk i j := by
  simp only [rgOk, Bool.and_eq_true, decide_eq_true_eq] at h
  unfold RgOk
  omega
def rg1 (a : Env → M D) : Env → M (List D) := fun ρ => (a ρ).bind fun d => match d with
  | .int i => if rgOk 0 i then .ret (rgD 0 i) else .bad
  | _ => .bad
def rg2 (a b : Env → M D) : Env → M (List D) := fun ρ => (a ρ).bind fun d => (b ρ).bind fun e => match d, e with
  | .int i, .int j => if rgOk i j then .ret (rgD i j) else .bad
  | _, _ => .bad
def mPt (mi : Env → M (List D)) : Env → M D := fun ρ => (mi ρ).bind fun ds => .ret (.ptup ds)
theorem rgV_dns {H : Hp} (i j : Int) : Dns K H (rgV i j) (rgD i j) := Dns.of (fun k => .int _) _
theorem ge_tupRg2 {ta tb : TE} {a b : Env → M D} (ha : GE W E ta a) (hb : GE W E tb b) : GE W E (tTupRgP (tRg2 ta tb)) (mPt (rg2 a b)) := fun Y σ H ρ Q o e w => by
  unfold mPt rg2 at w
  rw [M.bind_assoc] at w
  refine ha.seq o e w (fun _ _ h => h) fun d x H1 e1 o1 r1 hx w1 => ?_
  rw [M.bind_assoc] at w1
  refine hb.seq (Er := ErrP W E H) o1 r1 w1 (fun _ _ h => h.up e1) fun d2 y H2 e2 o2 r2 hy w2 => ?_
  cases hx with
  | int i =>
    cases hy with
    | int j =>
      dsimp only at w2
      split at w2
      · rename_i k
        exact ⟨i, j, rfl, rfl, rg_ok k, fun p ob hp ho => w2 _ _ ((e1.trans e2).trans (.of o2.1 (Same.new hp))) (new_pt o2 hp ho (rgV_dns i j))⟩
      · exact w2.elim
    | _ => exact w2.elim
  | _ => exact w2.elim
theorem ge_tupRg1 {ta : TE} {a : Env → M D} (ha : GE W E ta a) : GE W E (tTupRgP (tRg1 ta)) (mPt (rg1 a)) := fun Y σ H ρ Q o e w => by
  unfold mPt rg1 at w
  rw [M.bind_assoc] at w
  refine ha.seq o e w (fun _ _ h => h) fun d x H1 e1 o1 r1 hx w1 => ?_
  cases hx with
  | int i =>
    dsimp only at w1
    split at w1
    · rename_i k
      exact ⟨i, rfl, rg_ok k, fun p ob hp ho => w1 _ _ (e1.trans (.of o1.1 (Same.new hp))) (new_pt o1 hp ho (rgV_dns 0 i))⟩
    · exact w1.elim
  | _ => exact w1.elim
theorem gn_lstRg1 {ta : TE} {a : Env → M D} (ha : GE W E ta a) : GN W E (tLstRg (tRg1 ta)) (rg1 a) := fun Y σ H ρ Q o e w => by
  refine ha.seq o e w (fun _ _ h => h) fun d x H1 e1 o1 r1 hx w1 => ?_
  cases hx with
  | int i =>
    dsimp only at w1
    split at w1
    · rename_i k
      exact ⟨i, rfl, rg_ok k, fun p hp => w1 p _ _ (e1.trans (.of o1.1 (Same.new hp))) (e1.free o.1 hp) upd_same (Dms.fresh (rgV_dns 0 i) o1 hp)⟩
    · exact w1.elim
  | _ => exact w1.elim
/-! what is walked -/
theorem gr_range1 {ta : TA} {a : Env → M D} {te : TE} (ha : GE W E te a) (hta : ta = tCons te tNil := by rfl) : GR W E (iRng1 ta) (rg1 a) := fun Y σ H ρ R o e w => by
  subst hta
  refine ha.seq o e w (fun _ _ h => h) fun d x H1 e1 o1 r1 hx w1 => ?_
  cases hx with
  | int i =>
    dsimp only at w1
    split at w1
    · rename_i k
      simp only [rgOk, Bool.and_eq_true, decide_eq_true_eq] at k
      refine ⟨i, rfl, by omega, by omega, w1 0 i.toNat H1 e1 ?_⟩
      simp [rgD]
    · exact w1.elim
  | _ => exact w1.elim
theorem gr_range2 {ta tb : TE} {a b : Env → M D} (ha : GE W E ta a) (hb : GE W E tb b) : GR W E (iRng2 (tCons ta (tCons tb tNil))) (rg2 a b) := fun Y σ H ρ R o e w => by
  refine ha.seq o e w (fun _ _ h => h) fun d x H1 e1 o1 r1 hx w1 => ?_
  refine hb.seq (Er := ErrP W E H) o1 r1 w1 (fun _ _ h => h.up e1) fun d2 y H2 e2 o2 r2 hy w2 => ?_
  cases hx with
  | int i =>
    cases hy with
    | int j =>
      dsimp only at w2
      split at w2
      · rename_i k
        simp only [rgOk, Bool.and_eq_true, decide_eq_true_eq] at k
        exact ⟨i, j, rfl, by omega, w2 i (j - i).toNat H2 (e1.trans e2) rfl⟩
      · exact w2.elim
    | _ => exact w2.elim
  | _ => exact w2.elim
theorem gi_range1 {te : TE} {a : Env → M D} (ha : GE W E te a) : GI W E (iRng1 (tCons te tNil)) (rg1 a) := fun Y σ H ρ R o e w => by
  refine gr_range1 ha rfl Y σ H ρ R o e (M.wp_mono (fun ds hd lo n H2 e2 he => ?_) (fun _ _ h => h) _ w)
  subst he
  refine hd (Itr lo n) (fun _ => True) (YFn fun i => .int (lo + i)) H2 e2 (by simpa using walk_range (lo := lo) (n := n)) (fun _ _ => trivial) fun i Ha x Hb Y' hi _ _ _ y => ?_
  obtain ⟨e', y⟩ := y
  subst e' y
  have hin : i < n := by simpa using hi
  exact ⟨.refl _, .int (lo + (i : Nat)), by simp [hin], .int _⟩
theorem gi_range2 {ta tb : TE} {a b : Env → M D} (ha : GE W E ta a) (hb : GE W E tb b) : GI W E (iRng2 (tCons ta (tCons tb tNil))) (rg2 a b) := fun Y σ H ρ R o e w => by
  refine gr_range2 ha hb Y σ H ρ R o e (M.wp_mono (fun ds hd lo n H2 e2 he => ?_) (fun _ _ h => h) _ w)
  subst he
  refine hd (Itr lo n) (fun _ => True) (YFn fun i => .int (lo + i)) H2 e2 (by simpa using walk_range (lo := lo) (n := n)) (fun _ _ => trivial) fun i Ha x Hb Y' hi _ _ _ y => ?_
  obtain ⟨e', y⟩ := y
  subst e' y
  have hin : i < n := by simpa using hi
  exact ⟨.refl _, .int (lo + (i : Nat)), by simp [hin], .int _⟩
/-- the items of a list, of a tuple -/
def iL (a : Env → M D) : Env → M (List D) := fun ρ => (a ρ).bind fun d => match d with
  | .lst ds => .ret ds
  | _ => .bad
def iT (a : Env → M D) : Env → M (List D) := fun ρ => (a ρ).bind fun d => match d with
  | .tup ds => .ret ds
  | .ptup ds => .ret ds
  | _ => .bad
def iS (a : Env → M D) : Env → M (List D) := fun ρ => (a ρ).bind fun d => match d with
  | .str x => .ret (signs x)
  | _ => .bad
theorem sqL_st {Y : Addr → Bool} {H H' : Hp} {a : Addr} {xs : List V} (h : mask W Y H a = some (.lst xs)) (s : St Y H H') : SqL K H' a xs := by
  have hy : Y a = false := by
    cases z : Y a with
    | false => rfl
    | true => unfold mask at h; rw [if_pos z] at h; cases h
  exact SqL.of (s a _ (mask_le _ _ h) hy)
theorem sqT_st {Y : Addr → Bool} {H H' : Hp} {a : Addr} {xs : List V} (h : SqT K (mask W Y H) a xs) (s : St Y H H') : SqT K H' a xs := same_t ((mask_st (W := W) s).trans mask_le) h
theorem gi_list {te : TE} {a : Env → M D} (ha : GE W E te a) : GI W E (iList K te) (iL a) := fun Y σ H ρ R o e w =>
  ha.seq o e w (fun _ _ h => h) fun d x H1 e1 o1 r1 hx w1 => by
    cases hx with
    | @lst a xs ds hs hd =>
      refine ⟨a, rfl, ⟨xs, SqL.of (mask_le _ _ hs)⟩, w1 _ (fun H' => SqL K H' a xs) (YAt xs) H1 e1 (by rw [← hd.length]; exact walk_list) (fun H' s => sqL_st hs s) fun i Ha x Hb Y' hi s oY hf y => ?_⟩
      obtain ⟨e', y⟩ := y
      subst e'
      obtain ⟨d, h1, h2⟩ := hd.get y
      exact ⟨.refl _, d, h1, h2.up (mask_go s hf)⟩
    | _ => exact w1.elim
theorem gi_tup {te : TE} {a : Env → M D} (ha : GE W E te a) : GI W E (iTup K te) (iT a) := fun Y σ H ρ R o e w =>
  ha.seq o e w (fun _ _ h => h) fun d x H1 e1 o1 r1 hx w1 => by
    have go : ∀ {a : Addr} {xs : List V} {ds : List D}, SqT K (mask W Y H1) a xs → Dms W Y H1 xs ds → RetIt W Y H R ds → ∃ a', V.ref a = .ref a' ∧ (∃ xs, SqT K H1 a' xs) ∧ R (Itt K a') H1 := fun {a xs ds} hs hd w1 => by
      refine ⟨a, rfl, ⟨xs, same_t mask_le hs⟩, w1 _ (fun H' => SqT K H' a xs) (YAt xs) H1 e1 (by rw [← hd.length]; exact walk_tup) (fun H' s => sqT_st hs s) fun i Ha x Hb Y' hi s oY hf y => ?_⟩
      obtain ⟨e', y⟩ := y
      subst e'
      obtain ⟨d, h1, h2⟩ := hd.get y
      exact ⟨.refl _, d, h1, Dn.up h2 (mask_go s hf)⟩
    cases hx with
    | tup hs hd => exact go hs hd w1
    | ptup hs hd => exact go hs.sq hd w1
    | _ => exact w1.elim
theorem gi_str {te : TE} {a : Env → M D} (ha : GE W E te a) : GI W E (iStr te) (iS a) := fun Y σ H ρ R o e w =>
  ha.seq o e w (fun _ _ h => h) fun d x H1 e1 o1 r1 hx w1 => by
    cases hx with
    | str z =>
      refine ⟨z, rfl, w1 _ _ _ H1 e1 (by simpa [signs] using walk_str (z := z)) (fun _ _ => trivial) fun i Ha w Hb Y' hi s oY hf y => ?_⟩
      obtain ⟨e', c, hc, hw⟩ := y
      subst e' hw
      refine ⟨.refl _, .str ⟨#[c]⟩, ?_, .str _⟩
      unfold signs
      rw [List.getElem?_map, Array.getElem?_toList, hc]
      rfl
    | _ => exact w1.elim
/-- pairs of a number and an item -/
def enD (ds : List D) : List D := (List.range ds.length).map fun i => D.tup [.int (i : Nat), ds.getD i .non]
def iEnT (a : Env → M D) : Env → M (List D) := fun ρ => (a ρ).bind fun d => match d with
  | .tup ds => .ret (enD ds)
  | .ptup ds => .ret (enD ds)
  | _ => .bad
theorem pair_new {Y' : Addr → Bool} {Ha : Hp} {T : Addr} {x y : V} {d e : D} (oY : Ok W Y' Ha) (hT : Ha T = none) (hx : Dm W Y' Ha x d) (hy : Dm W Y' Ha y e) : Dm W Y' (upd Ha T (.tup [x, y])) (.ref T) (.tup [d, e]) := by
  have ex : Ext W Ha (upd Ha T (.tup [x, y])) := .of oY.1 (Same.new hT)
  exact .tup (.inl (.inl (mask_at upd_same (oY.fresh hT) fun _ _ _ z => nomatch z))) (.cons (hx.up oY ex) (.cons (hy.up oY ex) .nil))
theorem gi_enT {te : TE} {a : Env → M D} (ha : GE W E te a) : GI W E (CcE.iEnumT K (tCons te tNil)) (iEnT a) := fun Y σ H ρ R o e w =>
  ha.seq o e w (fun _ _ h => h) fun d x H1 e1 o1 r1 hx w1 => by
    have go : ∀ {a : Addr} {xs : List V} {ds : List D}, SqT K (mask W Y H1) a xs → Dms W Y H1 xs ds → RetIt W Y H R (enD ds) → ∃ a' ys, [V.ref a] = [.ref a'] ∧ SqT K H1 a' ys ∧ R (CcE.Itet K a') H1 := fun {a xs ds} hs hd w1 => by
      have hl := hd.length
      refine ⟨a, xs, rfl, same_t mask_le hs, w1 _ (fun H => SqT K H a xs) (YPair (fun i => some (.int (i : Nat))) (fun i => xs[i]?)) H1 e1 (by rw [show (enD ds).length = xs.length by simp [enD, hl]]; exact CcE.walk_et) (fun H' s => sqT_st hs s) fun i Ha x Hb Y' hi s oY hf y => ?_⟩
      obtain ⟨Tq, x1, x2, rfl, hT, rfl, g1, g2⟩ := y
      cases g1
      have hi' : i < ds.length := by simpa [enD] using hi
      obtain ⟨d, hd1, hd2⟩ := hd.get g2
      have ed : ds.getD i .non = d := by simp [List.getD, hd1]
      exact ⟨Same.new hT, .tup [.int (i : Nat), d], by simp [enD, hi']; exact (List.getElem?_eq_some_iff.mp hd1).2, pair_new oY hT (.int _) (Dn.up hd2 (mask_go s hf))⟩
    cases hx with
    | tup hs hd => exact go hs hd w1
    | ptup hs hd => exact go hs.sq hd w1
    | _ => exact w1.elim
/-- pairs of items -/
def zpD (ds es : List D) : List D := (ds.zip es).map fun p => D.tup [p.1, p.2]
def iZp (a b : Env → M D) : Env → M (List D) := fun ρ => (a ρ).bind fun d => (b ρ).bind fun e => match d, e with
  | .lst ds, .lst es => .ret (zpD ds es)
  | .tup ds, .tup es => .ret (zpD ds es)
  | .ptup ds, .ptup es => .ret (zpD ds es)
  | .ptup ds, .tup es => .ret (zpD ds es)
  | .tup ds, .ptup es => .ret (zpD ds es)
  | _, _ => .bad
theorem gi_zip {ta tb : TE} {a b : Env → M D} (ha : GE W E ta a) (hb : GE W E tb b) : GI W E (iZipA K (tCons ta (tCons tb tNil))) (iZp a b) := fun Y σ H ρ R o e w =>
  ha.seq o e w (fun _ _ h => h) fun d x H1 e1 o1 r1 hx w1 => hb.seq (Er := ErrP W E H) o1 r1 w1 (fun _ _ h => h.up e1) fun d2 y H2 e2 o2 r2 hy w2 => by
    have hx2 := hx.up o1 e2
    have e12 := e1.trans e2
    have goT : ∀ {a b : Addr} {xs ys : List V} {ds es : List D}, SqT K (mask W Y H2) a xs → Dms W Y H2 xs ds → SqT K (mask W Y H2) b ys → Dms W Y H2 ys es → RetIt W Y H R (zpD ds es) → R (ItzT K a b) H2 := fun {a b xs ys ds es} hs hd ht he w1 => by
      have hn : (zpD ds es).length = min xs.length ys.length := by simp [zpD, hd.length, he.length]
      refine w1 _ (fun H => SqT K H a xs ∧ SqT K H b ys) (YPair (fun i => xs[i]?) (fun i => ys[i]?)) H2 e12 (walk_zipT hn) (fun H' s => ⟨sqT_st hs s, sqT_st ht s⟩) fun i Ha x Hb Y' hi s oY hf y => ?_
      obtain ⟨Tq, x1, x2, rfl, hT, rfl, g1, g2⟩ := y
      obtain ⟨d, hd1, hd2⟩ := hd.get g1
      obtain ⟨d', he1, he2⟩ := he.get g2
      have hz : (ds.zip es)[i]? = some (d, d') := List.getElem?_zip_eq_some.mpr ⟨hd1, he1⟩
      exact ⟨Same.new hT, .tup [d, d'], by simp only [zpD, List.getElem?_map, hz, Option.map_some], pair_new oY hT (Dn.up hd2 (mask_go s hf)) (Dn.up he2 (mask_go s hf))⟩
    have goL : ∀ {a b : Addr} {xs ys : List V} {ds es : List D}, mask W Y H2 a = some (.lst xs) → Dms W Y H2 xs ds → mask W Y H2 b = some (.lst ys) → Dms W Y H2 ys es → RetIt W Y H R (zpD ds es) → R (Itz K a b) H2 := fun {a b xs ys ds es} hs hd ht he w1 => by
      have hn : (zpD ds es).length = min xs.length ys.length := by simp [zpD, hd.length, he.length]
      refine w1 _ (fun H => SqL K H a xs ∧ SqL K H b ys) (YPair (fun i => xs[i]?) (fun i => ys[i]?)) H2 e12 (walk_zip (K := K) hn) (fun H' s => ⟨sqL_st hs s, sqL_st ht s⟩) fun i Ha x Hb Y' hi s oY hf y => ?_
      obtain ⟨Tq, x1, x2, rfl, hT, rfl, g1, g2⟩ := y
      obtain ⟨d, hd1, hd2⟩ := hd.get g1
      obtain ⟨d', he1, he2⟩ := he.get g2
      have hz : (ds.zip es)[i]? = some (d, d') := List.getElem?_zip_eq_some.mpr ⟨hd1, he1⟩
      exact ⟨Same.new hT, .tup [d, d'], by simp only [zpD, List.getElem?_map, hz, Option.map_some], pair_new oY hT (Dn.up hd2 (mask_go s hf)) (Dn.up he2 (mask_go s hf))⟩
    cases hx2 with
    | @lst a xs _ hs hd =>
      cases hy with
      | @lst b ys _ ht he => exact ⟨a, b, xs, ys, rfl, .inl ⟨SqL.of (mask_le _ _ hs), SqL.of (mask_le _ _ ht), goL hs hd ht he w2⟩⟩
      | _ => exact w2.elim
    | @tup a xs _ hs hd =>
      cases hy with
      | @tup b ys _ ht he => exact ⟨a, b, xs, ys, rfl, .inr ⟨same_t mask_le hs, same_t mask_le ht, goT hs hd ht he w2⟩⟩
      | @ptup b ys _ ht he => exact ⟨a, b, xs, ys, rfl, .inr ⟨same_t mask_le hs, same_t mask_le ht.sq, goT hs hd ht.sq he w2⟩⟩
      | _ => exact w2.elim
    | @ptup a xs _ hs hd =>
      cases hy with
      | @tup b ys _ ht he => exact ⟨a, b, xs, ys, rfl, .inr ⟨same_t mask_le hs.sq, same_t mask_le ht, goT hs.sq hd ht he w2⟩⟩
      | @ptup b ys _ ht he => exact ⟨a, b, xs, ys, rfl, .inr ⟨same_t mask_le hs.sq, same_t mask_le ht.sq, goT hs.sq hd ht.sq he w2⟩⟩
      | _ => exact w2.elim
    | _ => cases hy <;> exact w2.elim
end
end Mi

/-! Mi: own classes, own errors, the row of draws -/
namespace Mi
open PySem L2 Cc
def fAt : List Str → List D → Str → Option D
  | n :: ns, d :: ds, f => if n = f then some d else fAt ns ds f
  | _, _, _ => none
def mFld (p : List Str → Bool) (f : Str) (a : Env → M D) : Env → M D := fun ρ => (a ρ).bind fun d => match d with
  | .ob _ ns ds => if p ns then M.ofO (fAt ns ds f) else .bad
  | _ => .bad
def mProp (p : List Str → Bool) (F : List D → M D) (a : Env → M D) : Env → M D := fun ρ => (a ρ).bind fun d => match d with
  | .ob C ns ds => if p ns then (F [.ob C ns ds]).calm else .bad
  | _ => .bad
def mMeth (p : List Str → Bool) (m : Str) (F : List D → M D) (a : Env → M D) (t : Env → M (List D)) : Env → M D := fun ρ => (a ρ).bind fun d => match d with
  | .ob C ns ds => if p ns && !ns.contains m then (t ρ).bind fun es => F (.ob C ns ds :: es) else .bad
  | _ => .bad
def asL : D → M D
  | .int k => if 0 ≤ k ∧ k < 1000000000 then .ret (.int k) else .bad
  | _ => .bad
def mLenI (p : List Str → Bool) (F : List D → M D) (a : Env → M D) : Env → M D := fun ρ => (a ρ).bind fun d => match d with
  | .ob C ns ds => if p ns then ((F [.ob C ns ds]).calm).bind asL else .bad
  | _ => .bad
def mNeI (p : List Str → Bool) (F : List D → M D) (a b : Env → M D) : Env → M D := fun ρ => (a ρ).bind fun d => (b ρ).bind fun e => match d, e with
  | .ob C ns ds, .ob C' ms es => if p ns && p ms then ((F [.ob C ns ds, .ob C' ms es]).calm).bind fun r => (asB r).bind fun k => .ret (.bl (!k)) else .bad
  | _, _ => .bad
/-- self.f = e, an instance of the k-th class that is being made -/
def sFldS (k i : Nat) (p : List Str → Bool) (f : Str) (m : Env → M D) : Env → M Fl := fun ρ => match ρ[i]? with
  | some (.slf k' C ns ds) => (m (vB ρ)).bind fun d => if ok1 d && decide (k' = k) && !ns.contains f && decide (ns.length < 100) && p (ns ++ [f]) then .ret (.nx (ρ.set i (.slf k' C (ns ++ [f]) (ds ++ [d])))) else .bad
  | _ => .bad
def sErr (c : Str) : Env → M Fl := fun _ => .err c []
def shown : D → Bool
  | .str z => decide (z.length ≤ 1000)
  | .int i => decide (i.natAbs.log2 < 1920)
  | _ => false
def sErrF (c : Str) (m : Env → M D) : Env → M Fl := fun ρ => (m (vB ρ)).bind fun d => if shown d then .err c [d] else .bad
section
variable {K : Fg} {W : Wd K} {E : XK} {te tv : TE} {m a b : Env → M D} {ta : TA} {t : Env → M (List D)} {p : List Str → Bool} {F : List D → M D} {C : Addr}
theorem ob_at {Y : Addr → Bool} {H : Hp} {v : V} {C' : Addr} {ns : List Str} {ds : List D} (hp : ∀ ns C', p ns = true → W.ct ns = some C' → C' = C) (k : p ns = true) (h : Dm W Y H v (.ob C' ns ds)) : ∃ x dx fs, v = .ref x ∧ H x = some (.ins C dx fs) ∧ fs.map (·.1) = ns ∧ Dms W Y H (fs.map (·.2)) ds := by
  cases h with
  | @ob x C' dx fs ns ds ho hn hd =>
    have h1 := mask_le _ _ ho
    unfold mask at ho
    split at ho
    · cases ho
    · rw [h1] at ho
      by_cases c : W.ct (fs.map (·.1)) = some C'
      · rw [hn] at c
        have := hp ns C' k c
        subst this
        exact ⟨x, dx, fs, rfl, h1, hn, hd⟩
      · simp only [if_neg c] at ho; cases ho
theorem fAt_lookup {Hm : Hp} {f : Str} {d : D} : ∀ {fs : List (Str × V)} {ds : List D}, Dns K Hm (fs.map (·.2)) ds → fAt (fs.map (·.1)) ds f = some d → ∃ v, fs.lookup f = some v ∧ Dn K Hm v d
  | [], _, _, h => by simp [fAt] at h
  | (g, x) :: fs, ds, hd, h => by
    cases hd with
    | @cons _ _ e es h1 h2 =>
      simp only [List.map_cons, fAt] at h
      by_cases e' : g = f
      · subst e'
        rw [if_pos rfl] at h
        cases h
        exact ⟨x, by simp [List.lookup], h1⟩
      · rw [if_neg e'] at h
        obtain ⟨v, q1, q2⟩ := fAt_lookup h2 h
        have : (f == g) = false := by simpa using fun z => e' z.symm
        exact ⟨v, by simp [List.lookup, this, q1], q2⟩
theorem ge_fld {f : Str} (hp : ∀ ns C', p ns = true → W.ct ns = some C' → C' = C) (c : Cls K C) (n : NoAttr K C f) (ha : GE W E te a) : GE W E (tFld K te f) (mFld p f a) := fun Y σ H ρ Q o e w =>
  ha.seq o e w (fun _ _ h => h) fun d x H1 e1 o1 r1 hx w1 => by
    cases d with
    | ob C' ns ds =>
      dsimp only at w1
      split at w1
      · rename_i k
        obtain ⟨x, dx, fs, rfl, hx1, rfl, hd⟩ := ob_at hp k hx
        obtain ⟨z, hz, q⟩ := M.wp_ofO w1
        obtain ⟨v, h1, h2⟩ := fAt_lookup hd hz
        exact ⟨x, C, dx, fs, v, rfl, hx1, c, n, h1, q v H1 e1 h2⟩
      · exact w1.elim
    | _ => exact w1.elim
theorem ge_prop {E' : XK} (hp : ∀ ns C', p ns = true → W.ct ns = some C' → C' = C) (ha : GE W E te a) : GE W E (tProp C (spC W F) [] E' te) (mProp p F a) := fun Y σ H ρ Q o e w =>
  ha.seq o e w (fun _ _ h => h) fun d x H1 e1 o1 r1 hx w1 => by
    cases d with
    | ob C' ns ds =>
      dsimp only at w1
      split at w1
      · rename_i k
        obtain ⟨x, dx, fs, rfl, hx1, _, _⟩ := ob_at hp k hx
        exact ⟨x, dx, fs, rfl, hx1, Y, _, o1, .cons hx .nil, M.wp_mono (fun d hd => hd.up e1) (fun _ _ h => h) _ (M.wp_calm (E' := fun _ _ => False) _ w1)⟩
      · exact w1.elim
    | _ => exact w1.elim
theorem lookup_no {fs : List (Str × V)} {m : Str} (h : (!(fs.map (·.1)).contains m) = true) : fs.lookup m = none := by
  have h' : m ∉ fs.map (·.1) := by simpa using h
  exact lookup_none rfl h'
theorem ge_methC {m : Str} {E' : XK} (hp : ∀ ns C', p ns = true → W.ct ns = some C' → C' = C) (ha : GE W E te a) (ht : GA W E ta t) : GE W E (tMeth C m (spC W F) [] E' te ta) (mMeth p m (fun ds => (F ds).calm) a t) := fun Y σ H ρ Q o e w =>
  ha.seq o e w (fun _ _ h => h) fun d x H1 e1 o1 r1 hx w1 => by
    cases d with
    | ob C' ns ds =>
      dsimp only at w1
      split at w1
      · rename_i k
        simp only [Bool.and_eq_true] at k
        have hx' := hx
        obtain ⟨x, dx, fs, rfl, hx1, rfl, _⟩ := ob_at hp k.1 hx
        refine ⟨x, dx, fs, rfl, hx1, lookup_no k.2, ht.seq (Er := ErrP W E H) o1 r1 w1 (fun _ _ h => h.up e1) fun es vs H2 e2 o2 r2 hv w2 => ⟨Y, _, o2, by rw [List.append_nil]; exact .cons (hx'.up o1 e2) hv, M.wp_mono (fun d hd => hd.up (e1.trans e2)) (fun _ _ h => h) _ (M.wp_calm (E' := fun _ _ => False) _ w2)⟩⟩
      · exact w1.elim
    | _ => exact w1.elim
theorem ge_methM {m : Str} (hp : ∀ ns C', p ns = true → W.ct ns = some C' → C' = C) (ha : GE W E te a) (ht : GA W E ta t) : GE W E (tMeth C m (spM W F) [] E te ta) (mMeth p m F a t) := fun Y σ H ρ Q o e w =>
  ha.seq o e w (fun _ _ h => h) fun d x H1 e1 o1 r1 hx w1 => by
    cases d with
    | ob C' ns ds =>
      dsimp only at w1
      split at w1
      · rename_i k
        simp only [Bool.and_eq_true] at k
        have hx' := hx
        obtain ⟨x, dx, fs, rfl, hx1, rfl, _⟩ := ob_at hp k.1 hx
        refine ⟨x, dx, fs, rfl, hx1, lookup_no k.2, ht.seq (Er := ErrP W E H) o1 r1 w1 (fun _ _ h => h.up e1) fun es vs H2 e2 o2 r2 hv w2 => ⟨Y, _, o2, by rw [List.append_nil]; exact .cons (hx'.up o1 e2) hv, wp_up w2 (e1.trans e2) fun d hd => hd.up (e1.trans e2)⟩⟩
      · exact w1.elim
    | _ => exact w1.elim
theorem asL_wp {d : D} {R : D → Prop} {Er} (h : (asL d).wp R Er) : ∃ k : Int, d = .int k ∧ 0 ≤ k ∧ k < 1000000000 ∧ R (.int k) := by
  cases d with
  | int k =>
    unfold asL at h
    dsimp only at h
    split at h
    · rename_i c; exact ⟨k, rfl, c.1, c.2, h⟩
    · exact h.elim
  | _ => exact h.elim
theorem ge_lenI (hp : ∀ ns C', p ns = true → W.ct ns = some C' → C' = C) (ha : GE W E te a) : GE W E (tCB (rLenI C (spC W F)) (tCons te tNil)) (mLenI p F a) := fun Y σ H ρ Q o e w =>
  ha.seq o e w (fun _ _ h => h) fun d x H1 e1 o1 r1 hx w1 => by
    cases d with
    | ob C' ns ds =>
      dsimp only at w1
      split at w1
      · rename_i k
        have hx' := hx
        obtain ⟨x, dx, fs, rfl, hx1, _, _⟩ := ob_at hp k hx
        refine ⟨x, dx, fs, rfl, hx1, Y, _, o1, .cons hx' .nil, M.wp_mono (fun d hd v H2 e2 hv => ?_) (fun _ _ h => h) _ (M.wp_calm (E := fun c p => ErrP W E H c p) (E' := fun _ _ => False) _ ((M.wp_bind _).mp w1))⟩
        obtain ⟨k, rfl, k0, k1, hq⟩ := asL_wp hd
        cases hv
        exact ⟨k, rfl, k0, by omega, hq _ H2 (e1.trans e2) (.int k)⟩
      · exact w1.elim
    | _ => exact w1.elim
theorem ge_neI (hp : ∀ ns C', p ns = true → W.ct ns = some C' → C' = C) {tb : TE} (ha : GE W E te a) (hb : GE W E tb b) : GE W E (tOp (rNeI C (spC W F)) te tb) (mNeI p F a b) := fun Y σ H ρ Q o e w =>
  ha.seq o e w (fun _ _ h => h) fun d x H1 e1 o1 r1 hx w1 => hb.seq (Er := ErrP W E H) o1 r1 w1 (fun _ _ h => h.up e1) fun d2 y H2 e2 o2 r2 hy w2 => by
    have hx2 := hx.up o1 e2
    cases d with
    | ob C1 ns ds =>
      cases d2 with
      | ob C2 ms es =>
        dsimp only at w2
        split at w2
        · rename_i k
          simp only [Bool.and_eq_true] at k
          have hx' := hx2
          have hy' := hy
          obtain ⟨x, dx, fs, rfl, hx1, _, _⟩ := ob_at hp k.1 hx2
          obtain ⟨y, dy, gs, rfl, hy1, _, _⟩ := ob_at hp k.2 hy
          refine ⟨x, y, dx, dy, fs, gs, rfl, rfl, hx1, hy1, Y, _, o2, .cons hx' (.cons hy' .nil), M.wp_mono (fun d hd v H3 e3 hv => ?_) (fun _ _ h => h) _ (M.wp_calm (E := fun c p => ErrP W E H c p) (E' := fun _ _ => False) _ ((M.wp_bind _).mp w2))⟩
          obtain ⟨k, rfl, hq⟩ := asB_wp ((M.wp_bind _).mp hd)
          cases hv
          exact ⟨k, rfl, hq _ H3 ((e1.trans e2).trans e3) (.bl _)⟩
        · exact w2.elim
      | _ => exact w2.elim
    | _ => exact w2.elim
/-! a new instance -/
def spI (W : Wd K) (C : Addr) (F : List D → M D) : Sp := fun vs H Q E => ∃ (Y : Addr → Bool) (H1 : Hp) (x dx : Addr) (avs : List V) (ds : List D), vs = .ref x :: avs ∧ H1 x = none ∧ H1 dx = none ∧ dx ≠ x ∧ H = upd (upd H1 dx (.own x)) x (.ins C dx []) ∧ Ok W Y H1 ∧ Dms W Y H1 avs ds ∧
  (F ds).wp (fun d => ∀ ns es, d = .ob C ns es → W.ct ns = some C → ∀ H2 dx fs, Ext W H1 H2 → H2 x = some (.ins C dx fs) → fs.map (·.1) = ns → Dms W (also Y x) H2 (fs.map (·.2)) es → Q .non H2) (ErrP W E H1)
theorem ge_make (ht : GA W E ta t) : GE W E (tMake C (spI W C F) [] E ta) (mCall F t) := fun Y σ H ρ Q o e w =>
  ht.seq o e w (fun _ _ h => h) fun ds vs H1 e1 o1 r1 hv w1 x dx hx hdx hne => ⟨Y, H1, x, dx, vs, ds, by rw [List.append_nil], hx, hdx, hne, rfl, o1, hv, wp_up w1 e1 fun d hd ns es h1 h2 H2 dx2 fs e2 h3 h4 h5 => by
    subst h1
    exact ⟨rfl, hd _ H2 (e1.trans e2) (.ob (mask_at h3 (o1.fresh hx) fun C' dx' fs' z => by cases z; rw [h4]; exact h2) h4 (Dms.less h5 also_r))⟩⟩
theorem gs_fld {i k : Nat} {f : Str} (hp : ∀ ns, p ns = true → W.ct ns = some C) (hC : W.cls k = C) (c : Cls K C) (n : NoAttr K C f) (h : GE W E te m) : GS W E (sFld K (tVar i) te f) (sFldS k i p f m) := fun Y B σ H ρ Dn ⟨L, s⟩ w => by
  unfold sFldS at w
  split at w
  case h_2 => exact w.elim
  rename_i k' C' ns ds hi
  refine h.runB s w fun d v H1 s1 hv w1 => ?_
  split at w1
  case isFalse => exact w1.elim
  rename_i kk
  simp only [Bool.and_eq_true, decide_eq_true_eq] at kk
  obtain ⟨⟨⟨⟨k1, k2⟩, k3⟩, k4⟩, k5⟩ := kk
  obtain ⟨x, dx, fs, g1, gS, g2, g3, g4, g5, g6⟩ := s1.sl i _ hi
  subst k2
  have eC : C' = C := g5.1.trans hC
  subst eC
  have hnf : f ∉ fs.map (·.1) := by rw [g4]; simpa using k3
  have hlen : fs.length = ns.length := by rw [← g4]; simp
  refine ⟨.ref x, g1, x, C', dx, fs, rfl, g3, c, n, by omega, w1 σ _ ⟨L, s1.putO g2 g3 rfl rfl ⟨x, dx, putF f v fs, g1, gS, g2, upd_same, ?_, ⟨g5.1, fun _ => hp _ k5⟩, ?_⟩⟩⟩
  · rw [putF_new hnf, List.map_append, g4]; rfl
  · have mo : mask W (YL Y L) (upd H1 x (.ins C' dx (putF f v fs))) = mask W (YL Y L) H1 := mask_off (YL_l g2)
    unfold Dms
    rw [mo, putF_new hnf, List.map_append]
    exact Dns.app g6 (.cons (ok1_see s1 hv k1) .nil)
/-! errors -/
theorem gs_err {c : Str} {A : Addr} {X : WX} (hc : W.ea c = some A) (hX : ∀ cls d σ H, E cls d H → X cls d σ H) : GS W E (tRaiseT A X) (sErr c) := fun Y B σ H ρ Dn ⟨L, s⟩ w =>
  hX _ _ _ _ (w _ _ H s.bok ⟨A, hc, rfl, .inl ⟨rfl, rfl⟩⟩)
theorem gs_errF {c fld : Str} {A : Addr} {X : WX} (hc : W.ea c = some A) (hf : W.ef c = [fld]) (hX : ∀ cls d σ H, E cls d H → X cls d σ H) (h : GE W E te m) : GS W E (tRaiseF A fld X (tCons te tNil)) (sErrF c m) := fun Y B σ H ρ Dn ⟨L, s⟩ w =>
  h.runB s w fun d v H1 s1 hv w1 => by
    split at w1
    · rename_i k
      refine ⟨v, rfl, ?_, fun dd hdd => hX _ _ _ _ ?_⟩
      · cases hv with
        | str z => exact .inl ⟨z, rfl, by simpa [shown] using k⟩
        | int i => exact .inr ⟨i, rfl, by simpa [shown] using k⟩
        | _ => cases k
      · have eH : Ext W H1 (upd H1 dd (.xd [(fld, v)])) := .of s1.ok.1 (Same.new hdd)
        refine w1 _ _ _ (s1.bokE eH) ⟨A, hc, rfl, .inr ⟨by simp, dd, [v], rfl, by simp [hf], by rw [hf]; exact upd_same, ?_⟩⟩
        cases hv with
        | str z => exact .cons (.str z) .nil
        | int i => exact .cons (.int i) .nil
        | _ => cases k
    · exact w1.elim
end
section
variable {P : Program} {w : World} {K : Fg} {mg : Str → Option Value} {base : Heap} {W : Wd K} {C : Addr}
/-- what __init__ makes -/
def finI (k : Nat) (ρ : Env) : M D := match ρ[(0 : Nat)]? with
  | some (.slf k' C ns ds) => if ns.isEmpty || k' != k then .bad else .ret (.ob C ns ds)
  | _ => .bad
def defI (k : Nat) (C : Addr) (n np : Nat) (b : Env → M Fl) : List D → M D := fun ds => if ds.length + 1 = np then (b (.slf k C [] [] :: (ds.map .dat ++ List.replicate (n - np) .no))).bind (fun f => match f with
  | .nx ρ => finI k ρ
  | _ => .bad) else .bad
theorem defI_len {k n np : Nat} {b : Env → M Fl} {ds : List D} {R : D → Prop} {Er} (w : (defI k C n np b ds).wp R Er) : ds.length + 1 = np := by
  unfold defI at w
  split at w
  · assumption
  · exact w.elim
theorem ok_defI {x qual : Str} {st : Stmt} {f : Addr} {fd : FuncData} {N ps : List Str} {lv k : Nat} {a : Env → M Fl} (F : Fun K x qual st f fd) (S : FnScope N ps (defScope st)) (hN : ps.length ≤ N.length) (hC : W.cls k = C)
    (hb : ∀ (cdv : Value) (A : Around) (outer : List PySem.Env) (s : Shared) (H : Hp) (E : XK), Room lv (A.deeper (PyProof.Rows.envOfC qual (defScope st) s.heap.objs.size f cdv)) → ∃ t, PSs (cxOf (L2.CX P w) P w K mg base N qual (defScope st) f cdv A outer s H E) (defBody st) t ∧ GS W E t a) :
    FnOk P w K mg base (L2.CX P w) (lv + 1) f fd ps (spI W C (defI k C N.length ps.length a)) := by
  refine F.okX S (fun vs H Q E h => ?_) (fun cdv A outer s H vs Q E hr h => ?_)
  · obtain ⟨Y, H1, y, dx, avs, ds, rfl, _, _, _, _, _, hd, w⟩ := h
    rw [List.length_cons, hd.length]
    exact defI_len w
  · obtain ⟨Y, H1, y, dx, avs, ds, rfl, hy, hdx, hne, rfl, o1, hd, w⟩ := h
    obtain ⟨t, h1, h2⟩ := hb cdv A outer s _ E hr
    refine ⟨t, h1, ?_⟩
    have hl := defI_len w
    unfold defI at w
    rw [if_pos hl] at w
    have e0 : Same H1 (upd (upd H1 dx (.own y)) y (.ins C dx [])) := (Same.new hdx).trans (Same.new (by rw [upd_ne hne.symm]; exact hy))
    have hx1 : (upd (upd H1 dx (.own y)) y (.ins C dx [])) y = some (.ins C dx []) := upd_same
    generalize upd (upd H1 dx (.own y)) y (.ins C dx []) = H0 at e0 hx1 ⊢
    have ex : Ext W H1 H0 := .of o1.1 e0
    have hlen := hd.length
    have sr : SR W Y ⟨[(H1, W.X)], some y⟩ (L2.start N (.ref y :: avs)) H0 (.slf k C [] [] :: (ds.map .dat ++ List.replicate (N.length - ps.length) .no)) [(0, y)] := {
      ok := o1.ext ex
      bs := fun k hk => by
        rw [List.mem_singleton.mp hk]
        exact ⟨fun _ h => h, fun b o hb _ => e0 b o hb⟩
      len := by
        simp [L2.start, hlen]
        omega
      fre := fun p hp => by
        rw [List.mem_singleton.mp hp]
        refine ⟨fun k hk => ?_, W.new o1.1 hy, o1.fresh hy, _, hx1, rfl⟩
        rw [List.mem_singleton.mp hk]
        exact .inl hy
      nd := by simp
      sl := fun i t' ht => by
        cases i with
        | zero =>
          cases ht
          exact ⟨y, dx, [], by simp [L2.start], fun z hz _ => by cases hz; rfl, by simp, hx1, rfl, ⟨hC.symm, fun z => absurd rfl z⟩, .nil⟩
        | succ i =>
          rw [List.getElem?_cons_succ] at ht
          by_cases hi : i < ds.length
          · rw [List.getElem?_append_left (by simpa using hi), List.getElem?_map, List.getElem?_eq_getElem hi] at ht
            cases ht
            obtain ⟨v, hv, hdv⟩ := hd.getD (List.getElem?_eq_getElem hi)
            refine ⟨v, ?_, Dn.up hdv (mask_go (.of e0) fun a ha => ?_)⟩
            · have hiv : i < avs.length := by omega
              unfold L2.start
              rw [List.getElem?_append_left (by simpa using hiv), List.map_cons, List.getElem?_cons_succ, List.getElem?_map, hv]
              rfl
            · rcases YL_or ha with h | ⟨p, hp, e⟩
              · exact .inl h
              · rw [List.mem_singleton.mp hp] at e
                subst e
                exact .inr hy
          · rw [List.getElem?_append_right (by simpa using Nat.le_of_not_lt hi)] at ht
            have := List.mem_of_getElem? ht
            rw [(List.mem_replicate.mp this).2]
            trivial }
    refine h2 Y _ _ H0 _ _ ⟨_, sr⟩ (M.wp_mono (fun fl hf => ?_) (fun c p hc cls ob H' k he => hc cls ob H' ⟨k.2 (H1, W.X) List.mem_cons_self, k.1⟩ he) _ ((M.wp_bind _).mp w))
    have ext : ∀ {H'}, Bok W ⟨[(H1, W.X)], some y⟩ H' → Ext W H1 H' := fun k => ⟨k.2 (H1, W.X) List.mem_cons_self, k.1⟩
    cases fl with
    | nx ρ' =>
      intro σ' H' ⟨L, s'⟩
      replace hf : (finI k ρ').wp _ _ := hf
      unfold finI at hf
      split at hf
      · rename_i k' C' ns es h0
        split at hf
        · exact hf.elim
        · rename_i hne'
          simp only [Bool.or_eq_true, not_or, bne_iff_ne, ne_eq, Decidable.not_not] at hne'
          obtain ⟨x', dx', fs, g1, gS, g2, g3, g4, g5, g6⟩ := s'.sl 0 _ h0
          have gy := gS y rfl rfl
          subst gy
          have eC : C' = C := by rw [g5.1, hne'.2, hC]
          subst eC
          exact hf ns es rfl (g5.2 fun z => by rw [z] at hne'; exact hne'.1 rfl) H' dx' fs (ext s'.bok) g3 g4 (Dms.less g6 fun a ha => by
          by_cases ea : a = x'
          · subst ea; exact YL_l g2
          · exact YL_y (by simpa [also, ea] using ha))
      · exact hf.elim
    | rt d => exact hf.elim
    | bk _ => exact hf.elim
    | rs _ _ _ _ => exact hf.elim
    | ct _ => exact hf.elim
end
end Mi

/-! Mi: the row of draws -/
namespace Mi
open PySem L2 Cc
def Ind (K : Fg) (S : Addr × List Int) (r : Addr) : Prop := S.1 ≠ r ∨ ∀ H', SqL K H' S.1 (S.2.map V.int)
def Row (K : Fg) (S : Addr × List Int) (H : Hp) (r : Addr) : Prop := ∃ (pos rng rest : Int), H r = some (.lst [.ref S.1, .int pos, .int rng, .int rest]) ∧ SqL K H S.1 (S.2.map V.int) ∧ Ind K S r ∧ S.2.length ≤ 63 ∧ 0 ≤ pos
section
variable {K : Fg} {S : Addr × List Int} {H H' : Hp} {r p : Addr}
theorem ind_new (h : SqL K H S.1 (S.2.map V.int)) (hp : H p = none) : Ind K S p := by
  rcases h with (h | ⟨o, h⟩) | h
  · exact .inl (ne_of_none h hp)
  · exact .inl (ne_of_none h hp)
  · exact .inr fun H' => .inr h
theorem Row.up (h : Row K S H r) (e : Same H H') : Row K S H' r := by
  obtain ⟨pos, rng, rest, h1, h2, h3, h4⟩ := h
  exact ⟨pos, rng, rest, e _ _ h1, same_l e h2, h3, h4⟩
theorem lkeepO {o : HO} (h : SqL K H S.1 (S.2.map V.int)) (hne : Ind K S r) : SqL K (upd H r o) S.1 (S.2.map V.int) := by
  rcases hne with hne | hne
  case inr => exact hne _
  rcases h with (h | ⟨o, h⟩) | h
  · exact .inl (.inl (by rw [upd_ne hne]; exact h))
  · exact .inl (.inr ⟨o, by rw [upd_ne hne]; exact h⟩)
  · exact .inr h
theorem lkeep {ys : List V} (h : SqL K H S.1 (S.2.map V.int)) (hne : Ind K S r) : SqL K (upd H r (.lst ys)) S.1 (S.2.map V.int) := lkeepO h hne
end
/-- a draw: some number below the bound -/
def spTaken (K : Fg) : Sp := fun vs H Q _ => ∃ (S : Addr × List Int) (r : Addr) (n : Int), vs = [.ref r, .int n] ∧ Row K S H r ∧ 0 < n ∧ n < 1073741824 ∧ ∀ k H', 0 ≤ k → k < n → But [r] H H' → Row K S H' r → Q (.int k) H'
/-- the world of a law that draws -/
def rowW (K : Fg) (ct : List Str → Option Addr) (cls : Nat → Addr) (ea : Str → Option Addr) (ef : Str → List Str) (S : Addr × List Int) (r : Addr) : Wd K where
  ct := ct
  cls := cls
  ea := ea
  ef := ef
  r := r
  X := fun a => a == r
  I := fun H => Row K S H r
  Fr := fun a => a ≠ r ∧ Ind K S a
  cell := fun {H a} h x => by
    have e : a = r := by simpa using x
    subst e
    obtain ⟨_, _, _, h1, _⟩ := h
    exact ⟨_, h1, rfl⟩
  up := fun {H H'} h e => h.up e
  new := fun {H a} h e => by
    obtain ⟨_, _, _, h1, h2, _⟩ := h
    exact ⟨(ne_of_none h1 e).symm, ind_new h2 e⟩
  off := fun {H a o u} h f _ _ => by
    obtain ⟨pos, rng, rest, h1, h2, h3, h4⟩ := h
    exact ⟨pos, rng, rest, by rw [upd_ne (Ne.symm f.1)]; exact h1, lkeepO h2 f.2, h3, h4⟩
structure RowOk {K : Fg} (W : Wd K) : Prop where
  ex : ∃ S : Addr × List Int, (∀ H, W.I H → Row K S H W.r) ∧ ∀ H H', W.I H → But [W.r] H H' → Row K S H' W.r → Ext W H H'
theorem rowW_ok {K : Fg} {ct : List Str → Option Addr} {cls : Nat → Addr} {ea : Str → Option Addr} {ef : Str → List Str} {S : Addr × List Int} {r : Addr} : RowOk (rowW K ct cls ea ef S r) := ⟨S, fun _ h => h, fun H H' _ b h => ⟨fun c o e x => b c o e (by
  have : c ≠ r := by simpa [rowW] using x
  simpa [rowW] using this), h⟩⟩
def isRow (ρ : Env) (i : Nat) : Bool := match ρ[i]? with
  | some .row => true
  | _ => false
def mDraw (i : Nat) (m : Env → M D) : Env → M D := fun ρ => if isRow ρ i then (m ρ).bind fun d => match d with
  | .int n => .draw n fun k => .ret (.int k)
  | _ => .bad else .bad
section
variable {K : Fg} {W : Wd K} {E E' : XK} {tn : TE} {m : Env → M D} {ta : TA} {t : Env → M (List D)} {F : List D → M D}
theorem isRow_at {ρ : Env} {i : Nat} (h : isRow ρ i = true) : ρ[i]? = some .row := by
  unfold isRow at h
  split at h
  · assumption
  · cases h
theorem ge_draw (R : RowOk W) {i : Nat} (hm : GE W E tn m) : GE W E (tCall (spTaken K) [] E' (tCons (tVar i) (tCons tn tNil))) (mDraw i m) := fun Y σ H ρ Q o e w => by
  unfold mDraw at w
  split at w
  case isFalse => exact w.elim
  rename_i hr
  have h0 := e.2.2.1 i (isRow_at hr)
  refine ⟨_, h0, hm.seq o e w (fun _ _ h => h) fun d x H1 e1 o1 r1 hx w1 => ?_⟩
  cases hx with
  | int n =>
    obtain ⟨⟨n1, n2⟩, hk⟩ := w1
    obtain ⟨S, h1, h2⟩ := R.ex
    exact ⟨S, W.r, n, rfl, h1 _ o1.1, n1, n2, fun k H' k0 k1 b hR => hk k k0 k1 _ H' (e1.trans (h2 _ _ o1.1 b hR)) (.int k)⟩
  | _ => exact w1.elim
/-- the promise of a def whose first argument is the row -/
def spR (W : Wd K) (F : List D → M D) : Sp := fun vs H Q E => ∃ ws, vs = .ref W.r :: ws ∧ spC W F ws H Q E
def mCallR (i : Nat) (F : List D → M D) (a : Env → M (List D)) : Env → M D := fun ρ => if isRow ρ i then (a ρ).bind fun ds => (F ds).calm else .bad
theorem ge_callR {i : Nat} (ha : GA W E ta t) : GE W E (tCall (spR W F) [] E' (tCons (tVar i) ta)) (mCallR i F t) := fun Y σ H ρ Q o e w => by
  unfold mCallR at w
  split at w
  case isFalse => exact w.elim
  rename_i hr
  refine ⟨_, e.2.2.1 i (isRow_at hr), ha.seq o e w (fun _ _ h => h) fun ds xs H1 e1 o1 r1 hx w1 => ⟨xs, by rw [List.append_nil], Y, ds, o1, hx, M.wp_mono (fun d hd => hd.up e1) (fun _ _ h => h) _ (M.wp_calm (E' := fun _ _ => False) _ w1)⟩⟩
/-- .. its body -/
def defR (n np : Nat) (b : Env → M Fl) : List D → M D := fun ds => if ds.length + 1 = np then (b (.row :: (ds.map .dat ++ List.replicate (n - np) .no))).bind fin else .bad
theorem ok_defR {P : Program} {w : World} {mg : Str → Option Value} {base : Heap} {x qual : Str} {st : Stmt} {f : Addr} {fd : FuncData} {N ps : List Str} {k : Nat} {a : Env → M Fl} (F : Fun K x qual st f fd) (S : FnScope N ps (defScope st)) (hN : ps.length ≤ N.length)
    (hb : ∀ (cdv : Value) (A : Around) (outer : List PySem.Env) (s : Shared) (H : Hp) (E : XK), Room k (A.deeper (PyProof.Rows.envOfC qual (defScope st) s.heap.objs.size f cdv)) → ∃ t, PSs (cxOf CX0 P w K mg base N qual (defScope st) f cdv A outer s H E).nox (defBody st) t ∧ GS W Cc.E0 t a) :
    FnOk P w K mg base CX0 (k + 1) f fd ps (spR W (defR N.length ps.length a)) := by
  have len : ∀ {ds : List D} {R : D → Prop} {Er}, (defR N.length ps.length a ds).wp R Er → ds.length + 1 = ps.length := fun {ds R Er} w => by
    unfold defR at w
    split at w
    · assumption
    · exact w.elim
  refine F.ok S (fun vs H Q E h => ?_) (fun cdv A outer s H vs Q E hr h => ?_)
  · obtain ⟨ws, rfl, Y, ds, o, hd, w⟩ := h
    rw [List.length_cons, hd.length]
    exact len w
  · obtain ⟨ws, rfl, Y, ds, o, hd, w⟩ := h
    obtain ⟨t, h1, h2⟩ := hb cdv A outer s H E hr
    have hl := len w
    unfold defR at w
    rw [if_pos hl] at w
    refine ⟨t, h1, ?_⟩
    have hlen := hd.length
    have sr0 := start_sr (N := List.replicate (N.length - 1) "") o hd (by simp; omega)
    have sr : SR W Y ⟨[(H, W.X)], none⟩ (L2.start N (.ref W.r :: ws)) H (.row :: (ds.map .dat ++ List.replicate (N.length - ps.length) .no)) [] := {
      ok := sr0.ok
      bs := sr0.bs
      len := by simp [L2.start, hlen]; omega
      fre := fun p hp => nomatch hp
      nd := .nil
      sl := fun i t' ht => by
        cases i with
        | zero => cases ht; rfl
        | succ i =>
          rw [List.getElem?_cons_succ] at ht
          have e : (N.length - 1) - ds.length = N.length - ps.length := by omega
          have q := sr0.sl i t' (by rw [List.length_replicate, e]; exact ht)
          have e2 : (L2.start N (.ref W.r :: ws))[i + 1]? = (L2.start (List.replicate (N.length - 1) "") ws)[i]? := by
            unfold L2.start
            rw [List.map_cons, List.cons_append, List.getElem?_cons_succ, List.length_cons, List.length_replicate]
            congr 2
            congr 1
            omega
          cases t' with
          | no => trivial
          | dat d => obtain ⟨v, h1, h2⟩ := q; exact ⟨v, by rw [e2]; exact h1, h2⟩
          | own es => obtain ⟨l, xs, h1, h2, _⟩ := q; cases h2
          | dkR _ => exact q.elim
          | dk es => obtain ⟨l, xs, h1, h2, _⟩ := q; cases h2
          | slf k C ns es => obtain ⟨x, dx, fs, h1, hS, h2, _⟩ := q; cases h2
          | row => exact e2.trans q }
    refine h2 Y _ _ H _ _ ⟨_, sr⟩ (M.wp_mono (fun f hf => ?_) (fun c p hc => hc.elim) _ ((M.wp_bind _).mp w))
    have ext : ∀ {H'}, Bok W ⟨[(H, W.X)], none⟩ H' → Ext W H H' := fun k => ⟨k.2 (H, W.X) List.mem_cons_self, k.1⟩
    cases f with
    | nx ρ' => exact fun σ' H' ⟨L, s⟩ => hf .non H' (ext s.bok) .non
    | rt d => exact fun v H' k hv => hf v H' (ext k) hv
    | bk _ => exact hf.elim
    | rs _ _ _ _ => exact hf.elim
    | ct _ => exact hf.elim
end
end Mi

/-! Mi: more statements and built-ins -/
namespace Mi
open PySem L2 Cc PySem.W
def mOpN (f : D → D → Option (List D)) (a b : Env → M D) : Env → M (List D) := fun ρ => (a ρ).bind fun x => (b ρ).bind fun y => M.ofO (f x y)
/-- x op= e, numbers -/
def sAug (i : Nat) (g : Int → Int → Int) (m : Env → M D) : Env → M Fl := fun ρ => match look ρ i with
  | some (.int a) => (m (vB ρ)).bind fun d => match d with
    | .int b => .ret (.nx (ρ.set i (.dat (.int (g a b)))))
    | _ => .bad
  | _ => .bad
/-- xs[j] op= e, numbers -/
def sAugL (i : Nat) (g : Int → Int → Int) (mj m : Env → M D) : Env → M Fl := fun ρ => match ρ[i]? with
  | some (.own ds) => (mj (vB ρ)).bind fun j => match j with
    | .int k => match atI ds k with
      | some (.int a) => (m (vB ρ)).bind fun d => match d, ixN ds.length k with
        | .int b, some n => .ret (.nx (ρ.set i (.own (ds.set n (.int (g a b))))))
        | _, _ => .bad
      | _ => .bad
    | _ => .bad
  | _ => .bad
def sPar3 (i j l : Nat) (m : Env → M (List D)) : Env → M Fl := fun ρ => (m ρ).bind fun ds => match ds with
  | [d, e, f] => .ret (.nx (((ρ.set i (.dat d)).set j (.dat e)).set l (.dat f)))
  | _ => .bad
/-- xs[lo::st] -/
def mStep (a lo st : Env → M D) : Env → M (List D) := fun ρ => (a ρ).bind fun d => (lo ρ).bind fun l => match l with
  | .int i => (st ρ).bind fun s => match s with
    | .int k => match d with
      | .lst ds => if 0 ≤ i ∧ 0 < k ∧ (stepV ds i k).length ≤ 100000 then .ret (stepV ds i k) else .bad
      | _ => .bad
    | _ => .bad
  | _ => .bad
section
variable {K : Fg} {W : Wd K} {E : XK} {te tl ts : TE} {m a b c : Env → M D}
theorem gn_opN {r : R2} {f : D → D → Option (List D)} {ta tb : TE} (ha : GE W E ta a) (hb : GE W E tb b) (hr : R2N W r f) : GN W E (tOp r ta tb) (mOpN f a b) := gn_op ha hb hr
theorem gs_aug {i : Nat} {g : Int → Int → Int} (h : GE W E te m) : GS W E (tAug i te (ipI g)) (sAug i g m) := fun Y B σ H ρ Dn ⟨L, s⟩ w => by
  unfold sAug at w
  split at w
  case h_2 => exact w.elim
  rename_i a hl
  obtain ⟨v, h1, h2⟩ := s.envA.2.1 i _ hl
  cases h2
  refine ⟨_, h1, h.runB s w fun d v H1 s1 hv w1 => ?_⟩
  cases hv with
  | int b => exact ⟨a, b, rfl, rfl, w1 _ H1 ⟨L, s1.set i (.int _)⟩⟩
  | _ => exact w1.elim
theorem gs_augL {i : Nat} {g : Int → Int → Int} {tj : TE} {mj : Env → M D} (hj : GE W E tj mj) (h : GE W E te m) : GS W E (tAugS (tVar i) tj te (rIxL K) (ipI g) rSetL) (sAugL i g mj m) := fun Y B σ H ρ Dn ⟨L, s⟩ w => by
  unfold sAugL at w
  split at w
  case h_2 => exact w.elim
  rename_i ds hi
  obtain ⟨l, xs, h1, h2, h3, h4⟩ := s.ownAt hi
  refine ⟨.ref l, h1, hj.runB s w fun d v H1 s1 hv w1 => ?_⟩
  cases hv with
  | int k =>
    dsimp only at w1
    obtain ⟨l', xs', g1, g2, g3, g4⟩ := s1.ownAt hi
    rw [h1] at g1
    cases g1
    split at w1
    case h_2 => exact w1.elim
    rename_i a ha
    obtain ⟨v, hv1, hv2⟩ := at_dns g4 ha
    cases hv2
    refine ⟨l, xs', k, .int a, rfl, rfl, SqL.of g3, hv1, h.runB s1 w1 fun d2 v2 H2 s2 hv2 w2 => ?_⟩
    obtain ⟨l', xs2, q1, q2, q3, q4⟩ := s2.ownAt hi
    rw [h1] at q1
    cases q1
    cases hv2 with
    | int b =>
      split at w2
      · rename_i b' n e1 e2
        cases e1
        exact ⟨a, b, rfl, rfl, l, xs2, k, n, rfl, rfl, q3, by rw [q4.length]; exact e2, w2 σ _ ⟨L, s2.put hi h1 q2 q3 (Dns.set (.int _) n q4)⟩⟩
      · exact w2.elim
    | _ => exact w2.elim
  | _ => exact w1.elim
theorem gs_par3 {i j l : Nat} {ta : TA} {mn : Env → M (List D)} (h : GA W E ta mn) : GS W E (tPar3 i j l ta) (sPar3 i j l mn) := fun Y B σ H ρ Dn ⟨L, s⟩ w =>
  h.seq s.okL s.envA w (fun _ _ h => h.at' s) fun ds vs H1 e1 o1 r1 hv w1 => by
    have s1 := s.up e1
    cases hv with
    | nil => exact w1.elim
    | cons h1 h2 =>
      cases h2 with
      | nil => exact w1.elim
      | cons h2 h3 =>
        cases h3 with
        | nil => exact w1.elim
        | cons h3 h4 =>
          cases h4 with
          | nil => exact ⟨_, _, _, rfl, w1 _ H1 ⟨L, ((s1.set i h1).set j h2).set l h3⟩⟩
          | cons _ _ => exact w1.elim
theorem gn_step (ha : GE W E te a) (hl : GE W E tl b) (hs : GE W E ts c) : GN W E (tStepL K te tl ts) (mStep a b c) := fun Y σ H ρ Q o e w =>
  ha.seq o e w (fun _ _ h => h) fun d x H1 e1 o1 r1 hx w1 => hl.seq (Er := ErrP W E H) o1 r1 w1 (fun _ _ h => h.up e1) fun d2 y H2 e2 o2 r2 hy w2 => by
    cases hy with
    | int i =>
      refine ⟨i, rfl, hs.seq (Er := ErrP W E H) o2 r2 w2 (fun _ _ h => h.up (e1.trans e2)) fun d3 z H3 e3 o3 r3 hz w3 => ?_⟩
      have e13 := (e1.trans e2).trans e3
      have hx3 := (hx.up o1 e2).up o2 e3
      cases hz with
      | int k =>
        cases hx3 with
        | @lst a xs ds hs hd =>
          dsimp only at w3
          split at w3
          · rename_i hc
            have hl := hd.length
            have hst : Dms W Y H3 (stepV xs i k) (stepV ds i k) := by
              unfold stepV
              rw [hl]
              exact dns_step hd _
            exact ⟨k, rfl, a, xs, rfl, SqL.of (mask_le _ _ hs), hc.1, hc.2.1, by rw [hst.length, sizeLine_eq]; omega, fun p hp => w3 p _ _ (e13.trans (.of o3.1 (Same.new hp))) (e13.free o.1 hp) upd_same (Dms.fresh hst o3 hp)⟩
          · exact w3.elim
        | _ => exact w3.elim
      | _ => exact w3.elim
    | _ => exact w2.elim
/-! the least -/
mutual
def can : D → Bool
  | .lst ds => cans ds
  | .ptup ds => cans ds
  | .tup _ => false
  | .ob _ _ _ => false
  | .adr _ => false
  | _ => true
def cans : List D → Bool
  | [] => true
  | d :: ds => can d && cans ds
end
mutual
def unpy : PyData → D
  | .none => .non
  | .bool b => .bl b
  | .int i => .int i
  | .str x => .str x
  | .list xs => .lst (unpys xs)
  | .tuple xs => .ptup (unpys xs)
  | .dict _ => .non
def unpys : List PyData → List D
  | [] => []
  | x :: xs => unpy x :: unpys xs
end
mutual
theorem unpy_py : ∀ d : D, can d = true → unpy d.py = d
  | .non, _ => rfl
  | .bl _, _ => rfl
  | .int _, _ => rfl
  | .str _, _ => rfl
  | .lst ds, h => by
    show D.lst (unpys (D.pys ds)) = _
    rw [unpys_pys ds h]
  | .ptup ds, h => by
    show D.ptup (unpys (D.pys ds)) = _
    rw [unpys_pys ds h]
  | .tup _, h => by cases h
  | .ob _ _ _, h => by cases h
  | .adr _, h => by cases h
theorem unpys_pys : ∀ ds : List D, cans ds = true → unpys (D.pys ds) = ds
  | [], _ => rfl
  | d :: ds, h => by
    have h' : can d = true ∧ cans ds = true := by simpa [cans] using h
    show unpy d.py :: unpys (D.pys ds) = _
    rw [unpy_py d h'.1, unpys_pys ds h'.2]
end
mutual
theorem can_pl : ∀ d : D, can d = true → d.pl = true
  | .non, _ => rfl
  | .bl _, _ => rfl
  | .int _, _ => rfl
  | .str _, _ => rfl
  | .lst ds, h => cans_pl ds h
  | .ptup ds, h => cans_pl ds h
  | .tup _, h => by cases h
  | .ob _ _ _, h => by cases h
  | .adr _, h => by cases h
theorem cans_pl : ∀ ds : List D, cans ds = true → D.pls ds = true
  | [], _ => rfl
  | d :: ds, h => by
    have h' : can d = true ∧ cans ds = true := by simpa [cans] using h
    simp [D.pls, can_pl d h'.1, cans_pl ds h'.2]
end
theorem cans_mem : ∀ {ds : List D} {i : Nat} {d : D}, cans ds = true → ds[i]? = some d → can d = true
  | [], _, _, _, h => by simp at h
  | e :: ds, 0, d, k, h => by
    have k' : can e = true ∧ cans ds = true := by simpa [cans] using k
    simp at h; subst h; exact k'.1
  | e :: ds, i + 1, d, k, h => by
    have k' : can e = true ∧ cans ds = true := by simpa [cans] using k
    exact cans_mem (i := i) k'.2 (by simpa using h)
def notNone : PyData → Bool
  | .none => false
  | _ => true
def alikeB (xs : List PyData) : Bool := (xs.all fun x => xs.all fun y => alike x y) && xs.all notNone
theorem alikeB_iff {xs : List PyData} (h : alikeB xs = true) : AlikeAll xs := by
  simp only [alikeB, Bool.and_eq_true, List.all_eq_true] at h
  exact ⟨fun x hx y hy => h.1 x hx y hy, fun x hx e => by have := h.2 x hx; rw [e] at this; cases this⟩
def minO : List D → Option D
  | d :: ds => if cans (d :: ds) && alikeB (D.pys (d :: ds)) && decide (PyData.depthAll (D.pys (d :: ds)) ≤ 60) then some (unpy (minD d.py (D.pys ds))) else none
  | [] => none
def fMin : List D → Option D
  | [.lst ds] => minO ds
  | _ => none
theorem min_at {Y : Addr → Bool} {H : Hp} {xs : List V} {d : D} {ds : List D} (hd : Dms W Y H xs (d :: ds)) (k : cans (d :: ds) = true) {i : Nat} {x : V} (hx : xs[i]? = some x) (hm : (D.pys (d :: ds))[i]? = some (minD d.py (D.pys ds))) : Dm W Y H x (unpy (minD d.py (D.pys ds))) := by
  obtain ⟨z, hz, hzx⟩ := hd.get hx
  rw [D.pys_map, List.getElem?_map, hz] at hm
  have e : z.py = minD d.py (D.pys ds) := Option.some.inj hm
  rw [← e, unpy_py z (cans_mem k hz)]
  exact hzx
theorem rc_min : RCM W (rMinL K) fMin := fun Y H vs ds z Q o hv h q => by
  unfold fMin at h
  split at h
  case h_2 => cases h
  rename_i es0
  obtain ⟨v, rfl, hw⟩ := hv.un1
  cases hw with
  | @lst a xs _ hs ha =>
    cases es0 with
    | nil => cases h
    | cons d es =>
      unfold minO at h
      dsimp only at h
      split at h
      case isFalse => cases h
      rename_i k
      simp only [Bool.and_eq_true, decide_eq_true_eq] at k
      cases h
      exact ⟨a, xs, d.py, D.pys es, rfl, SqL.of (mask_le _ _ hs), Dns.dps _ _ (cans_pl _ k.1.1) (Dms.un ha), alikeB_iff k.1.2, k.2, fun i x hx hm => q x H (.refl o.1) (min_at ha k.1.1 hx hm)⟩
/-- min(xs, default = z) -/
def mMinD (a z : Env → M D) : Env → M D := fun ρ => (a ρ).bind fun d => (z ρ).bind fun e => match d with
  | .lst [] => .ret e
  | .lst (x :: xs) => M.ofO (minO (x :: xs))
  | _ => .bad
theorem ge_minD {tz : TE} (ha : GE W E te a) (hz : GE W E tz b) : GE W E (tCKw (rMinLD K) (tCons te tNil) (tCons tz tNil)) (mMinD a b) := fun Y σ H ρ Q o e w =>
  ha.seq o e w (fun _ _ h => h) fun d x H1 e1 o1 r1 hx w1 => hz.seq (Er := ErrP W E H) o1 r1 w1 (fun _ _ h => h.up e1) fun d2 y H2 e2 o2 r2 hy w2 => by
    have hx2 := hx.up o1 e2
    have e12 := e1.trans e2
    cases hx2 with
    | @lst a xs ds hs ha =>
      cases ds with
      | nil => exact ⟨a, xs, [], y, rfl, rfl, SqL.of (mask_le _ _ hs), by cases ha; exact .nil, ⟨fun x hx => (nomatch hx), fun x hx => (nomatch hx)⟩, Nat.zero_le _, fun _ => w2 y H2 e12 hy, fun y ys i x he => nomatch he⟩
      | cons z zs =>
        obtain ⟨r, hr, q⟩ := M.wp_ofO w2
        unfold minO at hr
        dsimp only at hr
        split at hr
        case isFalse => cases hr
        rename_i k
        simp only [Bool.and_eq_true, decide_eq_true_eq] at k
        cases hr
        exact ⟨a, xs, D.pys (z :: zs), y, rfl, rfl, SqL.of (mask_le _ _ hs), Dns.dps _ _ (cans_pl _ k.1.1) (Dms.un ha), alikeB_iff k.1.2, k.2, fun he => (nomatch he), fun y0 ys i x he hx hm => by
          obtain ⟨h1, h2⟩ := List.cons.inj he
          subst h1 h2
          exact q x H2 e12 (min_at ha k.1.1 hx hm)⟩
    | _ => exact w2.elim
/-! sorted, of numbers -/
def fSortI : List D → Option (List D)
  | [d] => match items d with
    | some ds => match intsO ds with
      | some ns => if ns.length < 64 then some ((ns.mergeSort fun a b => decide (a ≤ b)).map D.int) else none
      | none => none
    | none => none
  | _ => none
theorem sort_one {ns ms : List Int} (p : ms.Perm ns) (h : ms.Pairwise (· ≤ ·)) : ms = ns.mergeSort fun a b => decide (a ≤ b) := by
  have q := List.mergeSort_perm ns fun a b => decide (a ≤ b)
  have s := List.pairwise_mergeSort (le := fun a b : Int => decide (a ≤ b)) (fun a b c h1 h2 => by simp at *; omega) (fun a b => by simp; omega) ns
  have s' : (ns.mergeSort fun a b => decide (a ≤ b)).Pairwise (· ≤ ·) := s.imp fun h => by simpa using h
  exact List.Perm.eq_of_pairwise (le := (· ≤ ·)) (fun a b _ _ h1 h2 => by omega) h s' (p.trans q.symm)
end
end Mi

/-! Mi: f-strings, errors made with any text, methods of texts and lists -/
namespace Mi
open PySem L2 Cc PySem.W
section
variable {X : Cx} {x : Str} {C : Addr} {p pos pos2 : Pos} {e : Expr} {te : TE}
/-- raise X(e) -/
def tRaiseE (C : Addr) (W : WX) (te : TE) : TS := fun _ σ H => te σ H fun _ H1 => W (.ref C) none σ H1
theorem ps_raiseE {W : WX} (hc : X.calm = true) (tk : Takes X W) (T : ErrT X.K X.mg x C) (he : PE X e te) (hg : Gl X x := by rfl) (hs : starEach [e] X.env = (false, eval e X.env) :: starEach [] X.env := by rfl) (hdb : (x == ("__debug__" : Str)) = false := by decide) :
    PS X (.Raise (some (.Call (.Name x p) [e] [] pos)) none pos2) (tRaiseE C W te) :=
  ps_raise hc tk (SkE.pmk_own1 F.excBase_ValueError T.q T.gC T.kC (raises_own T.exC T.tyC) hg he hs hdb)
end
def sErrE (c : Str) (m : Env → M D) : Env → M Fl := fun ρ => (m (vB ρ)).bind fun _ => .err c []
/-- a part of an f-string -/
def mFmt (a : Env → M D) : Env → M D := fun ρ => (a ρ).bind fun d => match d with
  | .str y => if y.length ≤ 100000 then .ret (.str y) else .bad
  | .int i => if i.natAbs.log2 < 1920 then .ret (.str (toString i)) else .bad
  | _ => .bad
def jsGo : List (Env → M D) → Str → Env → M D
  | [], acc, _ => .ret (.str acc)
  | m :: ms, acc, ρ => (m ρ).bind fun d => match d with
    | .str y => if (acc ++ y).length ≤ 100000 then jsGo ms (acc ++ y) ρ else .bad
    | _ => .bad
def mJs (ms : List (Env → M D)) : Env → M D := fun ρ => jsGo ms Str.empty ρ
section
variable {K : Fg} {W : Wd K} {E : XK} {te : TE} {m a : Env → M D}
theorem gs_errE {c : Str} {A : Addr} {X : WX} (hc : W.ea c = some A) (hX : ∀ cls d σ H, E cls d H → X cls d σ H) (h : GE W E te m) : GS W E (tRaiseE A X te) (sErrE c m) := fun Y B σ H ρ Dn ⟨L, s⟩ w =>
  h.runB s w fun d v H1 s1 hv w1 => hX _ _ _ _ (w1 _ _ H1 s1.bok ⟨A, hc, rfl, .inl ⟨rfl, rfl⟩⟩)
theorem ge_fmt (ha : GE W E te a) : GE W E (tFmt te) (mFmt a) := fun Y σ H ρ Q o e w =>
  ha.seq o e w (fun _ _ h => h) fun d x H1 e1 o1 r1 hx w1 => by
    cases hx with
    | str y =>
      dsimp only at w1
      split at w1
      · exact .inl ⟨y, rfl, by rw [sizeLine_eq]; omega, w1 _ H1 e1 (.str y)⟩
      · exact w1.elim
    | int i =>
      dsimp only at w1
      split at w1
      · rename_i k; exact .inr ⟨i, rfl, k, w1 _ H1 e1 (.str _)⟩
      · exact w1.elim
    | _ => exact w1.elim
inductive GJ (W : Wd K) (E : XK) : List TE → List (Env → M D) → Prop where
  | nil : GJ W E [] []
  | cons {t : TE} {m : Env → M D} {ts : List TE} {ms : List (Env → M D)} (h : GE W E t m) (r : GJ W E ts ms) : GJ W E (t :: ts) (m :: ms)
theorem gj_run {ts : List TE} {ms : List (Env → M D)} (h : GJ W E ts ms) : ∀ (acc : Str) (Y : Addr → Bool) (σ : L2.St) (H : Hp) (ρ : Env) (Q : Str → Hp → Prop), Ok W Y H → EnvR W (mask W Y H) σ ρ → (jsGo ms acc ρ).wp (fun d => ∀ z H', d = .str z → Ext W H H' → Q z H') (ErrP W E H) → tJs ts acc σ H Q := by
  induction h with
  | nil => exact fun acc Y σ H ρ Q o e w => w acc H rfl (.refl o.1)
  | cons h r ih =>
    intro acc Y σ H ρ Q o e w
    refine h.seq o e w (fun _ _ h => h) fun d x H1 e1 o1 r1 hx w1 => ?_
    cases hx with
    | str y =>
      dsimp only at w1
      split at w1
      · rename_i k
        exact ⟨y, rfl, by rw [sizeLine_eq]; omega, ih (acc ++ y) Y σ H1 ρ Q o1 r1 (wp_up w1 e1 fun d hd z H2 hz e2 => hd z H2 hz (e1.trans e2))⟩
      · exact w1.elim
    | _ => exact w1.elim
theorem ge_js {ts : List TE} {ms : List (Env → M D)} (h : GJ W E ts ms) : GE W E (fun σ H Q => tJs ts Str.empty σ H fun out H1 => Q (.str out) H1) (mJs ms) := fun Y σ H ρ Q o e w =>
  gj_run h Str.empty Y σ H ρ _ o e (M.wp_mono (fun d hd z H' hz e' => by subst hz; exact hd _ H' e' (.str z)) (fun _ _ h => h) _ w)
/-! methods of texts -/
def strsO : List D → Option (List Str)
  | [] => some []
  | .str x :: ds => match strsO ds with
    | some xs => some (x :: xs)
    | none => none
  | _ => none
theorem strsO_some : ∀ {ds : List D} {xs : List Str}, strsO ds = some xs → ds = xs.map D.str
  | [], xs, h => by cases h; rfl
  | d :: ds, xs, h => by
    unfold strsO at h
    split at h
    · rename_i e; cases e
    · rename_i i ds' e
      cases e
      split at h
      · rename_i ms hm
        cases h
        rw [strsO_some hm]; rfl
      · cases h
    · cases h
theorem strsO_map (xs : List Str) : strsO (xs.map D.str) = some xs := by
  induction xs with
  | nil => rfl
  | cons x xs ih => simp [strsO, ih]
/-- a method of a text called with arguments -/
def mMt (f : D → List D → Option D) (a : Env → M D) (t : Env → M (List D)) : Env → M D := fun ρ => (a ρ).bind fun d => match d with
  | .str x => (t ρ).bind fun ds => M.ofO (f (.str x) ds)
  | _ => .bad
def mMtN (f : D → List D → Option (List D)) (a : Env → M D) (t : Env → M (List D)) : Env → M (List D) := fun ρ => (a ρ).bind fun d => match d with
  | .str x => (t ρ).bind fun ds => M.ofO (f (.str x) ds)
  | _ => .bad
def RMM (W : Wd K) (r : V → List V → Hp → VK → Prop) (f : D → List D → Option D) : Prop := ∀ Y H x vs d ds z (Q : VK), Ok W Y H → Dm W Y H x d → Dms W Y H vs ds → f d ds = some z → RetP W Y H Q z → r x vs H Q
def RMN (W : Wd K) (r : V → List V → Hp → VK → Prop) (f : D → List D → Option (List D)) : Prop := ∀ Y H x vs d ds z (Q : VK), Ok W Y H → Dm W Y H x d → Dms W Y H vs ds → f d ds = some z → RetPn W Y H Q z → r x vs H Q
theorem ge_mtS {ta : TA} {t : Env → M (List D)} {r : V → List V → Hp → VK → Prop} {f : D → List D → Option D} (ha : GE W E te a) (ht : GA W E ta t) (hr : RMM W r f) : GE W E (tBM K "str" r te ta) (mMt f a t) := fun Y σ H ρ Q o e w =>
  ha.seq o e w (fun _ _ h => h) fun d x H1 e1 o1 r1 hx w1 => by
    cases hx with
    | str z => exact ⟨rfl, ht.seq (Er := ErrP W E H) o1 r1 w1 (fun _ _ h => h.up e1) fun ds vs H2 e2 o2 r2 hv w2 => by
        obtain ⟨y, hy, q⟩ := M.wp_ofO w2
        exact hr Y H2 _ vs _ ds y Q o2 (.str z) hv hy (q.up (e1.trans e2))⟩
    | _ => exact w1.elim
theorem gn_mtS {ta : TA} {t : Env → M (List D)} {r : V → List V → Hp → VK → Prop} {f : D → List D → Option (List D)} (ha : GE W E te a) (ht : GA W E ta t) (hr : RMN W r f) : GN W E (tBM K "str" r te ta) (mMtN f a t) := fun Y σ H ρ Q o e w =>
  ha.seq o e w (fun _ _ h => h) fun d x H1 e1 o1 r1 hx w1 => by
    cases hx with
    | str z => exact ⟨rfl, ht.seq (Er := ErrP W E H) o1 r1 w1 (fun _ _ h => h.up e1) fun ds vs H2 e2 o2 r2 hv w2 => by
        obtain ⟨y, hy, q⟩ := M.wp_ofO w2
        exact hr Y H2 _ vs _ ds y Q o2 (.str z) hv hy fun p xs H3 e3 hp h3 hd => q p xs H3 ((e1.trans e2).trans e3) ((e1.trans e2).free o.1 hp) h3 hd⟩
    | _ => exact w1.elim
def fJoin : D → List D → Option D
  | .str x, [.lst ds] => match strsO ds with
    | some ys => if (ys.map (·.length)).sum + ys.length * x.length ≤ 100000 then some (.str (Txt.join x ys)) else none
    | none => none
  | _, _ => none
theorem dns_strs' {H : Hp} {vs : List V} {xs : List Str} (h : Dns K H vs (xs.map D.str)) : vs = xs.map V.str := dns_strs h
theorem rm_join : RMM W (fun x xs H Q => ∃ a p, ∃ ys : List Str, x = .str a ∧ xs = [.ref p] ∧ (SqL K H p (ys.map V.str) ∨ SqT K H p (ys.map V.str)) ∧
    (ys.map (·.length)).sum + ys.length * a.length ≤ 16777216 ∧ Q (.str (Txt.join a ys)) H) fJoin := fun Y H x vs d ds z Q o hx hv h q => by
  unfold fJoin at h
  split at h
  case h_2 => cases h
  split at h
  case h_2 => cases h
  rename_i ys hy
  split at h
  case isFalse => cases h
  cases h
  cases hx
  obtain ⟨v, rfl, hw⟩ := hv.un1
  rw [strsO_some hy] at hw
  cases hw with
  | @lst p xs _ hs hd =>
    rw [dns_strs' hd] at hs
    exact ⟨_, p, ys, rfl, rfl, .inl (SqL.of (mask_le _ _ hs)), by omega, q _ H (.refl o.1) (.str _)⟩
theorem mt_joinK {X : Cx} (K : Fg) (h : X.K = K := by rfl) : MtR X "str.join" (fun x xs H Q => ∃ a p, ∃ ys : List Str, x = .str a ∧ xs = [.ref p] ∧ (SqL K H p (ys.map V.str) ∨ SqT K H p (ys.map V.str)) ∧
    (ys.map (·.length)).sum + ys.length * a.length ≤ 16777216 ∧ Q (.str (Txt.join a ys)) H) := h ▸ mt_join
def fSplit : D → List D → Option (List D)
  | .str a, [.str b] => if b.length ≠ 0 ∧ a.length ≤ 100000 then some ((Txt.split a b).map D.str) else none
  | _, _ => none
theorem rm_split : RMN W (fun x xs H Q => ∃ a b, x = .str a ∧ xs = [.str b] ∧ (b.length == 0) = false ∧ a.length + 2 ≤ sizeLine ∧ rNewStrs (Txt.split a b) H Q) fSplit := fun Y H x vs d ds z Q o hx hv h q => by
  unfold fSplit at h
  split at h
  case h_2 => cases h
  split at h
  case isFalse => cases h
  rename_i k
  cases h
  cases hx
  obtain ⟨v, rfl, hw⟩ := hv.un1
  cases hw
  refine ⟨_, _, rfl, rfl, by simpa using k.1, by rw [sizeLine_eq]; omega, fun p hp => q p _ _ (.of o.1 (Same.new hp)) hp upd_same ?_⟩
  exact Dns.of (fun x => .str x) _
def fStr : List D → Option D
  | [.int i] => if i.natAbs.log2 < 1920 then some (.str (toString i)) else none
  | _ => none
theorem rc_str : RCM W (fun xs H Q => ∃ i, xs = [.int i] ∧ i.natAbs.log2 < 1920 ∧ Q (.str (toString i)) H) fStr := .of fun ds z h => by
  unfold fStr at h
  split at h
  · split at h
    · rename_i k
      cases h
      refine ⟨fun vs H Q hv q => ?_, rfl, rfl⟩
      obtain ⟨v, rfl, hw⟩ := hv.un1
      cases hw
      exact ⟨_, rfl, k, q _ H (Same.refl _) (.str _)⟩
    · cases h
  · cases h
/-! methods of tuples and lists -/
/-- the first place of it -/
def idxV (y : V) : List V → Nat → Option Nat
  | [], _ => none
  | x :: xs, k => if eqV x y then some k else idxV y xs (k + 1)
theorem idxV_some {y : V} : ∀ {xs : List V} {k j : Nat}, idxV y xs k = some j → ∃ i z, j = k + i ∧ xs[i]? = some z ∧ eqV z y = true ∧ ∀ m z', m < i → xs[m]? = some z' → eqV z' y = false
  | [], _, _, h => by cases h
  | x :: xs, k, j, h => by
    unfold idxV at h
    split at h
    · rename_i e; cases h; exact ⟨0, x, rfl, rfl, e, fun m z' hm => absurd hm (by omega)⟩
    · rename_i e
      obtain ⟨i, z, h1, h2, h3, h4⟩ := idxV_some h
      refine ⟨i + 1, z, by omega, by simpa using h2, h3, fun m z' hm hz => ?_⟩
      cases m with
      | zero => simp at hz; subst hz; simpa using e
      | succ m => exact h4 m z' (by omega) (by simpa using hz)
def mTIdx (a b : Env → M D) : Env → M D := fun ρ => (a ρ).bind fun d => match d with
  | .ptup ds => (b ρ).bind fun e => if Mi.D.sc e && ds.all Mi.D.sc then (match idxV (Mi.D.toV e) (ds.map Mi.D.toV) 0 with
    | some j => .ret (.int (j : Nat))
    | none => .bad) else .bad
  | _ => .bad
theorem ge_tidx {tb : TE} {b : Env → M D} (ha : GE W E te a) (hb : GE W E tb b) : GE W E (tBMP (rIdxT K) te (tCons tb tNil)) (mTIdx a b) := fun Y σ H ρ Q o e w =>
  ha.seq o e w (fun _ _ h => h) fun d x H1 e1 o1 r1 hx w1 => by
    have hx0 := hx
    cases hx with
    | @ptup p xs ds hs hd =>
      refine ⟨⟨p, xs, rfl, plT_le hs⟩, hb.seq (Er := ErrP W E H) o1 r1 w1 (fun _ _ h => h.up e1) fun d2 y H2 e2 o2 r2 hy w2 => ?_⟩
      have hx2 := Dm.up hx0 o1 e2
      cases hx2 with
      | @ptup _ xs2 _ hs2 hd2 =>
        split at w2
        case isFalse => exact w2.elim
        rename_i k
        simp only [Bool.and_eq_true] at k
        obtain ⟨q1, q2⟩ := sc_v hy k.1
        obtain ⟨q3, q4⟩ := sc_vs hd2 k.2
        split at w2
        case h_2 => exact w2.elim
        rename_i j hj
        rw [← q1, ← q3] at hj
        obtain ⟨i, z, rfl, h2, h3, h4⟩ := idxV_some hj
        rw [Nat.zero_add] at w2
        exact ⟨p, xs2, y, z, i, rfl, rfl, (plT_le hs2).sq, q2, q4, h2, h3, h4, w2 _ H2 (e1.trans e2) (.int _)⟩
    | _ => exact w1.elim
def mTCnt (a b : Env → M D) : Env → M D := fun ρ => (a ρ).bind fun d => match d with
  | .ptup ds => (b ρ).bind fun e => if Mi.D.sc e && ds.all Mi.D.sc then .ret (.int ((ds.map Mi.D.toV).countP (fun z => eqV z (Mi.D.toV e)) : Nat)) else .bad
  | _ => .bad
theorem ge_tcnt {tb : TE} {b : Env → M D} (ha : GE W E te a) (hb : GE W E tb b) : GE W E (tBMP (rCntT K) te (tCons tb tNil)) (mTCnt a b) := fun Y σ H ρ Q o e w =>
  ha.seq o e w (fun _ _ h => h) fun d x H1 e1 o1 r1 hx w1 => by
    have hx0 := hx
    cases hx with
    | @ptup p xs ds hs hd =>
      refine ⟨⟨p, xs, rfl, plT_le hs⟩, hb.seq (Er := ErrP W E H) o1 r1 w1 (fun _ _ h => h.up e1) fun d2 y H2 e2 o2 r2 hy w2 => ?_⟩
      have hx2 := Dm.up hx0 o1 e2
      cases hx2 with
      | @ptup _ xs2 _ hs2 hd2 =>
        split at w2
        case isFalse => exact w2.elim
        rename_i k
        simp only [Bool.and_eq_true] at k
        obtain ⟨q1, q2⟩ := sc_v hy k.1
        obtain ⟨q3, q4⟩ := sc_vs hd2 k.2
        rw [← q1, ← q3] at w2
        exact ⟨p, xs2, y, rfl, rfl, (plT_le hs2).sq, q2, q4, w2 _ H2 (e1.trans e2) (.int _)⟩
    | _ => exact w1.elim
end
end Mi

/-! sorted of lists and tuples of alike data -/
namespace CcS
open PySem PySem.Spec L2 PyProof.Rows
section
variable {prog : Program} {w : World} {A : Around} {E : Value → Shared → Prop} {s : Shared}
theorem collect_tup {l : Addr} {vs : List Value} {Q : List Value → Shared → Prop} (hl : IsTup s.heap l vs.toArray)
    (h : Q vs { s with heap := (s.heap.push (seqObj "list" #[] 0)).update s.heap.objs.size (Obj.mapSeq (· ++ vs.toArray)) }) (hsz : vs.length ≤ sizeLine := by size_fits) :
    wpAny (model prog w) A (collect (.ref l)) Q E s := by
  obtain ⟨o, ho, hc, n, hd⟩ := id hl
  unfold collect
  refine wpAny_bind (wpAny_runValue (codeAny_builtin entry_proto_collect' ?_))
  show wpAny _ _ (do again (.builtin "list.__iadd__" ⟨[← newList [], .ref l], []⟩)) _ _ s
  refine wpAny_bind (wpAny_newList (wpAny_pure ⟨Code.quiet_builtin _ (by decide +kernel), codeAny_builtin entry_list_iadd' ?_⟩))
  show wpAny _ _ (Builtin.List.listExtendWith (.ref s.heap.objs.size) (.ref l) (.ref s.heap.objs.size)) _ _ { s with heap := s.heap.push (seqObj "list" #[] 0) }
  unfold Builtin.List.listExtendWith
  have ho' : (s.heap.push (seqObj "list" #[] 0)).get? l = some o := Heap.get?_push_of_some _ ho
  refine wpAny_bind (wpAny_typeOf (T := "tuple") ⟨o, ho', hc⟩ ?_)
  have ht : (Value.type "tuple" == Value.type "tuple") = true := by rfl
  rw [if_pos (by rw [ht]; simp)]
  refine wpAny_bind (listItems_at ho' hd ?_)
  refine wpAny_bind (listItems_at (xs := #[]) (n := 0) (Heap.get?_push_size _ rfl) rfl ?_)
  rw [if_neg (by simp)]
  refine wpAny_bind (listUpdate_at (xs := #[]) (n := 0) (Heap.get?_push_size _ rfl) rfl ?_ (Nat.zero_le _) (by show (#[] ++ vs.toArray).size ≤ sizeLine + 1; simp only [Array.size_append, List.size_toArray, List.length_nil]; omega))
  refine wpAny_pure ?_
  show wpAny (model prog w) A (do
      let o ← load s.heap.objs.size
      match o.data with
      | .seq xs _ => pure xs.toList
      | _ => unsupported "internal:collect") Q E { s with heap := (s.heap.push (seqObj "list" #[] 0)).update s.heap.objs.size (Obj.mapSeq (· ++ vs.toArray)) }
  refine wpAny_bind (wpAny_load (get?_update_seq (Heap.get?_push_size _ rfl) _) ?_)
  show wpAny _ _ (pure ((#[] : Array Value) ++ vs.toArray).toList) Q E _
  rw [show ((#[] : Array Value) ++ vs.toArray).toList = vs by simp]
  exact wpAny_pure h


end
end CcS
namespace CcS
open PySem PySem.W PySem.Calls PyProof.Rows
section
variable {prog : Program} {w : World} {A : Around} {E : Value → Shared → Prop} {s : Shared} {β : Type} {vs : List Value} {bs : List β} {enc : β → PyData} {R : Value → β → Prop}
theorem sorted_of_sortT {l : Addr} {vs : List Value} {kw : List (Str × Value)} {Q : Value → Shared → Prop} (hl : PyProof.Rows.IsTup s.heap l vs.toArray) (hL : vs.length ≤ sizeLine) (ha1 : argsOk "sorted" ⟨[.ref l], kw⟩) (ha2 : ∀ x, argsOk "list.sort" ⟨[.ref x], kw⟩)
    (body : ∀ E' : Value → Shared → Prop, wpAny (model prog w) A.in1.in1 (Builtin.«list.sort» ⟨[.ref (s.heap.objs.size + 1)], kw⟩) (fun f s' => f = .done (.ret .none) ∧ Q (.ref (s.heap.objs.size + 1)) s') E' { s with heap := copyHeap s.heap vs }) :
    wpAny (model prog w) A (call (.builtin "sorted") [.ref l] kw) Q E s := by
  refine call_function_entry_kw kind_sorted plain_sorted entry_sorted ha1 ?_
  unfold Builtin.«sorted»
  refine wpAny_bind (m := checkCount "sorted" 1 1 _) (wpAny_pure ?_)
  refine wpAny_bind (CcS.collect_tup hl ?_ hL)
  refine wpAny_bind (wpAny_newList ?_ hL)
  have hsz : ((s.heap.push (seqObj "list" #[] 0)).update s.heap.objs.size (Obj.mapSeq (· ++ vs.toArray))).objs.size = s.heap.objs.size + 1 := by
    rw [Heap.size_update, size_push']
  show wpAny _ _ _ _ _ { s with heap := copyHeap s.heap vs }
  rw [hsz]
  refine wpAny_bind (wpAny_holding (wpAny_call_entry_kw slot_list_sort ⟨_, copyHeap_at s.heap vs, rfl⟩ entry_list_sort ?body (ha2 _)))
  case body =>
    show wpAny (model prog w) A.in1.in1 (Builtin.«list.sort» ⟨[.ref (s.heap.objs.size + 1)], kw⟩) _ _ _
    refine wpAny_mono (body _) (fun f s' hf => ?_) fun _ _ e => e
    obtain ⟨rfl, hq⟩ := hf
    exact ⟨_, rfl, wpAny_pure ⟨_, rfl, hq⟩⟩


theorem sorted_tup {l : Addr} {Q : Value → Shared → Prop} (hl : PyProof.Rows.IsTup s.heap l vs.toArray) (e : EachIs R vs bs) (er : EachIs (fun v b => ∃ as, Reads s.heap v (enc b) as) vs bs) (hal : AllAlike (bs.map enc)) (hk : Sortable (bs.map enc)) (hL : bs.length ≤ sizeLine)
    (hu : ∀ b, b ∈ bs → A.units + 2 + (enc b).depth < cLine) (h : ∀ out, out.length = bs.length → EachIs R out (bs.mergeSort (dataLe false enc)) → Q (.ref (s.heap.objs.size + 1)) { s with heap := sortedAll s.heap vs (List.toArray out) }) :
    wpAny (model prog w) A (call (.builtin "sorted") [.ref l]) Q E s := by
  have er' : EachIs (fun v b => ∃ as, Reads (sortingHeap (copyHeap s.heap vs) (s.heap.objs.size + 1) vs) v (enc b) as) vs bs := er.mono fun _ _ ⟨as, r⟩ => ⟨as, PyProof.Rows.Reads.keeps (fun _ _ => sorting_copy_old) r⟩
  exact sorted_of_sortT hl (by rw [e.length]; exact hL) (args_sorted1 _) (fun _ => args_list_sort _) fun _ => list_sort_vals (s := { s with heap := copyHeap s.heap vs }) (copyHeap_at s.heap vs) (SortsAt.data (s := { s with heap := sortingHeap (copyHeap s.heap vs) (s.heap.objs.size + 1) vs }) (each_map (R := fun v d => ∃ as, Reads (sortingHeap (copyHeap s.heap vs) (s.heap.objs.size + 1) vs) v d as) enc er') hal hk (bound_map hu)) (by rw [e.length]; exact hL) ⟨rfl, h _ (by rw [sortVals_length false rfl]; exact e.length) (sortVals_data false e er' hal)⟩
end
end CcS
namespace CcS
open PySem PySem.Spec L2 Cc PyProof.Rows PySem.W
section
variable {X : Cx}
/-- sorted(xs): its items stand for data -/
def rSortD (K : PySem.W.Frag) : List V → Hp → VK → Prop := fun vs H Q => ∃ (a : Addr) (bs : List (V × D)), vs = [.ref a] ∧ (SqL K H a (bs.map (·.1)) ∨ SqT K H a (bs.map (·.1))) ∧ (∀ b ∈ bs, Dp K H b.1 b.2.py) ∧ AllAlike (bs.map (·.2.py)) ∧ Sortable (bs.map (·.2.py)) ∧ (∀ b ∈ bs, b.2.py.depth ≤ 60) ∧ bs.length ≤ sizeLine ∧
  ∀ p, H p = none → Q (.ref p) (upd H p (.lst ((bs.mergeSort (dataLe false fun b => b.2.py)).map (·.1))))
theorem each_rel {its : List Value} : ∀ {bs : List (V × D)}, Vals (bs.map (·.1)) its → EachIs (fun v (b : V × D) => RelV b.1 v) its bs
  | [], r => by cases r; exact .nil
  | b :: bs, r => by
    cases r with
    | cons h t => exact .cons h (each_rel t)
theorem each_back {out : List Value} : ∀ {bs : List (V × D)}, EachIs (fun v (b : V × D) => RelV b.1 v) out bs → Vals (bs.map (·.1)) out
  | [], r => by cases r; exact .nil
  | b :: bs, r => by
    cases r with
    | cons h t => exact .cons h (each_back t)
theorem each_reads {pins : List (Addr × Obj)} {s : Shared} {σ : L2.St} {H : Hp} (I : Inv X pins σ H s) {its : List Value} : ∀ {bs : List (V × D)}, Vals (bs.map (·.1)) its → (∀ b ∈ bs, Dp X.K H b.1 b.2.py) → EachIs (fun v (b : V × D) => ∃ as, Reads s.heap v b.2.py as) its bs
  | [], r, _ => by cases r; exact .nil
  | b :: bs, r, hd => by
    cases r with
    | cons h t => exact .cons (Dp.reads I b.2.py b.1 _ (hd b (by simp)) h) (each_reads I t fun c hc => hd c (List.mem_cons_of_mem _ hc))
theorem call_sortD (hu : X.A.units + 65 < cLine) : CallR X (.builtin "sorted") (rSortD X.K) := by
  intro pins s σ H vs us Q I r h
  obtain ⟨a, bs, rfl, hs, hd, hal, hk, hz, hL, q⟩ := h
  obtain rfl := Vals.ref1 r
  have fin : ∀ (its : List Value), Vals (bs.map (·.1)) its → ∀ out : List Value, out.length = bs.length → EachIs (fun v (b : V × D) => RelV b.1 v) out (bs.mergeSort (dataLe false fun b => b.2.py)) → EP X pins σ Q (.ref (s.heap.objs.size + 1)) { s with heap := sortedAll s.heap its (List.toArray out) } := fun its rv out hl he => by
    obtain ⟨ep, he'⟩ := PyProof.Rows.sortedAll_at s.heap its (List.toArray out)
    have hv := each_back he
    refine ⟨.ref _, upd H (s.heap.objs.size + 1) (.lst ((bs.mergeSort (dataLe false fun b => b.2.py)).map (·.1))), I.laid (t' := s.toks) (fun _ _ => PyProof.Rows.sortedAll_old) (Nat.le_succ _) ⟨?_, out, ep, hv, he'⟩, rfl, q _ (I.hok.fresh (Nat.le_succ _))⟩
    rw [hv.length, hl]; exact hL
  have hub : ∀ b : V × D, b ∈ bs → X.A.units + 2 + b.2.py.depth < cLine := fun b hb => by have := hz b hb; omega
  rcases hs with hs | hs
  · obtain ⟨its, rv, hl, hlen⟩ := I.list hs
    exact sorted_data (enc := fun b : V × D => b.2.py) hl.isList (each_rel rv) (each_reads I rv hd) hal hk hL hub (fin its rv)
  · obtain ⟨its, rv, hl, hlen⟩ := I.tuple hs
    exact sorted_tup (enc := fun b : V × D => b.2.py) hl (each_rel rv) (each_reads I rv hd) hal hk hL hub (fin its rv)
theorem sortD {K : Fg} (hu : X.A.units + 65 < cLine) (h : X.K = K := by rfl) : CallR X (.builtin "sorted") (rSortD K) := h ▸ call_sortD hu
end
end CcS

/-! Mi: several targets, new lists among them; sorted -/
namespace Mi
open PySem L2 Cc PySem.W
section
variable {K : Fg} {W : Wd K} {E : XK} {Y : Addr → Bool} {B : Bases} {σ : L2.St} {H H' : Hp} {ρ : Env} {L : List (Nat × Addr)}
/-- a new list is held, not in its slot yet -/
theorem SR.hold (s : SR W Y B σ H ρ L) (i : Nat) {p : Addr} {xs : List V} (e : Ext W H H') (hp : H p = none) (hx : H' p = some (.lst xs)) : SR W Y B σ H' ρ ((i, p) :: L) where
  ok := s.ok.ext e
  bs := fun k hk => ⟨(s.bs k hk).1, (s.bs k hk).2.trans (.ext e (s.bs k hk).1)⟩
  len := s.len
  fre := fun q hq => by
    rcases List.mem_cons.mp hq with rfl | hq
    · refine ⟨fun k hk => ?_, W.new s.ok.1 hp, s.ok.fresh hp, _, hx, rfl⟩
      cases z : k.2 p with
      | true => exact .inr rfl
      | false =>
        refine .inl ?_
        cases y : k.1 p with
        | none => rfl
        | some o => rw [(s.bs k hk).2 p o y z] at hp; cases hp
    · obtain ⟨h1, h2, h3, ys, hy, ho⟩ := s.fre q hq
      exact ⟨h1, h2, h3, ys, e.1 _ _ hy (s.lx hq), ho⟩
  nd := by
    rw [List.map_cons, List.nodup_cons]
    refine ⟨fun z => ?_, s.nd⟩
    obtain ⟨q, hq, e⟩ := List.mem_map.mp z
    obtain ⟨_, _, _, ys, hy, _⟩ := s.fre q hq
    rw [show q.2 = p from e, hp] at hy
    cases hy
  sl := fun j t h => by
    rw [YL_also]
    have hs : Same (mask W (YL Y L) H) (mask W (also (YL Y L) p) H') := mask_go (.ext e s.okL.2.1) fun a ha => by
      by_cases ea : a = p
      · subst ea; exact .inr hp
      · exact .inl (by simpa [also, ea] using ha)
    have q := s.sl j t h
    cases t with
    | no => trivial
    | dat d' => obtain ⟨w, h1, h2⟩ := q; exact ⟨w, h1, Dn.up h2 hs⟩
    | own ds => obtain ⟨l, ys, h1, h2, h3, h4⟩ := q; exact ⟨l, ys, h1, List.mem_cons_of_mem _ h2, e.1 _ _ h3 (s.lx h2), Dns.up h4 hs⟩
    | dkR _ => exact q.elim
    | dk ds => obtain ⟨l, ys, h1, h2, h3, h4⟩ := q; exact ⟨l, ys, h1, List.mem_cons_of_mem _ h2, e.1 _ _ h3 (s.lx h2), Dns.up h4 hs⟩
    | slf k C ns ds => obtain ⟨x, dx, fs, h1, hS, h2, h3, h4, h5, h6⟩ := q; exact ⟨x, dx, fs, h1, hS, List.mem_cons_of_mem _ h2, e.1 _ _ h3 (s.lx h2), h4, h5, Dns.up h6 hs⟩
    | row => exact q
/-- .. is put into its slot -/
theorem SR.take (s : SR W Y B σ H ρ L) {i : Nat} {p : Addr} {xs : List V} {ds : List D} (hi : (i, p) ∈ L) (hx : H p = some (.lst xs)) (hd : Dms W (YL Y L) H xs ds) : SR W Y B (σ.set i (some (.ref p))) H (ρ.set i (.own ds)) L where
  ok := s.ok
  bs := s.bs
  len := by simp [s.len]
  fre := s.fre
  nd := s.nd
  sl := fun j t ht => by
    rcases getElem?_set' ht with ⟨rfl, hl, rfl⟩ | ⟨hne, h⟩
    · exact ⟨p, xs, by simp [s.len, hl], hi, hx, hd⟩
    · have q := s.sl j t h
      have e : (σ.set i (some (.ref p)))[j]? = σ[j]? := by simp [List.getElem?_set, hne]
      cases t with
      | no => trivial
      | dat d' => obtain ⟨w, h1, h2⟩ := q; exact ⟨w, by rw [e]; exact h1, h2⟩
      | own ds => obtain ⟨l, xs, h1, h2⟩ := q; exact ⟨l, xs, by rw [e]; exact h1, h2⟩
      | dkR _ => exact q.elim
      | dk ds => obtain ⟨l, xs, h1, h2⟩ := q; exact ⟨l, xs, by rw [e]; exact h1, h2⟩
      | slf k C ns ds => obtain ⟨x, dx, fs, h1, h2⟩ := q; exact ⟨x, dx, fs, by rw [e]; exact h1, h2⟩
      | row => exact e.trans q
/-- what a value stands for -/
def VR (W : Wd K) (Y : Addr → Bool) (H : Hp) (L : List (Nat × Addr)) (i : Nat) (v : V) : Sl → Prop
  | .dat d => Dm W (YL Y L) H v d
  | .own ds => ∃ p xs, v = .ref p ∧ (i, p) ∈ L ∧ H p = some (.lst xs) ∧ Dms W (YL Y L) H xs ds
  | _ => False
theorem VR.up {i : Nat} {v : V} {t : Sl} (h : VR W Y H L i v t) (s : SR W Y B σ H ρ L) (e : Ext W H H') : VR W Y H' L i v t := by
  cases t with
  | dat d => exact Dm.up h s.okL e
  | own ds => obtain ⟨p, xs, h1, h2, h3, h4⟩ := h; exact ⟨p, xs, h1, h2, e.1 _ _ h3 (s.lx h2), h4.up s.okL e⟩
  | _ => exact h.elim
theorem VR.hold {i j : Nat} {v : V} {t : Sl} {p : Addr} (h : VR W Y H L i v t) (s : SR W Y B σ H ρ L) (e : Ext W H H') (hp : H p = none) : VR W Y H' ((j, p) :: L) i v t := by
  have hs : Same (mask W (YL Y L) H) (mask W (YL Y ((j, p) :: L)) H') := by
    rw [YL_also]
    exact mask_go (.ext e s.okL.2.1) fun a ha => by
      by_cases ea : a = p
      · subst ea; exact .inr hp
      · exact .inl (by simpa [also, ea] using ha)
  cases t with
  | dat d => exact Dn.up h hs
  | own ds => obtain ⟨q, xs, h1, h2, h3, h4⟩ := h; exact ⟨q, xs, h1, List.mem_cons_of_mem _ h2, e.1 _ _ h3 (s.lx h2), Dns.up h4 hs⟩
  | _ => exact h.elim
inductive VRs (W : Wd K) (Y : Addr → Bool) (H : Hp) (L : List (Nat × Addr)) : List Nat → List V → List Sl → Prop where
  | nil : VRs W Y H L [] [] []
  | cons {i : Nat} {is : List Nat} {v : V} {vs : List V} {t : Sl} {ts : List Sl} : VR W Y H L i v t → VRs W Y H L is vs ts → VRs W Y H L (i :: is) (v :: vs) (t :: ts)
theorem VRs.up {is : List Nat} {vs : List V} {ts : List Sl} (h : VRs W Y H L is vs ts) (s : SR W Y B σ H ρ L) (e : Ext W H H') : VRs W Y H' L is vs ts := by
  induction h with
  | nil => exact .nil
  | cons h _ ih => exact .cons (h.up s e) ih
/-- an argument: data, or a new list -/
inductive Ag where
  | n (m : Env → M (List D))
  | d (m : Env → M D)
def agGo : List Ag → Env → M (List Sl)
  | [], _ => .ret []
  | .d m :: r, ρ => (m ρ).bind fun x => (agGo r ρ).bind fun ts => .ret (.dat x :: ts)
  | .n m :: r, ρ => (m ρ).bind fun xs => (agGo r ρ).bind fun ts => .ret (.own xs :: ts)
inductive GX (W : Wd K) (E : XK) : TA → List Ag → Prop where
  | nil : GX W E tNil []
  | d {te : TE} {ta : TA} {m : Env → M D} {r : List Ag} : GE W E te m → GX W E ta r → GX W E (tCons te ta) (.d m :: r)
  | n {te : TE} {ta : TA} {m : Env → M (List D)} {r : List Ag} : GN W E te m → GX W E ta r → GX W E (tCons te ta) (.n m :: r)
theorem gx_run {ta : TA} {ags : List Ag} (h : GX W E ta ags) : ∀ (is : List Nat) (H : Hp) (L : List (Nat × Addr)) (R : List Sl → Prop) (Q : List V → Hp → Prop), is.length = ags.length → SR W Y B σ H ρ L → (agGo ags ρ).wp R (ErrB W E B) →
    (∀ ts vs H' L', R ts → SR W Y B σ H' ρ L' → VRs W Y H' L' is vs ts → (∀ i v t, VR W Y H L i v t → VR W Y H' L' i v t) → Q vs H') → ta σ H Q := by
  induction h with
  | nil =>
    intro is H L R Q hl s w k
    cases is with
    | nil => exact k [] [] H L w s .nil fun _ _ _ h => h
    | cons _ _ => cases hl
  | @d te ta m r hm hr ih =>
    intro is H L R Q hl s w k
    cases is with
    | nil => cases hl
    | cons i is =>
      refine hm.seq s.okL s.envA w (fun _ _ h => h.at' s) fun d v H1 e1 o1 r1 hv w1 => ?_
      have s1 := s.up e1
      exact ih is H1 L (fun ts => R (.dat d :: ts)) _ (Nat.succ.inj hl) s1 ((M.wp_bind _).mp w1) fun ts vs H' L' hR s' hvs up => k (.dat d :: ts) (v :: vs) H' L' hR s' (.cons (up i v (.dat d) hv) hvs) fun j x t h => up j x t (h.up s e1)
  | @n te ta m r hm hr ih =>
    intro is H L R Q hl s w k
    cases is with
    | nil => cases hl
    | cons i is =>
      refine hm _ σ H ρ _ s.okL s.envA (M.wp_mono (fun ds hd p xs H1 e1 hp hx hds => ?_) (fun _ _ h => h.at' s) _ ((M.wp_bind _).mp w))
      have s1 := s.hold i (p := p) e1 hp hx
      have e2 : VR W Y H1 ((i, p) :: L) i (.ref p) (.own ds) := ⟨p, xs, rfl, List.mem_cons_self, hx, by rw [YL_also]; exact hds⟩
      exact ih is H1 ((i, p) :: L) (fun ts => R (.own ds :: ts)) _ (Nat.succ.inj hl) s1 ((M.wp_bind _).mp hd) fun ts vs H' L' hR s' hvs up => k (.own ds :: ts) (.ref p :: vs) H' L' hR s' (.cons (up i _ _ e2) hvs) fun j x t h => up j x t (h.hold s e1 hp)
theorem SR.putV (s : SR W Y B σ H ρ L) {i : Nat} {v : V} {t : Sl} (h : VR W Y H L i v t) : SR W Y B (σ.set i (some v)) H (ρ.set i t) L := by
  cases t with
  | dat d => exact s.set i h
  | own ds =>
    obtain ⟨p, xs, rfl, h2, h3, h4⟩ := h
    exact s.take h2 h3 h4
  | _ => exact h.elim
end
def sParX (i j : Nat) (ags : List Ag) : Env → M Fl := fun ρ => (agGo ags ρ).bind fun ts => match ts with
  | [t, u] => .ret (.nx ((ρ.set i t).set j u))
  | _ => .bad
def sParX3 (i j l : Nat) (ags : List Ag) : Env → M Fl := fun ρ => (agGo ags ρ).bind fun ts => match ts with
  | [t, u, x] => .ret (.nx (((ρ.set i t).set j u).set l x))
  | _ => .bad
section
variable {K : Fg} {W : Wd K} {E : XK}
theorem gs_parX {i j : Nat} {ta : TA} {a b : Ag} (h : GX W E ta [a, b]) : GS W E (tPar i j ta) (sParX i j [a, b]) := fun Y B σ H ρ Dn ⟨L, s⟩ w => by
  refine gx_run h [i, j] H L _ _ rfl s ((M.wp_bind _).mp w) fun ts vs H' L' hR s' hvs _ => ?_
  cases hvs with
  | cons h1 hvs =>
    cases hvs with
    | cons h2 hvs =>
      cases hvs with
      | nil => exact ⟨_, _, rfl, hR _ H' ⟨L', (s'.putV h1).putV h2⟩⟩
theorem gs_parX3 {i j l : Nat} {ta : TA} {a b c : Ag} (h : GX W E ta [a, b, c]) : GS W E (tPar3 i j l ta) (sParX3 i j l [a, b, c]) := fun Y B σ H ρ Dn ⟨L, s⟩ w => by
  refine gx_run h [i, j, l] H L _ _ rfl s ((M.wp_bind _).mp w) fun ts vs H' L' hR s' hvs _ => ?_
  cases hvs with
  | cons h1 hvs =>
    cases hvs with
    | cons h2 hvs =>
      cases hvs with
      | cons h3 hvs =>
        cases hvs with
        | nil => exact ⟨_, _, _, rfl, hR _ H' ⟨L', ((s'.putV h1).putV h2).putV h3⟩⟩
/-! sorted -/
def rowPy : PyData → Bool
  | .tuple (_ :: _) => true
  | _ => false
def noRow : PyData → Bool
  | .none => false
  | .tuple _ => false
  | _ => true
def sortOk (xs : List PyData) : Bool := (xs.all fun x => xs.all fun y => alike x y) && (xs.all rowPy || xs.all noRow) && xs.all (fun x => decide (x.depth ≤ 60)) && decide (xs.length ≤ 100000)
def fSortD : List D → Option (List D)
  | [d] => match items d with
    | some ds => if D.pls ds && sortOk (D.pys ds) then some (ds.mergeSort (PySem.W.dataLe false D.py)) else none
    | none => none
  | _ => none
theorem dms_zip {Y : Addr → Bool} {H : Hp} : ∀ {xs : List V} {ds : List D}, Dms W Y H xs ds → (xs.zip ds).map (·.1) = xs ∧ (xs.zip ds).map (·.2) = ds ∧ ∀ b ∈ xs.zip ds, Dm W Y H b.1 b.2
  | _, _, .nil => ⟨rfl, rfl, fun _ h => nomatch h⟩
  | _, _, .cons h t => by
    obtain ⟨h1, h2, h3⟩ := dms_zip t
    refine ⟨by simp [h1], by simp [h2], fun b hb => ?_⟩
    rcases List.mem_cons.mp hb with rfl | hb
    · exact h
    · exact h3 b hb
theorem dms_of {Y : Addr → Bool} {H : Hp} : ∀ bs : List (V × D), (∀ b ∈ bs, Dm W Y H b.1 b.2) → Dms W Y H (bs.map (·.1)) (bs.map (·.2))
  | [], _ => .nil
  | b :: bs, h => .cons (h b (by simp)) (dms_of bs fun c hc => h c (List.mem_cons_of_mem _ hc))
theorem pls_mem : ∀ {ds : List D}, D.pls ds = true → ∀ d ∈ ds, d.pl = true
  | [], _, _, h => nomatch h
  | e :: ds, k, d, h => by
    have k' : e.pl = true ∧ D.pls ds = true := by simpa [D.pls] using k
    rcases List.mem_cons.mp h with rfl | h
    · exact k'.1
    · exact pls_mem k'.2 d h
theorem rc_sortD : RCN W (CcS.rSortD K) fSortD := fun Y H vs ds z Q o hv h q => by
  unfold fSortD at h
  split at h
  case h_2 => cases h
  split at h
  case h_2 => cases h
  rename_i ds0 hi
  split at h
  case isFalse => cases h
  rename_i k
  cases h
  obtain ⟨v, rfl, hw⟩ := hv.un1
  obtain ⟨a, xs, rfl, ha, hs⟩ := items_some hw hi
  obtain ⟨z1, z2, z3⟩ := dms_zip ha
  simp only [Bool.and_eq_true, sortOk, decide_eq_true_eq] at k
  obtain ⟨kp, ⟨⟨k1, k2⟩, k3⟩, k4⟩ := k
  have em : (xs.zip ds0).map (fun b => b.2.py) = D.pys ds0 := by
    rw [D.pys_map, ← z2, List.map_map]
    congr 1
    rw [z2]
  refine ⟨a, xs.zip ds0, rfl, (by rw [z1]; exact hs.imp (fun h => same_l mask_le h) (fun h => same_t mask_le h)), fun (b : V × D) hb => ?_, ?_, ?_, ?_, ?_, fun p hp => ?_⟩
  · have hm : b.2 ∈ ds0 := by rw [← z2]; exact List.mem_map.mpr ⟨b, hb, rfl⟩
    exact Dn.dp _ _ (pls_mem kp _ hm) (Dm.un (z3 b hb))
  · rw [em]
    simp only [List.all_eq_true] at k1
    exact fun x hx y hy => k1 x hx y hy
  · rw [em]
    simp only [Bool.or_eq_true, List.all_eq_true] at k2
    rcases k2 with k2 | k2
    · exact .inl fun d hd => by
        have := k2 d hd
        unfold rowPy at this
        split at this
        · exact ⟨_, _, rfl⟩
        · cases this
    · exact .inr fun d hd => by
        have := k2 d hd
        unfold noRow at this
        split at this
        · cases this
        · cases this
        · rename_i h1 h2; exact ⟨fun e => h1 e, fun xs e => h2 xs e⟩
  · intro b hb
    simp only [List.all_eq_true, decide_eq_true_eq] at k3
    exact k3 _ (by rw [← em]; exact List.mem_map.mpr ⟨b, hb, rfl⟩)
  · rw [← em, List.length_map] at k4
    rw [sizeLine_eq]; omega
  · have pm := List.mergeSort_perm (xs.zip ds0) (PySem.W.dataLe false fun b => b.2.py)
    have hd := dms_of (W := W) (Y := Y) (H := H) ((xs.zip ds0).mergeSort (PySem.W.dataLe false fun b => b.2.py)) fun b hb => z3 b (pm.mem_iff.mp hb)
    have e2 : ((xs.zip ds0).mergeSort (PySem.W.dataLe false fun b => b.2.py)).map (·.2) = ds0.mergeSort (PySem.W.dataLe false D.py) := by
      conv => rhs; rw [← z2]
      exact List.map_mergeSort fun _ _ _ _ => rfl
    rw [e2] at hd
    exact q p _ _ (.of o.1 (Same.new hp)) hp upd_same (Dms.fresh hd o hp)
end
end Mi

/-! Mi: the law's own def -/
namespace Mi
open PySem L2 Cc PySem.W
theorem pss_any {ι : Type} {X : Cx} {st : List Stmt} {t : ι → TS} (h : ∀ i, PSs X st (t i)) : PSs X st (fun D σ H => ∃ i, t i D σ H) := ⟨fun pins s σ H D I ⟨i, hw⟩ => (h i).run pins s σ H D I hw⟩
section
variable {P : Program} {w : World} {K : Fg} {mg : Str → Option Value} {base : Heap} {W : Wd K}
/-- a def that may raise, where nothing is known of what it raises -/
theorem fn_calm {k : Nat} {f : Addr} {fd : FuncData} {ps : List Str} {G : List D → M D} (F : FnOk P w K mg base (L2.CX P w) k f fd ps (spM W G)) : FnOk P w K mg base CX0 k f fd ps (spC W G) := by
  have up : ∀ vs H Q E, spC W G vs H Q E → spM W G vs H Q (fun _ _ _ => False) := fun vs H Q E ⟨Y, ds, o, hd, h⟩ => ⟨Y, ds, o, hd, M.wp_mono (fun _ h => h) (fun _ _ h => h.elim) _ h⟩
  refine ⟨fun vs H Q E h => F.len vs H Q _ (up vs H Q E h), fun A outer s H args us vs Q E hr he hb hv h => ?_⟩
  refine codeAny_mono (F.run A outer s H args us vs Q _ hr he hb hv (up vs H Q E h)) fun r s' q => ?_
  unfold CR at q ⊢
  split at q
  · exact q
  · exact q
  · obtain ⟨_, _, _, _, _, _, _, _, _, _, _, _, z⟩ := q
    exact z.elim
theorem cal_calm {n : Nat} {x : Str} {ps : List Str} {G : List D → M D} (C : Cal P w K mg base (L2.CX P w) n x ps (spM W G)) : Cal P w K mg base CX0 n x ps (spC W G) := by
  obtain ⟨f, fd, F, h⟩ := C
  exact ⟨f, fd, fn_calm F, h⟩
end
/-- the law's promise -/
def spLaw (K : Fg) : Sp := fun vs H Q _ => ∃ (a : Addr) (ns : List Int), vs = [.ref a] ∧ SqL K H a (ns.map V.int) ∧ ns.length ≤ 63 ∧ ∀ H', Q (.bl true) H'
/-- what it does behind its row -/
def lawM (n : Nat) (a : Env → M Fl) : M D := (a (.no :: .row :: List.replicate (n - 2) .no)).bind fin
abbrev tRow : TS := tAsg (tLst (tCons (tVar 0) (tCons (tC (.int 0)) (tCons (tC (.int 0)) (tCons (tC (.int 0)) tNil))))) (gName 1)
theorem ok_law {P : Program} {w : World} {K : Fg} {mg : Str → Option Value} {base : Heap} {st : Stmt} {f : Addr} {fd : FuncData} {N : List Str} {k : Nat} {a : Env → M Fl} {ct : List Str → Option Addr} {cls : Nat → Addr} {ea : Str → Option Addr} {ef : Str → List Str} (F : Fun K "law" "law" st f fd) (S : FnScope N ["_law_script"] (defScope st)) (hN : 2 ≤ N.length)
    (hb : ∀ (cdv : Value) (A : Around) (outer : List PySem.Env) (s : Shared) (H : Hp) (E : XK), Room k (A.deeper (PyProof.Rows.envOfC "law" (defScope st) s.heap.objs.size f cdv)) → ∃ t : (Addr × List Int) × Addr → TS, PSs (cxOf CX0 P w K mg base N "law" (defScope st) f cdv A outer s H E).nox (defBody st) (tSeq tRow fun D σ H => ∃ i, t i D σ H) ∧ ∀ i, GS (rowW K ct cls ea ef i.1 i.2) Cc.E0 (t i) a)
    (hw : (lawM N.length a).wp (fun d => d = .bl true) (fun _ _ => False)) : FnOk P w K mg base CX0 (k + 1) f fd ["_law_script"] (spLaw K) := by
  refine F.ok S (fun vs H Q E h => ?_) (fun cdv A outer s H vs Q E hr h => ?_)
  · obtain ⟨b, ns, rfl, _⟩ := h
    rfl
  · obtain ⟨b, ns, rfl, hS, hlen, hq⟩ := h
    obtain ⟨t, h1, h2⟩ := hb cdv A outer s H E hr
    refine ⟨_, h1, .ref b, rfl, by simp [sizeLine_eq], fun r hr0 => ?_⟩
    have e1 := Same.new (o := .lst [.ref b, .int 0, .int 0, .int 0]) hr0
    have hrow : Row K (b, ns) (upd H r (.lst [.ref b, .int 0, .int 0, .int 0])) r := ⟨0, 0, 0, upd_same, same_l e1 hS, ind_new hS hr0, hlen, by omega⟩
    have hcell : (upd H r (.lst [.ref b, .int 0, .int 0, .int 0])) r = some (.lst [.ref b, .int 0, .int 0, .int 0]) := upd_same
    generalize upd H r (.lst [.ref b, .int 0, .int 0, .int 0]) = H1 at hrow hcell ⊢
    refine ⟨((b, ns), r), ?_⟩
    let W := rowW K ct cls ea ef (b, ns) r
    have sr : SR W W.X ⟨[(H1, W.X)], none⟩ ((L2.start N [.ref b]).set 1 (some (.ref r))) H1 (.no :: .row :: List.replicate (N.length - 2) .no) [] := {
      ok := ⟨hrow, fun _ h => h, fun c hc => by
        have : c = r := by simpa [W, rowW] using hc
        subst this
        exact ⟨_, hcell, rfl⟩⟩
      bs := fun k hk => by
        rw [List.mem_singleton.mp hk]
        exact ⟨fun _ h => h, fun _ _ e _ => e⟩
      len := by simp [L2.start]; omega
      fre := fun p hp => nomatch hp
      nd := .nil
      sl := fun i t' ht => by
        match i with
        | 0 => cases ht; trivial
        | 1 =>
          cases ht
          show ((L2.start N [.ref b]).set 1 (some (.ref r)))[1]? = some (some (V.ref r))
          rw [List.getElem?_set_self]
          simp [L2.start]; omega
        | i + 2 =>
          rw [List.getElem?_cons_succ, List.getElem?_cons_succ] at ht
          rw [(List.mem_replicate.mp (List.mem_of_getElem? ht)).2]
          trivial }
    refine h2 ((b, ns), r) W.X ⟨[(H1, W.X)], none⟩ _ H1 _ _ ⟨[], sr⟩ (M.wp_mono (fun fl hf => ?_) (fun c p hc => hc.elim) _ ((M.wp_bind _).mp hw))
    cases fl with
    | nx ρ' => exact absurd (show D.non = D.bl true from hf) (by simp)
    | rt d =>
      obtain rfl : d = .bl true := hf
      exact fun v H' _ hv => by cases hv; exact hq H'
    | bk _ => exact hf.elim
    | rs _ _ _ _ => exact hf.elim
    | ct _ => exact hf.elim
end Mi

/-! a < b of alike data -/
namespace CcS
open PySem PySem.Spec L2 Cc PyProof.Rows PySem.W
section
variable {X : Cx}
def rLtD (K : PySem.W.Frag) : R2 := fun x y H Q => ∃ d e, Dp K H x d ∧ Dp K H y e ∧ alike d e = true ∧ d ≠ .none ∧ d.depth ≤ 60 ∧ Q (.bl (dataLt d e)) H
theorem op_ltD (hu : X.A.units + 64 < cLine) : OpR X (compareOp .Lt) (rLtD X.K) := by
  intro pins s σ H x y v u Q I rx ry h
  obtain ⟨d, e, hd, he, ha, hn, hz, q⟩ := h
  obtain ⟨as, r1⟩ := Dp.reads I d x v hd rx
  obtain ⟨bs, r2⟩ := Dp.reads I e y u he ry
  exact lt_data r1 r2 ha hn (by omega) ⟨.bl _, H, I, rfl, q⟩
theorem ltDK {K : Fg} (hu : X.A.units + 64 < cLine) (h : X.K = K := by rfl) : OpR X (compareOp .Lt) (rLtD K) := h ▸ op_ltD hu
end
end CcS

/-! Mi: x = xs.pop(i) -/
namespace Mi
open PySem L2 Cc PySem.W
def sPopAt (j i : Nat) (m : Env → M D) : Env → M Fl := fun ρ => match ρ[i]? with
  | some (.own ds) => (m ρ).bind fun d => match d with
    | .int k => match ixN ds.length k with
      | some n => match ds[n]? with
        | some z => if ds.length ≤ 100000 then .ret (.nx ((ρ.set i (.own (ds.eraseIdx n))).set j (.dat z))) else .bad
        | none => .bad
      | none => .bad
    | _ => .bad
  | _ => .bad
theorem Dns.erase {K : Fg} {H : Hp} : ∀ {vs : List V} {ds : List D} (i : Nat), Dns K H vs ds → Dns K H (vs.eraseIdx i) (ds.eraseIdx i)
  | _, _, _, .nil => by simpa using Dns.nil
  | _, _, 0, .cons _ t => t
  | _, _, i + 1, .cons q t => .cons q (Dns.erase i t)
section
variable {K : Fg} {W : Wd K} {E : XK} {te : TE} {m : Env → M D}
theorem gs_popAt {i j : Nat} (h : GE W E te m) : GS W E (tAsg (tBM K "list" rPopAt (tVar i) (tCons te tNil)) (gName j)) (sPopAt j i m) := fun Y B σ H ρ Dn ⟨L, s⟩ w => by
  unfold sPopAt at w
  split at w
  case h_2 => exact w.elim
  rename_i ds hi
  obtain ⟨l, xs, h1, h2, h3, h4⟩ := s.ownAt hi
  refine ⟨.ref l, h1, .inl ⟨rfl, xs, SqL.of h3⟩, h.runA s w fun d v H1 s1 hv w1 => ?_⟩
  obtain ⟨l', xs', g1, g2, g3, g4⟩ := s1.ownAt hi
  rw [h1] at g1
  cases g1
  cases d with
  | int k =>
    cases hv
    dsimp only at w1
    have hl := g4.length
    cases hn : ixN ds.length k with
    | none => rw [hn] at w1; exact w1.elim
    | some n =>
      rw [hn] at w1
      dsimp only at w1
      cases hz : ds[n]? with
      | none => rw [hz] at w1; exact w1.elim
      | some z =>
        rw [hz] at w1
        dsimp only at w1
        split at w1
        case isFalse => exact w1.elim
        rename_i hlen
        obtain ⟨q1, q2, q3, q4⟩ := ixN_seq hn
        obtain ⟨y, hy, hyz⟩ : ∃ y, xs'[n]? = some y ∧ Dm W (YL Y L) H1 y z := by
          obtain ⟨y, hy, hd⟩ := g4.getD hz
          exact ⟨y, hy, hd⟩
        have s2 := s1.put hi h1 g2 g3 (Dns.erase n g4)
        have hyz' : Dm W (YL Y L) (upd H1 l (.lst (xs'.eraseIdx n))) y z := by
          unfold Dm
          rw [mask_off (YL_l g2)]
          exact hyz
        exact ⟨l, xs', k, n, y, rfl, rfl, g3, by omega, by omega, by rw [hl]; exact q1, hy, w1 _ _ ⟨L, s2.set j hyz'⟩⟩
  | _ => exact w1.elim
end
/-! a < b of alike data -/
def fLtD (d e : D) : Option D := if d.pl && e.pl && alike d.py e.py && notNone d.py && decide (d.py.depth ≤ 60) then some (.bl (dataLt d.py e.py)) else none
theorem r2_ltD {K : Fg} {W : Wd K} : R2M W (CcS.rLtD K) fLtD := .of fun d e z h => by
  unfold fLtD at h
  split at h
  · rename_i k
    simp only [Bool.and_eq_true, decide_eq_true_eq] at k
    cases h
    obtain ⟨⟨⟨⟨k1, k2⟩, k3⟩, k4⟩, k5⟩ := k
    exact ⟨fun x y H Q hx hy q => ⟨d.py, e.py, hx.dp d x k1, hy.dp e y k2, k3, (fun e0 => by rw [e0] at k4; cases k4), k5, q _ H (Same.refl _) (.bl _)⟩, rfl, rfl⟩
  · cases h
end Mi

/-! Mi: enumerate of a list -/
namespace Mi
open PySem L2 Cc PySem.W
theorem pi_enK {X : Cx} (K : Fg) {e : Expr} {ta : TA} {p pos tpos : Pos} {elts : List Expr} {kk : Nat} (hm : X.mg "enumerate" = none) (ha : PA X [e] ta) (hK : X.K = K := by rfl) (hg : Gl X "enumerate" := by rfl) (hs : starEach [e] X.env = [(false, eval e X.env)] := by rfl) :
    PI X (.Tuple elts kk tpos) (.Call (.Name "enumerate" p) [e] [] pos) (iEnum K ta) := hK ▸ pi_enum hg hm ha hs
def iEnL (a : Env → M D) : Env → M (List D) := fun ρ => (a ρ).bind fun d => match d with
  | .lst ds => .ret (enD ds)
  | _ => .bad
theorem walk_el {K : Fg} {a : Addr} {xs : List V} : Walk (Ite K a) xs.length (fun H => SqL K H a xs) (YPair (fun i => some (.int (i : Nat))) (fun i => xs[i]?)) := by
  refine ⟨fun i _ hi q => ⟨xs, xs[i], q, by simp [hi]⟩, fun _ q => ⟨xs, q, Nat.le_refl _⟩, fun i H v H' _ q y => ?_⟩
  obtain ⟨T, x, h1, h2, h3, h4⟩ := y
  exact ⟨T, .int (i : Nat), x, h1, h2, h3, rfl, h4 xs q⟩
section
variable {K : Fg} {W : Wd K} {E : XK}
theorem gi_enL {te : TE} {a : Env → M D} (ha : GE W E te a) : GI W E (iEnum K (tCons te tNil)) (iEnL a) := fun Y σ H ρ R o e w =>
  ha.seq o e w (fun _ _ h => h) fun d x H1 e1 o1 r1 hx w1 => by
    cases hx with
    | @lst a xs ds hs hd =>
      have hl := hd.length
      refine ⟨a, xs, rfl, SqL.of (mask_le _ _ hs), w1 _ (fun H => SqL K H a xs) (YPair (fun i => some (.int (i : Nat))) (fun i => xs[i]?)) H1 e1 (by rw [show (enD ds).length = xs.length by simp [enD, hl]]; exact walk_el) (fun H' s => sqL_st hs s) fun i Ha x Hb Y' hi s oY hf y => ?_⟩
      obtain ⟨Tq, x1, x2, rfl, hT, rfl, g1, g2⟩ := y
      cases g1
      have hi' : i < ds.length := by simpa [enD] using hi
      obtain ⟨d, hd1, hd2⟩ := hd.get g2
      have ed : ds.getD i .non = d := by simp [List.getD, hd1]
      exact ⟨Same.new hT, .tup [.int (i : Nat), d], by simp [enD, hi']; exact (List.getElem?_eq_some_iff.mp hd1).2, pair_new oY hT (.int _) (Dn.up hd2 (mask_go s hf))⟩
    | _ => exact w1.elim
end
/-! a statement that is never run -/
def sBad : Env → M Fl := fun _ => .bad
theorem gs_never {K : Fg} {W : Wd K} {E : XK} : GS W E tNever sBad := fun Y B σ H ρ Dn s w => w.elim
end Mi

/-! a < b of alike data -/
namespace CcS
open PySem PySem.Spec L2 Cc PyProof.Rows PySem.W
section
variable {X : Cx}
def rGtD (K : PySem.W.Frag) : R2 := fun x y H Q => ∃ d e, Dp K H x d ∧ Dp K H y e ∧ alike d e = true ∧ d ≠ .none ∧ d.depth ≤ 60 ∧ Q (.bl (dataLt e d)) H
theorem op_gtD (hu : X.A.units + 64 < cLine) : OpR X (compareOp .Gt) (rGtD X.K) := by
  intro pins s σ H x y v u Q I rx ry h
  obtain ⟨d, e, hd, he, ha, hn, hz, q⟩ := h
  obtain ⟨as, r1⟩ := Dp.reads I d x v hd rx
  obtain ⟨bs, r2⟩ := Dp.reads I e y u he ry
  exact gt_data r1 r2 ha hn (by omega) ⟨.bl _, H, I, rfl, q⟩
theorem gtDK {K : Fg} (hu : X.A.units + 64 < cLine) (h : X.K = K := by rfl) : OpR X (compareOp .Gt) (rGtD K) := h ▸ op_gtD hu
end
end CcS

/-! o == u by an own __eq__ -/
namespace Cc
open PySem L2 PyProof.Rows
structure EqC (P : Program) (w : World) (K : Fg) (mg : Str → Option Value) (base : Heap) (n : Nat) (C : Addr) (sp : Sp) : Prop where
  run : ∃ (f : Addr) (fd : FuncData), FnOk P w K mg base CX0 n f fd ["self", "other"] sp ∧ L2.Binds K fd ["self", "other"] [] ∧ PySem.W.findIn K (.ref C) "__eq__" = some (some (.ref f)) ∧ PySem.W.isFn K (.ref f) = true
def rEqI (C : Addr) (sp : Sp) : R2 := fun x y H Q => ∃ (a b dx dy : Addr) (fs gs : List (Str × V)), x = .ref a ∧ y = .ref b ∧ H a = some (.ins C dx fs) ∧ H b = some (.ins C dy gs) ∧ sp [.ref a, .ref b] H (fun v H' => ∃ k : Bool, v = .bl k ∧ Q (.bl k) H') E0
theorem op_eqI {X : Cx} {n m : Nat} {C : Addr} {sp : Sp} (L : EqC X.prog X.w X.K X.mg X.base n C sp) (hr : Room m X.A) (hn : n ≤ m := by decide) : OpR X (compareOp .Eq) (rEqI C sp) := by
  intro pins s σ H x y v u Q I rx ry h
  obtain ⟨a, b, dx, dy, fs, gs, rfl, rfl, ea, eb, h⟩ := h
  obtain ⟨f, fd, F, hb, hs, hf⟩ := L.run
  cases rx
  cases ry
  obtain ⟨mA, J, _⟩ := ins_get I.hok ea
  obtain ⟨mB, J', _⟩ := ins_get I.hok eb
  obtain ⟨od, J, _⟩ := J.look
  obtain ⟨od', J', _⟩ := J'.look
  obtain ⟨mm, hF⟩ := I.fr
  have hr1 : Room n X.A := hr.mono hn
  show wpAny (model X.prog X.w) X.A (richCompare .Eq (.ref a) (.ref b)) (EP X pins σ Q) X.xe s
  refine PySem.W.cmp_K (op := .Eq) (tb := .ref C) hr1.units0 hF I.ok.mod.kin J J'.type (by simp [PySem.W.notFirst]) hs hf ?_
  refine wpAny_call (codeAny_mono (F.run X.A X.stack s H ⟨[.ref a, .ref b], []⟩ [.ref a, .ref b] [.ref a, .ref b] _ _ hr1 I.env0 (by
    have := hb s [.ref a, .ref b] I.kIn rfl
    simpa using this) (.cons rfl (.cons rfl .nil)) h) fun r s' hq => ?_)
  cases r with
  | error e => exact (show False from hq).elim
  | ok fl =>
    cases fl with
    | ret w =>
      obtain ⟨z, H', I', rz, k, rfl, q⟩ := I.after hq
      cases rz
      exact ⟨.bl k, H', I', rfl, q⟩
    | next => exact False.elim hq
    | brk => exact False.elim hq
    | cont => exact False.elim hq
end Cc

/-! Mi: isinstance of the own class, of its instances -/
namespace Mi
open PySem L2 Cc PySem.W RZ
structure IsiC (K : Fg) (C : Addr) : Prop where
  h1 : PySem.W.findIn K (.ref C) "__class__" = some (some (.builtin "object.__class__"))
  h2 : PySem.W.specialIn K (.builtin "object.__class__") "__get__" = some (some (.builtin "getset_descriptor.__get__"))
  h3 : PySem.W.takesIn K (.builtin "object.__class__") = some true
  h4 : PySem.W.mroIn K C (.type "object") = some true
def mIsO (p : List Str → Bool) (a : Env → M D) : Env → M D := fun ρ => (a ρ).bind fun d => match d with
  | .ob _ ns _ => if p ns then .ret (.bl true) else .bad
  | _ => .bad
theorem ge_isO {K : Fg} {W : Wd K} {E : XK} {te : TE} {a : Env → M D} {C : Addr} {p : List Str → Bool} (hp : ∀ ns C', p ns = true → W.ct ns = some C' → C' = C) (c : Cls K C) (I : IsiC K C) (ha : GE W E te a) : GE W E (tCB (rIsi K) (tCons te (tCons (tC (.ref C)) tNil))) (mIsO p a) := fun Y σ H ρ Q o e w =>
  ha.seq o e w (fun _ _ h => h) fun d x H1 e1 o1 r1 hx w1 => by
    cases d with
    | ob C' ns ds =>
      dsimp only at w1
      split at w1
      · rename_i k
        have hx' := hx
        obtain ⟨y, dy, gs, rfl, hy1, _, _⟩ := ob_at hp k hx
        exact ⟨.ref y, .ref C, .ref C, .ref C, true, rfl, .own C, .base (.ins hy1 c I.h1 I.h2 I.h3 I.h4), if_pos (by simp), w1 _ H1 e1 (.bl _)⟩
      · exact w1.elim
    | _ => exact w1.elim
/-! a > b of alike data -/
def fGtD (d e : D) : Option D := if d.pl && e.pl && alike d.py e.py && notNone d.py && decide (d.py.depth ≤ 60) then some (.bl (dataLt e.py d.py)) else none
theorem r2_gtD {K : Fg} {W : Wd K} : R2M W (CcS.rGtD K) fGtD := .of fun d e z h => by
  unfold fGtD at h
  split at h
  · rename_i k
    simp only [Bool.and_eq_true, decide_eq_true_eq] at k
    cases h
    obtain ⟨⟨⟨⟨k1, k2⟩, k3⟩, k4⟩, k5⟩ := k
    exact ⟨fun x y H Q hx hy q => ⟨d.py, e.py, hx.dp d x k1, hy.dp e y k2, k3, (fun e0 => by rw [e0] at k4; cases k4), k5, q _ H (Same.refl _) (.bl _)⟩, rfl, rfl⟩
  · cases h
/-! == of instances by their own __eq__ -/
def mEqI (p : List Str → Bool) (F : List D → M D) (a b : Env → M D) : Env → M D := fun ρ => (a ρ).bind fun d => (b ρ).bind fun e => match d, e with
  | .ob C ns ds, .ob C' ms es => if p ns && p ms then ((F [.ob C ns ds, .ob C' ms es]).calm).bind fun r => (asB r).bind fun k => .ret (.bl k) else .bad
  | _, _ => .bad
section
variable {K : Fg} {W : Wd K} {E : XK} {te tv : TE} {m a b : Env → M D} {ta : TA} {t : Env → M (List D)} {p : List Str → Bool} {F : List D → M D} {C : Addr}
theorem ge_eqI (hp : ∀ ns C', p ns = true → W.ct ns = some C' → C' = C) {tb : TE} (ha : GE W E te a) (hb : GE W E tb b) : GE W E (tOp (rEqI C (spC W F)) te tb) (mEqI p F a b) := fun Y σ H ρ Q o e w =>
  ha.seq o e w (fun _ _ h => h) fun d x H1 e1 o1 r1 hx w1 => hb.seq (Er := ErrP W E H) o1 r1 w1 (fun _ _ h => h.up e1) fun d2 y H2 e2 o2 r2 hy w2 => by
    have hx2 := hx.up o1 e2
    cases d with
    | ob C1 ns ds =>
      cases d2 with
      | ob C2 ms es =>
        dsimp only at w2
        split at w2
        · rename_i k
          simp only [Bool.and_eq_true] at k
          have hx' := hx2
          have hy' := hy
          obtain ⟨x, dx, fs, rfl, hx1, _, _⟩ := ob_at hp k.1 hx2
          obtain ⟨y, dy, gs, rfl, hy1, _, _⟩ := ob_at hp k.2 hy
          refine ⟨x, y, dx, dy, fs, gs, rfl, rfl, hx1, hy1, Y, _, o2, .cons hx' (.cons hy' .nil), M.wp_mono (fun d hd v H3 e3 hv => ?_) (fun _ _ h => h) _ (M.wp_calm (E := fun c p => ErrP W E H c p) (E' := fun _ _ => False) _ ((M.wp_bind _).mp w2))⟩
          obtain ⟨k, rfl, hq⟩ := asB_wp ((M.wp_bind _).mp hd)
          cases hv
          exact ⟨k, rfl, hq _ H3 ((e1.trans e2).trans e3) (.bl _)⟩
        · exact w2.elim
      | _ => exact w2.elim
    | _ => exact w2.elim
/-! a new instance -/
/-! int(text) -/
def fIntS : List D → Option D
  | [.str x] => match PySem.intText? x with
    | some n => if x.length ≤ 640 then some (.int n) else none
    | none => none
  | _ => none
theorem rc_intS : RCM W (fun xs H Q => ∃ a n, xs = [.str a] ∧ PySem.intText? a = some n ∧ a.length ≤ 640 ∧ Q (.int n) H) fIntS := .of fun ds z h => by
  unfold fIntS at h
  split at h
  · split at h
    · rename_i n hn
      split at h
      · rename_i hl
        cases h
        refine ⟨fun vs H Q hv q => ?_, rfl, rfl⟩
        obtain ⟨v, rfl, hw⟩ := hv.un1
        cases hw
        exact ⟨_, n, rfl, hn, hl, q _ H (Same.refl _) (.int n)⟩
      · cases h
    · cases h
  · cases h
end
end Mi

/-! try with several clauses, each with a name or without one -/
namespace Cc
open PySem L2 PySem.Spec PyProof.Rows
/-- where a clause's suite ends: its name goes -/
def endsN : Option Nat → Ends → Ends
  | none, D => D
  | some i, D => { nx := fun σ H => D.nx (σ.set i none) H, rt := D.rt, bk := fun σ H => D.bk (σ.set i none) H, ct := fun σ H => D.ct (σ.set i none) H }
def slotN (a : Addr) : Option Nat → L2.St → L2.St
  | none, σ => σ
  | some i, σ => σ.set i (some (.ref a))
abbrev SuiteT := Addr → Value → Option Addr → TS
/-- what the clauses wish of an error of the body -/
def wClauses (K : Fg) (Wo : WX) (D : Ends) : List (Value × Option Nat × SuiteT) → WX
  | [] => Wo
  | q :: r => fun cls d σ H => ∃ b, PySem.W.exmOne K cls q.1 = some b ∧ (b = true → ∀ a, H a = none → q.2.2 a cls d (endsN q.2.1 D) (slotN a q.2.1 σ) H) ∧ (b = false → wClauses K Wo D r cls d σ H)
/-- the clauses, told one by one -/
inductive ClausesOk (X : Cx) : List ExceptHandler → List (Value × Option Nat × SuiteT) → Prop
  | nil : ClausesOk X [] []
  | plain {x : Str} {c : Value} {ts : SuiteT} {b : Stmt} {rest : List Stmt} {p q : Pos} {hd : List ExceptHandler} {l : List (Value × Option Nat × SuiteT)} (nm : Names X x c)
      (su : ∀ (a : Addr) (oe : Obj) (cls : Value) (d : Option Addr) (pn : List (Addr × Obj)), Zc cls d oe → (∃ vs, oe.data = .fields vs) → PSs (X.suite a ((a, oe) :: pn)) (b :: rest) (ts a cls d)) (r : ClausesOk X hd l) : ClausesOk X (.ExceptHandler (some (.Name x p)) none (b :: rest) q :: hd) ((c, none, ts) :: l)
  | named {x n : Str} {c : Value} {i : Nat} {ts : SuiteT} {b : Stmt} {rest : List Stmt} {p q : Pos} {hd : List ExceptHandler} {l : List (Value × Option Nat × SuiteT)} (nm : Names X x c) (nd : X.N.Nodup) (hi : X.N[i]? = some n) (hl : X.env.kindOf n = some .local)
      (su : ∀ (a : Addr) (oe : Obj) (cls : Value) (d : Option Addr) (pn : List (Addr × Obj)), Zc cls d oe → (∃ vs, oe.data = .fields vs) → PSs (X.suite a ((a, oe) :: pn)) (b :: rest) (ts a cls d)) (r : ClausesOk X hd l) : ClausesOk X (.ExceptHandler (some (.Name x p)) (some n) (b :: rest) q :: hd) ((c, some i, ts) :: l)
section
variable {X : Cx} {pins : List (Addr × Obj)} {D : Ends}
/-- an error that has been noted, over the ground of the frames -/
structure Landed (X : Cx) (pins : List (Addr × Obj)) (B : Heap) (a : Addr) (cls : Value) (d : Option Addr) (σ : L2.St) (H : Hp) (sI : Shared) (s : Shared) (h : Heap) : Prop where
  fl : HandSPX.FlyingZ B (X.env :: X.outer) a (Zc cls d) h
  J : Inv X pins σ H sI
  nb : ∀ b o, sI.heap.get? b = some o → b ∉ frs X.stack → B.get? b = some o
  up : sI.heap.UpToSlots h
  na : H a = none
  os : s.os = sI.os
  ag : AllBare s.gens
theorem Landed.inv {B : Heap} {a : Addr} {cls : Value} {d : Option Addr} {σ : L2.St} {H : Hp} {sI s : Shared} {h : Heap} (l : Landed X pins B a cls d σ H sI s h) : Inv X pins σ H { s with heap := h } := l.J.landed l.nb l.fl.1 l.up l.os l.ag
theorem Landed.suite {B : Heap} {a : Addr} {cls : Value} {d : Option Addr} {σ : L2.St} {H : Hp} {sI s : Shared} {h : Heap} (l : Landed X pins B a cls d σ H sI s h) (fr : X.env.frame = some X.env.locals) :
    ∃ oe vs, h.get? a = some oe ∧ Zc cls d oe ∧ oe.data = .fields vs ∧ Inv (X.suite a ((a, oe) :: (X.pn ++ pins))) [] σ H { s with heap := h } := by
  obtain ⟨oe, vs, e1, e2, e3⟩ := l.fl.there
  have out : a ∉ frs (X.env :: X.outer) := fun m => by
    obtain ⟨_, o2, q, nf⟩ := l.fl.2.2.1.mem m
    rw [e1] at q
    cases q
    exact nf _ e3
  have o1 : a ≠ X.env.locals := fun z => out (List.mem_filterMap.mpr ⟨X.env, List.mem_cons_self, by rw [fr, z]⟩)
  have o2 : a ∉ X.fs := fun m => by
    obtain ⟨e, me, q⟩ := List.mem_filterMap.mp m
    exact out (List.mem_filterMap.mpr ⟨e, List.mem_cons_of_mem _ me, q⟩)
  exact ⟨oe, vs, e1, e2, e3, l.inv.suite e1 e3 l.na o1 o2⟩
/-- the name in a clause's head -/
theorem clause_name {a : Addr} {oe : Obj} {c : Value} {x : Str} {p : Pos} {σ : L2.St} {H : Hp} {s : Shared} {pn : List (Addr × Obj)} {R F : Value → Shared → Prop} (nm : Names X x c) (S : Inv (X.suite a ((a, oe) :: pn)) [] σ H s) (k : R c s) :
    wpAny (model X.prog X.w) (X.A.mark (some (.ref a))) (eval (.Name x p) X.env) R F s := by
  obtain ⟨g, db, m | ⟨m, v, nn⟩⟩ := nm
  · exact ld_glob (X := X.suite a ((a, oe) :: pn)) S g m k db
  · exact ld_blt (X := X.suite a ((a, oe) :: pn)) S g m v k nn db
theorem clauses_run {Wo : WX} (st : X.stack = X.env :: X.outer) (fr : X.env.frame = some X.env.locals) (ok : X.Ok) (tk : Takes X Wo) {B : Heap} {a : Addr} {cls : Value} {d : Option Addr} {σ : L2.St} {H : Hp} {sI s : Shared} {h : Heap} (ld : Landed X pins B a cls d σ H sI s h) :
    ∀ {hd : List ExceptHandler} {l : List (Value × Option Nat × SuiteT)}, ClausesOk X hd l → wClauses X.K Wo D l cls d σ H → wpAny (model X.prog X.w) X.A (handleBy (.ref a) X.env hd) (SP X pins D) X.xe { s with heap := h } := by
  obtain ⟨oe0, vs0, g0, z0, f0, S0⟩ := ld.suite fr
  have isC : PySem.W.Looks (model X.prog X.w) h (typeOf (.ref a)) cls := fun A R F s' k q => wpAny_typeOf_ref (k _ _ g0) (by rw [z0.1]; exact q)
  intro hd l C
  induction C with
  | nil =>
    intro w
    refine wpAny_handleBy_nil ?_
    have fl' := ld.fl
    obtain ⟨_, _, _, oe, vs, T, _, _, ge, ze, de, h1, _⟩ := fl'
    have thrown : wpAny (model X.prog X.w) X.A (setFlight (.ref a) X.env.frame) (fun _ s4 => wpAny (model X.prog X.w) X.A (throw (.ref a) : Sem Flow) (SP X pins D) X.xe s4) X.xe { s with heap := h } := by
      rw [fr]
      exact HandSPX.setFlight_upZ ld.fl fun h4 hh up4 => wpAny_throw (tk _ _ ⟨a, B, sI, pins, σ, H, cls, d, rfl, ld.J, ld.nb, ld.up.trans up4, .inr (.inr (by rw [st]; exact hh)), ld.na, ld.os, ld.ag, w⟩)
    unfold PySem.passOn
    refine wpAny_bind (wpAny_field ge de h1 ?_)
    rw [if_neg (show ¬ ((Value.ref T == Value.none) = true) by simp)]
    first
      | exact wpAny_bind (wpAny_pure (wpAny_bind thrown))
      | exact wpAny_bind thrown
  | @plain x c ts b rest p q hd' l' nm su r ih =>
    intro ⟨k, e1, yes, no⟩
    refine wpAny_handleBy_cons (codeAny_handlers_test (clause_name nm S0 ((PySem.W.exm_one (M := model X.prog X.w) ld.inv.kIn isC e1).here ?_))) (by intro z; cases z)
    cases k with
    | false => exact ih (no rfl)
    | true =>
      refine codeAny_handlers_suite (HandSPX.lands_againZ ld.fl fun h4 f4 u4 => ?_)
      have ld4 : Landed X pins B a cls d σ H sI s h4 := ⟨f4, ld.J, ld.nb, ld.up.trans u4, ld.na, ld.os, ld.ag⟩
      obtain ⟨oe, vs, _, z4, d4, S4⟩ := ld4.suite fr
      refine wpAny_mono ((su a oe cls d (X.pn ++ pins) z4 ⟨_, d4⟩).run [] _ _ H _ S4 (yes rfl a ld.na)) (fun f s6 e6 => ?_) (fun _ _ z => z.elim)
      cases f with
      | ret u => obtain ⟨v, σ6, H6, S6, r6, q6⟩ := e6; exact ⟨v, σ6, H6, S6.unsuite ok, r6, q6⟩
      | next => obtain ⟨σ6, H6, S6, q6⟩ := e6; exact ⟨σ6, H6, S6.unsuite ok, q6⟩
      | brk => obtain ⟨σ6, H6, S6, q6⟩ := e6; exact ⟨σ6, H6, S6.unsuite ok, q6⟩
      | cont => obtain ⟨σ6, H6, S6, q6⟩ := e6; exact ⟨σ6, H6, S6.unsuite ok, q6⟩
  | @named x n c i ts b rest p q hd' l' nm nd hi hl su r ih =>
    intro ⟨k, e1, yes, no⟩
    refine wpAny_handleBy_cons (codeAny_handlers_test (clause_name nm S0 ((PySem.W.exm_one (M := model X.prog X.w) ld.inv.kIn isC e1).here ?_))) (by intro z; cases z)
    cases k with
    | false => exact ih (no rfl)
    | true =>
      refine codeAny_handlers_suite_as (HandSPX.lands_againZ ld.fl fun h4 f4 u4 => ?_)
      have ld4 : Landed X pins B a cls d σ H sI s h4 := ⟨f4, ld.J, ld.nb, ld.up.trans u4, ld.na, ld.os, ld.ag⟩
      obtain ⟨oe, vs, _, z4, d4, S4⟩ := ld4.suite fr
      refine store_ok (X := X.suite a ((a, oe) :: (X.pn ++ pins))) (v := .ref a) S4 nd hi (.inl hl) rfl (fun s5 S5 => ?_) (.inr hl)
      refine wpAny_mono ((su a oe cls d (X.pn ++ pins) z4 ⟨_, d4⟩).run [] s5 _ H _ S5 (yes rfl a ld.na)) (fun f s6 e6 => ?_) (fun _ _ z => z.elim)
      cases f with
      | ret u => obtain ⟨v, σ6, H6, S6, r6, q6⟩ := e6; exact gone_ok (S6.unsuite ok) nd hi hl fun s7 J7 => ⟨v, _, H6, J7, r6, q6⟩
      | next => obtain ⟨σ6, H6, S6, q6⟩ := e6; exact gone_ok (S6.unsuite ok) nd hi hl fun s7 J7 => ⟨_, H6, J7, q6⟩
      | brk => obtain ⟨σ6, H6, S6, q6⟩ := e6; exact gone_ok (S6.unsuite ok) nd hi hl fun s7 J7 => ⟨_, H6, J7, q6⟩
      | cont => obtain ⟨σ6, H6, S6, q6⟩ := e6; exact gone_ok (S6.unsuite ok) nd hi hl fun s7 J7 => ⟨_, H6, J7, q6⟩
/-- try: body, clauses -/
theorem ps_tryN {body : List Stmt} {c0 : ExceptHandler} {cs : List ExceptHandler} {l : List (Value × Option Nat × SuiteT)} {pos : Pos} {tb : XK → TS} {Wo : WX} (st : X.stack = X.env :: X.outer) (fr : X.env.frame = some X.env.locals) (tk : Takes X Wo)
    (hb : ∀ (E : XK) (pn : List (Addr × Obj)) (xe : Value → Shared → Prop), Takes (X.tr pn xe) (fun e d _ H => E e d H) → PSs (X.tr pn xe) body (tb E)) (C : ClausesOk X (c0 :: cs) l) :
    PS X (.Try body (c0 :: cs) [] [] pos) (fun D σ H => ∃ E : XK, (∀ e d σ' H', σ'.length = X.N.length → E e d H' → wClauses X.K Wo D l e d σ' H') ∧ tb E D σ H) := by
  refine ⟨fun pins s σ H D I ⟨E, hE, h⟩ => wpAny_Try_except ?_⟩
  have ok := I.ok
  have hA : X.A.frames = some (X.env :: X.outer) := by rw [ok.frames, st]
  let xe : Value → Shared → Prop := fun e s1 => wpAny (model X.prog X.w) X.A (noteFrame e X.env) (fun _ s2 => wpAny (model X.prog X.w) X.A (setFlight e none) (fun _ s3 => wpAny (model X.prog X.w) X.A (handleBy e X.env (c0 :: cs)) (SP X pins D) X.xe s3) X.xe s2) X.xe s1
  refine wpAny_mono ((hb E (X.pn ++ pins) xe (fun u s' xx => ?_)).run [] s σ H D (I.toTry _) h) (fun f s1 e1 => ?_) (fun e s1 he => he)
  · obtain ⟨a, B, sI, pins', σ', H', cls, d, rfl, J', nb, up, sky, na, os, ag, w⟩ := xx
    have J : Inv X pins σ' H' sI := J'.ofTry ok
    show wpAny (model X.prog X.w) X.A (noteFrame (.ref a) X.env) _ _ _
    exact Sky.land Zc.steady hA fr (by rw [← st]; exact sky) fun h3 f3 u3 => clauses_run st fr ok tk ⟨f3, J, nb, up.trans u3, na, os, ag⟩ C (hE cls d σ' H' J.len w)
  · cases f with
    | ret u => obtain ⟨v, σ', H', J, r, q⟩ := e1; exact ⟨v, σ', H', J.ofTry ok, r, q⟩
    | next => obtain ⟨σ', H', J, q⟩ := e1; exact wpAny_execs_nil ⟨σ', H', J.ofTry ok, q⟩
    | brk => obtain ⟨σ', H', J, q⟩ := e1; exact ⟨σ', H', J.ofTry ok, q⟩
    | cont => obtain ⟨σ', H', J, q⟩ := e1; exact ⟨σ', H', J.ofTry ok, q⟩
end
end Cc

/-! Mi: errors that are caught -/
namespace Mi
open PySem L2 Cc
namespace M
variable {α : Type}
/-- errors go on by h -/
def handle : M α → (Str → List D → M α) → M α
  | .ret a, _ => .ret a
  | .err c p, h => h c p
  | .bad, _ => .bad
  | .draw n k, h => .draw n fun i => (k i).handle h
@[simp] theorem handle_ret {a : α} {h : Str → List D → M α} : (M.ret a).handle h = M.ret a := rfl
@[simp] theorem handle_err {c : Str} {p : List D} {h : Str → List D → M α} : (M.err c p : M α).handle h = h c p := rfl
@[simp] theorem handle_bad {h : Str → List D → M α} : (M.bad : M α).handle h = M.bad := rfl
theorem wp_handle {Q : α → Prop} {E} {h : Str → List D → M α} : ∀ m : M α, (m.handle h).wp Q E ↔ m.wp Q (fun c p => (h c p).wp Q E)
  | .ret _ => Iff.rfl
  | .err _ _ => Iff.rfl
  | .bad => Iff.rfl
  | .draw n k => by
    show (M.draw n fun i => (k i).handle h).wp Q E ↔ _
    simp only [wp_draw]
    exact and_congr_right fun _ => forall_congr' fun i => forall_congr' fun _ => forall_congr' fun _ => wp_handle (k i)
end M
/-- the clause of x takes the class c -/
def hitC (x c : Str) : Bool := decide (x = "StoreError") || decide (x = c)
def rtOnly : Fl → M Fl
  | .rt d => .ret (.rt d)
  | _ => .bad
/-- the slots where a suite begins: its error's name alone is known -/
def sEnv (n : Nat) : Option Nat → Env
  | none => List.replicate n .no
  | some i => (List.replicate n .no).set i .row
abbrev Clm := Str × Option Nat × (List D → Env → M Fl)
def clGo (n : Nat) (c : Str) (p : List D) : List Clm → M Fl
  | [] => .err c p
  | q :: r => if hitC q.1 c then ((q.2.2 p (sEnv n q.2.1)).bind rtOnly).calm else clGo n c p r
def sTry (n : Nat) (names : List Str) (b : Env → M Fl) (cl : List Clm) : Env → M Fl := fun ρ => (b ρ).handle fun c p => if names.contains c then clGo n c p cl else .bad
def plainB : D → Bool
  | .non => true
  | .bl _ => true
  | .int _ => true
  | .str _ => true
  | _ => false
/-- a field of the held error -/
def mXf (i j : Nat) (p : List D) : Env → M D := fun ρ => if isRow ρ i then (M.ofO p[j]?).bind fun d => if plainB d then .ret d else .bad else .bad
section
variable {K : Fg} {W : Wd K} {E : XK}
/-- the world of a suite: the row's place is the error's -/
def exW (W : Wd K) (a : Addr) (o : Option Addr) (fs : List (Str × V)) : Wd K where
  ct := W.ct
  cls := W.cls
  r := a
  ea := W.ea
  ef := W.ef
  X := W.X
  I := fun H => W.I H ∧ ∀ dd, o = some dd → H dd = some (.xd fs)
  Fr := fun b => W.Fr b ∧ ∀ dd, o = some dd → b ≠ dd
  cell := fun h x => W.cell h.1 x
  up := fun h e => ⟨W.up h.1 e, fun dd z => e _ _ (h.2 dd z)⟩
  new := fun h e => ⟨W.new h.1 e, fun dd z q => by subst q; rw [h.2 _ z] at e; cases e⟩
  off := fun h f q c => ⟨W.off h.1 f.1 q c, fun dd z => by rw [upd_ne fun q => f.2 dd z q.symm]; exact h.2 dd z⟩
/-- the error that is held: of the class c at A, with the fields p -/
structure ErrAt (K : Fg) (W : Wd K) (c : Str) (A : Addr) (o : Option Addr) (p : List D) (vs : List V) : Prop where
  ea : W.ea c = some A
  is : (p = [] ∧ o = none) ∨ ((∃ dd, o = some dd) ∧ (W.ef c).length = vs.length ∧ Dns K (fun _ => none) vs p)
inductive ClR (W : Wd K) (names : List Str) : List (Value × Option Nat × SuiteT) → List Clm → Prop
  | nil : ClR W names [] []
  | cons {c : Value} {x : Str} {io : Option Nat} {ts : SuiteT} {s : List D → Env → M Fl} {l : List (Value × Option Nat × SuiteT)} {m : List Clm} (hx : ∀ c' ∈ names, ∀ A, W.ea c' = some A → PySem.W.exmOne K (.ref A) c = some (hitC x c'))
      (hs : ∀ (a A : Addr) (c' : Str) (o : Option Addr) (p : List D) (vs : List V), ErrAt K W c' A o p vs → hitC x c' = true → GS (exW W a o ((W.ef c').zip vs)) Cc.E0 (ts a (.ref A) o) (s p)) (r : ClR W names l m) : ClR W names ((c, io, ts) :: l) ((x, io, s) :: m)
theorem none_see {Hm : Hp} : ∀ {d : D} {v : V}, Dn K (fun _ => none) v d → (∀ a, d ≠ .adr a) → (∀ ds, d ≠ .tup ds) → Dn K Hm v d := fun {d v} h n n2 => by
  cases h with
  | non => exact .non
  | bl b => exact .bl b
  | int i => exact .int i
  | str x => exact .str x
  | lst h _ => cases h
  | tup h _ => exact absurd rfl (n2 _)
  | ptup h _ => obtain ⟨_, _, h⟩ := h; cases h
  | ob h _ _ => cases h
  | adr a => exact absurd rfl (n _)
theorem sEnv_len {n : Nat} {io : Option Nat} : (sEnv n io).length = n := by cases io <;> simp [sEnv]
theorem slotN_len {a : Addr} {io : Option Nat} {σ : L2.St} : (slotN a io σ).length = σ.length := by cases io <;> simp [slotN]
theorem suite_sr {Y : Addr → Bool} {B : Bases} {σ0 σ : L2.St} {H0 H : Hp} {ρ : Env} {L : List (Nat × Addr)} (s : SR W Y B σ0 H0 ρ L) {n : Nat} (hn : σ.length = n) (hb : Bok W B H) (ok : Ok W Y H) {a : Addr} {o : Option Addr} {fs : List (Str × V)} (hx : ∀ dd, o = some dd → H dd = some (.xd fs)) (io : Option Nat) :
    SR (exW W a o fs) Y B (slotN a io σ) H (sEnv n io) [] where
  ok := ⟨⟨ok.1, hx⟩, ok.2⟩
  bs := fun k hk => ⟨(s.bs k hk).1, hb.2 k hk⟩
  len := by rw [slotN_len, sEnv_len, hn]
  fre := fun p hp => nomatch hp
  nd := .nil
  sl := fun j t ht => by
    cases io with
    | none =>
      rw [(List.mem_replicate.mp (List.mem_of_getElem? ht)).2]
      trivial
    | some i =>
      rcases getElem?_set' ht with ⟨rfl, hl, rfl⟩ | ⟨_, h⟩
      · have hl' : i < σ.length := by rw [hn]; simpa using hl
        show (σ.set i (some (.ref a)))[i]? = _
        rw [List.getElem?_set_self hl']
        rfl
      · rw [(List.mem_replicate.mp (List.mem_of_getElem? h)).2]
        trivial
theorem clauses_wish {n : Nat} {names : List Str} {Wo : WX} {l : List (Value × Option Nat × SuiteT)} {m : List Clm} (hX : ∀ cls d σ H, E cls d H → Wo cls d σ H) (hl : ClR W names l m) {Y : Addr → Bool} {B : Bases} {σ σ' : L2.St} {H H' : Hp} {ρ : Env} {L : List (Nat × Addr)} {Dn : Ends} (s : SR W Y B σ H ρ L) (hn : σ'.length = n) {c : Str} {p : List D} {A : Addr} {o : Option Addr} (hmem : c ∈ names) (hbk : Bok W B H') (ok : Ok W Y H') (hA : W.ea c = some A)
    (hf : (p = [] ∧ o = none) ∨ (p ≠ [] ∧ ∃ dd vs, o = some dd ∧ (W.ef c).length = vs.length ∧ H' dd = some (.xd ((W.ef c).zip vs)) ∧ Dns K (fun _ => none) vs p)) (g : (clGo n c p m).wp (FlP W Y B Dn) (ErrB W E B)) : wClauses K Wo Dn l (.ref A) o σ' H' := by
  induction hl with
  | nil => exact hX _ _ _ _ (g _ _ _ hbk ⟨A, hA, rfl, hf⟩)
  | @cons cv x io ts sf l m hx hs r ih =>
    refine ⟨hitC x c, hx c hmem A hA, fun hh a na => ?_, fun hh => ih (by unfold clGo at g; rw [if_neg (by simp [hh])] at g; exact g)⟩
    unfold clGo at g
    rw [if_pos hh] at g
    obtain ⟨vs, hx2, E2⟩ : ∃ vs : List V, (∀ dd, o = some dd → H' dd = some (.xd ((W.ef c).zip vs))) ∧ ErrAt K W c A o p vs := by
      rcases hf with ⟨hp, ho⟩ | ⟨_, dd, vs, ho, h1, h2, h3⟩
      · exact ⟨[], (fun dd z => by rw [ho] at z; cases z), ⟨hA, .inl ⟨hp, ho⟩⟩⟩
      · exact ⟨vs, (fun dd' z => by rw [ho] at z; cases z; exact h2), ⟨hA, .inr ⟨⟨dd, ho⟩, h1, h3⟩⟩⟩
    refine hs a A c o p vs E2 hh Y B _ H' _ _ ⟨[], suite_sr s hn hbk ok hx2 io⟩ (M.wp_mono (fun f hf => ?_) (fun _ _ h => h.elim) _ ((M.wp_bind _).mp (M.wp_calm (E' := fun _ _ => False) _ g)))
    cases f with
    | rt d =>
      have hf' : FlP W Y B Dn (.rt d) := hf
      intro v H2 hk hv
      have : (endsN io Dn).rt v H2 = Dn.rt v H2 := by cases io <;> rfl
      rw [this]
      exact hf' v H2 ⟨hk.1.1, hk.2⟩ hv
    | nx _ => exact hf.elim
    | bk _ => exact hf.elim
    | rs _ _ _ _ => exact hf.elim
    | ct _ => exact hf.elim

theorem gs_try {n : Nat} {names : List Str} {t : XK → TS} {b : Env → M Fl} {Wo : WX} {l : List (Value × Option Nat × SuiteT)} {m : List Clm} (hX : ∀ cls d σ H, E cls d H → Wo cls d σ H) (hb : ∀ E', GS W E' (t E') b) (hl : ClR W names l m) :
    GS W E (fun D σ H => ∃ E' : XK, (∀ e d σ' H', σ'.length = n → E' e d H' → wClauses K Wo D l e d σ' H') ∧ t E' D σ H) (sTry n names b m) := fun Y B σ H ρ Dn ⟨L, s⟩ w => by
  let Z : Addr → Bool := fun a => W.X a || L.any fun p => p.2 == a
  let B' : Bases := ⟨(H, Z) :: B.l, B.s⟩
  have s' : SR W Y B' σ H ρ L :=
    { s with
      bs := fun k hk => by
        rcases List.mem_cons.mp hk with rfl | hk
        · exact ⟨fun a h => by simp [Z, h], fun _ _ e _ => e⟩
        · exact s.bs k hk
      fre := fun p hp => by
        obtain ⟨h1, h2⟩ := s.fre p hp
        refine ⟨fun k hk => ?_, h2⟩
        rcases List.mem_cons.mp hk with rfl | hk
        · have : (L.any fun q => q.2 == p.2) = true := List.any_eq_true.mpr ⟨p, hp, by simp⟩
          exact .inr (by simp [Z, this])
        · exact h1 k hk }
  let G : Str → List D → Prop := fun c p => (if names.contains c then clGo n c p m else .bad : M Fl).wp (FlP W Y B Dn) (ErrB W E B)
  have w' : (b ρ).wp (FlP W Y B Dn) G := (M.wp_handle _).mp w
  refine ⟨fun cls o H' => ∃ c p, Bok W B H' ∧ Ok W Y H' ∧ IsE W c p cls o H' ∧ G c p, fun cls o σ' H' hn ⟨c, p, hbk, ok, he, g⟩ => ?_, hb _ Y B' σ H ρ Dn ⟨L, s'⟩ (M.wp_mono (fun f hf => ?_) (fun c p hc cls o H' hbk he => ?_) _ w')⟩
  · obtain ⟨A, hA, rfl, hf⟩ := he
    by_cases hm : names.contains c = true
    · have hmem : c ∈ names := by simpa using hm
      simp only [G, hm, if_true] at g
      exact clauses_wish hX hl s hn hmem hbk ok hA hf g
    · simp only [G, hm, if_false] at g
      exact g.elim
  · cases f with
    | nx ρ' => exact fun σ' H' ⟨L', s2⟩ => hf σ' H' ⟨L', s2.unbase⟩
    | bk ρ' => exact fun σ' H' ⟨L', s2⟩ => hf σ' H' ⟨L', s2.unbase⟩
    | ct ρ' => exact fun σ' H' ⟨L', s2⟩ => hf σ' H' ⟨L', s2.unbase⟩
    | rt d => exact fun v H' hk hv => hf v H' hk.tail hv
    | rs _ _ _ _ => exact fun v H' x dx fs h1 hk h2 hn h3 hv => hf v H' x dx fs h1 hk.tail h2 hn h3 hv
  · refine ⟨c, p, hbk.tail, ⟨hbk.1, s.ok.2.1, fun a ha => ?_⟩, he, hc⟩
    cases x : W.X a with
    | true => exact W.cell hbk.1 x
    | false =>
      obtain ⟨u, hu, hcell⟩ := s.ok.2.2 a ha
      refine ⟨u, hbk.2 (H, Z) List.mem_cons_self a u hu ?_, hcell⟩
      show Z a = false
      cases z : Z a with
      | false => rfl
      | true =>
        simp only [Z, x, Bool.false_or, List.any_eq_true, beq_iff_eq] at z
        obtain ⟨q, hq, rfl⟩ := z
        rw [(s.fre q hq).2.2.1] at ha
        cases ha
theorem hitC_eq {x c : Str} (h : hitC x c = true) (hx : x ≠ "StoreError") : x = c := by
  simpa [hitC, hx] using h
theorem zip_lookup {f : Str} {v : V} : ∀ {fs : List Str} {vs : List V} {j : Nat}, fs.Nodup → fs[j]? = some f → vs[j]? = some v → (fs.zip vs).lookup f = some v
  | [], _, _, _, h, _ => by simp at h
  | _ :: _, [], _, _, _, h => by simp at h
  | g :: fs, u :: vs, 0, _, h1, h2 => by
    simp at h1 h2
    subst h1; subst h2
    simp [List.lookup]
  | g :: fs, u :: vs, j + 1, nd, h1, h2 => by
    rw [List.nodup_cons] at nd
    have h1' : fs[j]? = some f := by simpa using h1
    have hne : f ≠ g := fun z => nd.1 (by rw [← z]; exact List.mem_of_getElem? h1')
    have e : (f == g) = false := by simpa using hne
    rw [List.zip_cons_cons]
    simp only [List.lookup, e]
    exact zip_lookup nd.2 h1' (by simpa using h2)
theorem ge_xg {x f c : Str} {i j : Nat} {fs : List Str} {a A C : Addr} {o : Option Addr} {p : List D} {vs : List V} (h : ErrAt K W c A o p vs) (hc : hitC x c = true) (ea : W.ea x = some C) (ef : W.ef x = fs) (r : XfC K C) (no : PySem.W.findIn K (.ref C) f = some none) (hj : fs[j]? = some f := by rfl) (nd : fs.Nodup := by decide) (hx : x ≠ "StoreError" := by decide) :
    GE (exW W a o ((W.ef c).zip vs)) E (tXg K a (.ref A) o f (tVar i)) (mXf i j p) := fun Y σ H ρ Q ok e w => by
  obtain rfl := hitC_eq hc hx
  unfold mXf at w
  by_cases hr : isRow ρ i = true
  case neg => rw [if_neg hr] at w; exact w.elim
  rw [if_pos hr] at w
  refine ⟨_, e.2.2.1 i (isRow_at hr), rfl, ?_⟩
  obtain ⟨d, hd, w2⟩ := M.wp_ofO ((M.wp_bind _).mp w)
  have hA : A = C := Option.some.inj (h.ea.symm.trans ea)
  subst hA
  rcases h.is with ⟨hp, _⟩ | ⟨⟨dd, ho⟩, hlen, hds⟩
  · subst hp; cases hd
  obtain ⟨v, hv, hvd⟩ := hds.getD hd
  have hdp : plainB d = true := by
    by_cases hp : plainB d = true
    · exact hp
    · rw [if_neg hp] at w2; exact w2.elim
  rw [if_pos hdp] at w2
  have look : ((W.ef x).zip vs).lookup f = some v := by
    rw [ef] at hlen ⊢
    exact zip_lookup nd hj hv
  refine ⟨A, dd, _, v, rfl, r, no, ho, ok.1.2 dd ho, look, w2 v H (.refl ok.1) (none_see hvd ?_ ?_)⟩
  · rintro a rfl; cases hdp
  · rintro a rfl; cases hdp
end
end Mi

/-! own errors whose __init__ hands a text on by super() and keeps its two arguments row and word -/
namespace CcX
open PySem PySem.W PySem.Calls PyProof.Rows PySem.HandSPX
section
variable {prog : Program} {w : World} {A : Around} {E : Value → Shared → Prop} {R : Result → Shared → Prop} {s : Shared} {K : Frag} {mg mb : Str → Option Value} {C fI : Addr}
def Part2 (e : Expr) : Prop := PartOk "row" e ∨ PartOk "word" e
abbrev sup2A (p1 p2 p3 : Pos) : Arguments := { posonlyargs := [], args := [{ arg := "self", annotation := none, pos := p1 }, { arg := "row", annotation := none, pos := p2 }, { arg := "word", annotation := none, pos := p3 }], vararg := none, kwonlyargs := [], kw_defaults := [], kwarg := none, defaults := [] }
abbrev sup2S : Scope := { kind := .function, names := [(PySem.Str.ofString "self", .local), (PySem.Str.ofString "row", .local), (PySem.Str.ofString "word", .local), (PySem.Str.ofString "__class__", .free), (PySem.Str.ofString "super", .globalImplicit)], isGenerator := false, isCoroutine := false, more := [] }
abbrev sup2B (v1 v2 : Expr) (rest : List Expr) (q0 q1 q2 q3 q4 q5 q6 q7 q8 q9 r6 r7 r8 r9 : Pos) : List Stmt :=
  [.Expr (.Call (.Attribute (.Call (.Name "super" q0) [] [] q1) "__init__" q2) [.JoinedStr (v1 :: v2 :: rest) q3] [] q4) q5, .Assign [.Attribute (.Name "self" q6) "row" q7] (.Name "row" q8) q9, .Assign [.Attribute (.Name "self" r6) "word" r7] (.Name "word" r8) r9]
theorem nl1 (f : Str) (v : Value) : Within (fun y => if y = f then some v else none) [f] := fun y hy => by
  by_cases e : y = f
  · simp [e]
  · simp [e] at hy
structure InitEnd2 (h h' : Heap) (x C dx t1 : Addr) (v u : Value) : Prop where
  keep : ∀ b o, b ≠ x → h.get? b = some o → h'.get? b = some o
  obj : h'.get? x = some { cls := .ref C, dict := some dx, data := .fields #[.ref t1, .none, .none, .none, .bool false, .none] }
  dbig : h.objs.size ≤ dx
  dne : dx ≠ x
  ns : h'.Ns1 dx (fun y => if y = ("word" : Str) then some u else if y = ("row" : Str) then some v else none)
theorem parts_join2 {env : Env} {m : Str → Option Value} {hp : Heap} {v u : Value} (hn : hp.Ns env.locals m) (hk : env.scope.kind = .function) (hl : env.kindOf "row" = some .local) (hl2 : env.kindOf "word" = some .local) (hv : m "row" = some v) (hv2 : m "word" = some u) (hs : Shown v) (hs2 : Shown u) {R : Str → Shared → Prop} : ∀ (es : List Expr) (acc : Str) (s : Shared), s.heap = hp → (∀ e ∈ es, Part2 e) →
    acc.length + 4000 * es.length ≤ 100000 → (∀ out tk, out.length ≤ 100000 → R out { s with toks := tk }) → Joins (model prog w) A E (evalEach es env) acc R s
  | [], acc, s, e, _, hz, k => by
    rw [show evalEach [] env = [] from by first | rfl | simp [evalEach]]
    exact k acc s.toks (by simpa using hz)
  | p :: es, acc, s, e, hp', hz, k => by
    rw [show evalEach (p :: es) env = eval p env :: evalEach es env from by first | rfl | simp [evalEach]]
    have line : sizeLine = 16777216 := sizeLine_eq
    have hz' : acc.length + 4000 * (es.length + 1) ≤ 100000 := by simpa using hz
    have go : ∀ (y : Str) (t : Tok) (tk : Nat), y.length ≤ 4000 → ∃ z t', (Value.str y t) = .str z t' ∧ (acc ++ z).length ≤ sizeLine ∧ Joins (model prog w) A E (evalEach es env) (acc ++ z) R { s with toks := tk } := fun y t tk hy => by
      have hl3 : (acc ++ y).length = acc.length + y.length := PySem.Str.length_append ..
      exact ⟨y, t, rfl, by omega, parts_join2 hn hk hl hl2 hv hv2 hs hs2 es (acc ++ y) { s with toks := tk } e (fun q hq => hp' q (List.mem_cons_of_mem _ hq)) (by omega) fun out tk' hz => k out tk' hz⟩
    have shown : ∀ {x : Str} {z : Value} {q : Pos}, env.kindOf x = some .local → m x = some z → Shown z → (x == ("__debug__" : Str)) = false → ∀ {q2 : Pos}, wpAny (model prog w) A (eval (.FormattedValue (.Name x q) (-1) none q2) env) (fun v s' => ∃ z t', v = .str z t' ∧ (acc ++ z).length ≤ sizeLine ∧ Joins (model prog w) A E (evalEach es env) (acc ++ z) R s') E s := fun {x z q} h1 h2 h3 h4 {q2} => by
      refine wpAny_FormattedValue_plain (wpAny_Name (wpAny_loadName_local hk h1 (by rw [e]; exact hn) h2 ?_) h4)
      rcases h3 with ⟨z, t, rfl, hz1⟩ | ⟨i, t, rfl, hi⟩
      · exact wpAny_formatField_str (go z _ s.toks (by omega)) (go z _ _ (by omega)) (by omega)
      · exact wpAny_formatField_int hi (go _ _ _ (by have := int_text_length_le (k := 1920) (by decide) hi; rw [PySem.ofString_length]; omega))
    rcases hp' p List.mem_cons_self with (⟨z, j, q, rfl, hz1⟩ | ⟨q, q2, rfl⟩) | (⟨z, j, q, rfl, hz1⟩ | ⟨q, q2, rfl⟩)
    · exact Calls.Constant_str (go z _ _ (by omega))
    · exact shown hl hv hs (by decide)
    · exact Calls.Constant_str (go z _ _ (by omega))
    · exact shown hl2 hv2 hs2 (by decide)
theorem sup_init2 {qual : Str} {v1 v2 : Expr} {rest : List Expr} {p1 p2 p3 q0 q1 q2 q3 q4 q5 q6 q7 q8 q9 r6 r7 r8 r9 : Pos} (T : SupC prog K C fI qual "row" (sup2B v1 v2 rest q0 q1 q2 q3 q4 q5 q6 q7 q8 q9 r6 r7 r8 r9) (sup2A p1 p2 p3) sup2S)
    (noW : findIn K (.ref C) "word" = some none) (hparts : ∀ e ∈ v1 :: v2 :: rest, Part2 e) (hlen : rest.length ≤ 8) (hline : (q2.endLine == q4.line) = true) {x t0 : Addr} {v u : Value} (hv : Shown v) (hu : Shown u)
    (X : K.In s.heap) (hlim : s.heap.NoLimit) (hg : s.heap.Ns mainGlobals mg) (hb : s.heap.Ns builtinsNs mb) (hms : mg "super" = none) (hbs : mb "super" = some (.type "super")) (hx : s.heap.get? x = some (excO C t0)) (hnx : K.lookup x = none) (hroom : A.depth < recursionLimit)
    (hq : ∀ h' tk dx t1, InitEnd2 s.heap h' x C dx t1 v u → R (.ok (.ret .none)) { s with heap := h', toks := tk }) :
    codeAny (model prog w) A (.call (.ref fI) ⟨[.ref x, v, u], []⟩) R s := by
  obtain ⟨oc, od, doc, pm, an, cda, cc, ct, osl, ccl, cl, cdd, cld, ccs, csl, vs, file, tf, ho, hcd, hcda, hvs, hfile, hcell⟩ := T.fn
  obtain ⟨nm, q, N, bs, bm, sn, sub, ab, col, dd, k0, k1, k2, k3, k5, hC, hbm⟩ := T.cls
  have hcl : clsIn K C = some { name := nm, bases := bs, mro := .ref C :: bm, ns := N, qualname := q, hasDict := true, slotNames := sn, subclasses := sub, abstract := ab, collection := col, hasDel := false } := by unfold clsIn; rw [hC] <;> rfl
  refine ks_codeAny_call_defAt (binds := [("self", .ref x), ("row", v), ("word", u)]) hroom (X _ _ ho) rfl hlim ?_ rfl (BindsTo.of_eq ?_) ?_ ?_ (fun h₁ hn k => ?_)
  · exact codeRec_of X hcd
  · first | rfl | with_unfolding_all rfl
  · intro y hy
    simp at hy
    rcases hy with rfl | rfl | rfl | rfl | rfl <;> exact fun e => by cases e
  · intro y hy
    rcases List.mem_cons.mp hy with rfl | hy
    · rfl
    · rcases List.mem_cons.mp hy with rfl | hy
      · rfl
      · rcases List.mem_cons.mp hy with rfl | hy
        · rfl
        · cases hy
  have hxL : s.heap.objs.size ≠ x := Nat.ne_of_gt (Heap.lt_size hx)
  have X₁ : K.In h₁ := X.keeps k
  have hx₁ := k _ _ hx
  have hC₁ := X₁ _ _ hC
  have hz₁ : s.heap.objs.size < h₁.objs.size := hn.lt
  generalize eF : ksFn "__init__" qual (sup2A p1 p2 p3) (sup2B v1 v2 rest q0 q1 q2 q3 q4 q5 q6 q7 q8 q9 r6 r7 r8 r9) sup2S Value.none Value.none doc pm an (Value.ref cda) ct cc = fd
  have eE : callEnv fd s.heap.objs.size fI = ksEnv qual sup2S s.heap.objs.size fI (.ref cda) cc := by rw [← eF]; rfl
  rw [eE]
  have kS : (ksEnv qual sup2S s.heap.objs.size fI (.ref cda) cc).kindOf "super" = some .globalImplicit := rfl
  have kC : (ksEnv qual sup2S s.heap.objs.size fI (.ref cda) cc).kindOf "__class__" = some .free := rfl
  have kA : (ksEnv qual sup2S s.heap.objs.size fI (.ref cda) cc).kindOf "row" = some .local := rfl
  have kW : (ksEnv qual sup2S s.heap.objs.size fI (.ref cda) cc).kindOf "word" = some .local := rfl
  have kX : (ksEnv qual sup2S s.heap.objs.size fI (.ref cda) cc).kindOf "self" = some .local := rfl
  have mA : (List.reverse [(("self" : Str), Value.ref x), ("row", v), ("word", u)]).lookup ("row" : Str) = some v := rfl
  have mW : (List.reverse [(("self" : Str), Value.ref x), ("row", v), ("word", u)]).lookup ("word" : Str) = some u := rfl
  have mX : (List.reverse [(("self" : Str), Value.ref x), ("row", v), ("word", u)]).lookup ("self" : Str) = some (.ref x) := rfl
  refine ks_wpAt_execs_cons (ks_wpAt_Expr_any (me_call hline (by rfl) ?_) (by rfl) (by rfl))
  · refine ks_wpAt_super_base (env := ksEnv qual sup2S s.heap.objs.size fI (.ref cda) cc) (fd := fd) (ar := { arg := "self", annotation := none, pos := p1 }) kS kC (by decide) rfl (k _ _ (X _ _ ho)) (by rw [← eF]) (by rw [← eF]; rfl) rfl (X₁ _ _ hcda) rfl hvs hfile T.top ?_
    refine ks_loadName_global rfl kS (loadGlobal_builtin (hg.keeps k) hms (hb.keeps k) hbs ⟨rfl, ?_⟩)
    refine wpAny_loadName_free rfl kC rfl ⟨_, X₁ _ _ hcell, rfl⟩ ?_
    refine wpAny_loadName_local rfl kX hn mX ?_
    refine ks_wpAny_isType_cls hC₁ rfl ⟨rfl, ?_⟩
    refine ks_wpAny_call_super hC₁ rfl hx₁ rfl (fun c e => by cases e) (looks_mroIn X₁ T.slfC) (fun h₂ hso k₂ => ?_)
    have X₂ : K.In h₂ := X₁.keeps k₂
    have hx₂ := k₂ _ _ hx₁
    have hn₂ := hn.keeps k₂
    intro pl
    refine kxs_getMethod kxs_ValueError hso (looks_opaque X₂ T.opq) (l₀ := .ref C :: bm) (fun A Q E s' k q => wpAny_bind ((looks_clsIn X₂ hcl) A _ E s' k (wpAny_pure q))) rfl X₂ ?_ ?_ ?_ (by decide) ?_
    · have := T.alg
      unfold ks_superIn at this
      rw [hcl] at this
      exact this
    · exact InstAt.type (od := none) ⟨hx₂, rfl, rfl, trivial⟩ |>.andThen (looks_subIn X₂ T.veC)
    · intro z
      rw [z] at hnx
      have : K.lookup C = some _ := hC
      rw [this] at hnx; cases hnx
    have k₃ : ∀ b o, h₂.get? b = some o → (h₂.push (kxs_mw "ValueError.__init__" x)).get? b = some o := fun b o e => Heap.get?_push_of_some _ e
    have hn₃ := hn₂.keeps k₃
    have hu₃ : (h₂.push (kxs_mw "ValueError.__init__" x)).get? h₂.objs.size = some (kxs_mw "ValueError.__init__" x) := Heap.get?_push_at rfl rfl
    have hC₃ := k₃ _ _ (k₂ _ _ hC₁)
    have hx₃ := k₃ _ _ hx₂
    generalize eh : h₂.push (kxs_mw "ValueError.__init__" x) = h₃ at hn₃ hu₃ hC₃ hx₃ k₃ ⊢
    refine kxs_callWith (i := "ValueError.__init__") (x := x) rfl (evalArgs_plain (spliced_cons (wpAny_JoinedStr (pos := q3) ?_)))
    refine parts_join2 (hp := h₃) hn₃ rfl kA kW mA mW hv hu (v1 :: v2 :: rest) Str.empty _ rfl hparts (by simp only [List.length_cons]; have : Str.empty.length = 0 := rfl; omega) (fun out tk hz => ?_)
    refine ⟨by rw [sizeLine_eq]; omega, spliced_nil ⟨hu₃, ?_⟩⟩
    refine mw_call hC₃ hx₃ hu₃ (by simp [sizeLine_eq]) (fun h₄ t1 k₄ hx₄ => ?_)
    have kk : ∀ b o, b ≠ x → s.heap.get? b = some o → h₄.get? b = some o := fun b o hb e => k₄ b o hb (k₃ _ _ (k₂ _ _ (k _ _ e)))
    have X₄ : K.In h₄ := kept_but X hnx kk
    refine PySem.wpAt_of_wpAny (wpAny_execs_cons (plainObj_wpAny_Assign_Attribute (o := .Name "self" q6) (attr := "row") (pos' := q7) (value := .Name "row" q8) (pos := q9) ?_))
    have hn₄ := Heap.Ns.over hn₃ (x := x) (h' := h₄) hxL k₄
    refine wpAny_Name (wpAny_loadName_local rfl kA hn₄ mA ?_) (by decide)
    refine wpAny_Name (wpAny_loadName_local rfl kX hn₄ mX ?_) (by decide)
    refine set_plain X₄ (ox := excO C t1) (od := none) ⟨hx₄, rfl, rfl, trivial⟩ T.sa ?_
    refine exc_osa X₄ hx₄ hcl (show refsVE (.ref C :: bm) = true from hbm) rfl T.noN (fun h₅ tk₅ dx k₅ dn dne hx₅ hn₅ => ?_)
    have X₅ : K.In h₅ := kept_but X₄ hnx k₅
    have hn5 := Heap.Ns.over hn₄ (x := x) (h' := h₅) hxL k₅
    have hb5 : s.heap.objs.size < dx := Nat.lt_of_lt_of_le hn₄.lt dn
    obtain ⟨oD, esD, epD, hoD, hdD, _⟩ := hn₅.count (nl1 "row" v)
    refine (wpAny_execs_cons (plainObj_wpAny_Assign_Attribute (o := .Name "self" r6) (attr := "word") (pos' := r7) (value := .Name "word" r8) (pos := r9) ?_))
    refine wpAny_Name (wpAny_loadName_local rfl kW hn5 mW ?_) (by decide)
    refine wpAny_Name (wpAny_loadName_local rfl kX hn5 mX ?_) (by decide)
    refine set_plain X₅ (ox := { cls := .ref C, dict := some dx, data := .fields #[.ref t1, .none, .none, .none, .bool false, .none] }) (od := some oD) ⟨hx₅, rfl, rfl, hoD⟩ T.sa ?_
    refine PySem.OEX.osa_old X₅ hx₅ hn₅ (nl1 "row" v) (by simp) hcl (show refsVE (.ref C :: bm) = true from hbm) rfl noW (fun h₆ tk₆ k₆ hn₆ => ?_)
    have nx : x ≠ dx := Ne.symm dne
    refine wpAny_execs_nil (hq h₆ tk₆ dx t1 ⟨fun b o hb e => ?_, k₆ _ _ nx hx₅, Nat.le_of_lt hb5, dne, ?_⟩)
    · exact k₆ b o (Nat.ne_of_lt (Nat.lt_of_lt_of_le (Heap.lt_size e) (Nat.le_of_lt hb5))) (k₅ b o hb (kk b o hb e))
    · exact hn₆
/-- one made -/
structure Made2 (h h' : Heap) (e C d : Addr) (v u : Value) : Prop where
  keep : ∀ b o, h.get? b = some o → h'.get? b = some o
  new : h.objs.size ≤ e
  obj : ∃ oe vs, h'.get? e = some oe ∧ oe.cls = .ref C ∧ oe.dict = some d ∧ oe.data = .fields vs ∧ vs[1]? = some .none
  dbig : h.objs.size ≤ d
  dne : d ≠ e
  ns : h'.Ns1 d (fun y => if y = ("word" : Str) then some u else if y = ("row" : Str) then some v else none)
structure Sup2I (prog : Program) (w : World) (K : Frag) (mg : Str → Option Value) (C fI : Addr) : Prop where
  cls : ∃ nm q N bs bm sn sub ab col dd k0 k1 k2 k3 k5, K.lookup C = some (excClassObj nm q C N bs bm true sn sub ab col dd k0 k1 k2 k3 k5 "ValueError.__new__") ∧ refsVE bm = true
  iC : findIn K (.ref C) "__init__" = some (some (.ref fI))
  tC : typeIn K (.ref fI) = some (.type "function")
  kC : keepIn K (.ref C) = true
  exC : subIn K (.ref C) (.type "BaseException") = some true
  tyC : typeIn K (.ref C) = some (.type "type")
  init : ∀ {A : Around} {R : Result → Shared → Prop} {s : Shared} {x t0 : Addr} {v u : Value} {mb : Str → Option Value}, Shown v → Shown u → K.In s.heap → s.heap.NoLimit → s.heap.Ns mainGlobals mg → s.heap.Ns builtinsNs mb → mb "super" = some (.type "super") → s.heap.get? x = some (excO C t0) → K.lookup x = none → A.depth < recursionLimit →
    (∀ h' tk dx t1, InitEnd2 s.heap h' x C dx t1 v u → R (.ok (.ret .none)) { s with heap := h', toks := tk }) → codeAny (model prog w) A (.call (.ref fI) ⟨[.ref x, v, u], []⟩) R s
theorem sup2_of {qual : Str} {v1 v2 : Expr} {rest : List Expr} {p1 p2 p3 q0 q1 q2 q3 q4 q5 q6 q7 q8 q9 r6 r7 r8 r9 : Pos} (T : SupC prog K C fI qual "row" (sup2B v1 v2 rest q0 q1 q2 q3 q4 q5 q6 q7 q8 q9 r6 r7 r8 r9) (sup2A p1 p2 p3) sup2S)
    (noW : findIn K (.ref C) "word" = some none) (hparts : ∀ e ∈ v1 :: v2 :: rest, Part2 e) (hlen : rest.length ≤ 8) (hline : (q2.endLine == q4.line) = true) (hms : mg "super" = none) : Sup2I prog w K mg C fI :=
  ⟨T.cls, T.iC, T.tC, T.kC, T.exC, T.tyC, fun hv hu X hlim hg hb hbs hx hnx hroom hq => sup_init2 T noW hparts hlen hline hv hu X hlim hg hb hms hbs hx hnx hroom hq⟩
theorem sup2_made (T : Sup2I prog w K mg C fI) {v u : Value} (hv : Shown v) (hu : Shown u) (X : K.In s.heap) (hlim : s.heap.NoLimit) (hg : s.heap.Ns mainGlobals mg) (hb : s.heap.Ns builtinsNs mb) (hbs : mb "super" = some (.type "super")) (hroom : A.depth + 1 < recursionLimit)
    (hq : ∀ h' tk e d, Made2 s.heap h' e C d v u → R (.ok (.ret (.ref e))) { s with heap := h', toks := tk }) : codeAny (model prog w) A (.call (.ref C) ⟨[v, u], []⟩) R s := by
  obtain ⟨nm, q, N, bs, bm, sn, sub, ab, col, dd, k0, k1, k2, k3, k5, hC, hbm⟩ := T.cls
  obtain ⟨hp, g, dr, tk, os⟩ := s
  have old1 : ∀ b o, hp.get? b = some o → ((hp.push (kdv_tup [v, u])).push (excO C hp.objs.size)).get? b = some o := fun b o e => Heap.get?_push_of_some _ (Heap.get?_push_of_some _ e)
  have at1 : ((hp.push (kdv_tup [v, u])).push (excO C hp.objs.size)).get? (hp.objs.size + 1) = some (excO C hp.objs.size) := by heap_get
  have free : K.lookup (hp.objs.size + 1) = none := by
    rcases e : K.lookup (hp.objs.size + 1) with _ | o
    · rfl
    · exact absurd (Nat.lt_of_succ_lt (Heap.lt_size (X _ _ e))) (Nat.lt_irrefl _)
  refine call_own F.excBase_ValueError (fun X => refsVE_contains X bm hbm) (X _ _ hC) (looks_findIn X T.iC) (fun self => bind_fn X self T.tC) (by simp [sizeLine_eq]) ?_
  refine T.init (s := ⟨(hp.push (kdv_tup [v, u])).push (excO C hp.objs.size), g, dr, tk, os⟩) hv hu (X.keeps old1) (hlim.keeps old1) (hg.keeps old1) (hb.keeps old1) hbs at1 free hroom fun h' tk' dx t1 I => ?_
  have z : hp.objs.size + 1 + 1 ≤ dx := by
    have q := I.dbig
    first | exact q | (rw [Heap.size_push, Heap.size_push] at q; exact q) | simpa only [Heap.size_push] using q
  exact ⟨rfl, hq h' tk' (hp.objs.size + 1) dx ⟨fun b o e => I.keep b o (Nat.ne_of_lt (Nat.lt_succ_of_lt (Heap.lt_size e))) (old1 b o e), Nat.le_succ _, ⟨_, _, I.obj, rfl, rfl, rfl, rfl⟩, (by show hp.objs.size ≤ dx; omega), I.dne, I.ns⟩⟩
end
end CcX

/-! an error with two fields, row and word, that is raised -/
namespace Cc
open PySem L2
structure ErrG (P : Program) (w : World) (K : Fg) (mg : Str → Option Value) (x : Str) (C fI : Addr) : Prop where
  gC : mg x = some (.ref C)
  sup : CcX.Sup2I P w K mg C fI
section
variable {X : Cx} {x : Str} {C : Addr} {p p2 pos pos2 : Pos}
def tRaiseG (C : Addr) (W : WX) (ta : TA) : TS := fun _ σ H => ta σ H fun vs H1 => ∃ v u, vs = [v, u] ∧ ShownV v ∧ ShownV u ∧ ∀ d, H1 d = none → W (.ref C) (some d) σ (upd H1 d (.xd [("row", v), ("word", u)]))
theorem relO_two {v u : V} {v' u' : Value} (r : RelV v v') (q : RelV u u') (f : Str) : RelO (List.lookup f [("row", v), ("word", u)]) (if f = ("word" : Str) then some u' else if f = ("row" : Str) then some v' else none) := by
  by_cases h : f = ("word" : Str)
  · subst h
    have e : (("word" : Str) == ("row" : Str)) = false := by decide
    simpa [List.lookup, e, RelO] using q
  · have e : (f == ("word" : Str)) = false := by simpa using h
    by_cases h2 : f = ("row" : Str)
    · subst h2
      have e2 : ¬ (("row" : Str) = ("word" : Str)) := by decide
      simpa [List.lookup, e2, RelO] using r
    · have e2 : (f == ("row" : Str)) = false := by simpa using h2
      simp [List.lookup, e, e2, h, h2, RelO]
theorem shown_of {v : V} {v' : Value} (h : ShownV v) (r : RelV v v') : CcX.Shown v' := by
  rcases h with ⟨z, rfl, hz⟩ | ⟨i, rfl, hi⟩
  · obtain ⟨t, rfl⟩ := r
    exact .inl ⟨z, t, rfl, hz⟩
  · obtain ⟨t, rfl⟩ := r
    exact .inr ⟨i, t, rfl, hi⟩
theorem ps_raiseG {W : WX} {a b : Expr} {ta : TA} {fI : Addr} {k : Nat} (hc : X.calm = true) (tk : Takes X W) (T : ErrG X.prog X.w X.K X.mg x C fI) (hr : Room k X.A) (hk : 1 ≤ k) (ha : PA X [a, b] ta) (hg : Gl X x := by rfl) (hdb : (x == ("__debug__" : Str)) = false := by decide)
    (he : starEach [a, b] X.env = (false, eval a X.env) :: starEach [b] X.env := by rfl) (hpl : (backTo pos (starEach [b] X.env)).any (·.1) = false := by rfl) :
    PS X (.Raise (some (.Call (.Name x p) [a, b] [] pos)) none pos2) (tRaiseG C W ta) := by
  refine ps_raise (t := fun σ H Q => ta σ H fun vs H1 => ∃ v u, vs = [v, u] ∧ ShownV v ∧ ShownV u ∧ ∀ d, H1 d = none → Q (.ref C) (some d) (upd H1 d (.xd [("row", v), ("word", u)]))) hc tk ?_
  intro pins s σ H Q I h
  refine wpAny_Call_Name_kw (ld_glob I hg T.gC ?_ hdb)
  refine PySem.W.callWith_K (h₀ := X.base) I.ok.mod.kin T.sup.kC (thn (ha.run pos pins s σ H _ I h) fun us s1 hh => ?_) he hpl
  obtain ⟨vs, H1, I1, r1, v, u, rfl, hv, hu, q1⟩ := hh
  refine ⟨I1.kIn, ?_⟩
  cases r1 with
  | @cons _ v' _ us' rv rn =>
    cases rn with
    | @cons _ u' _ us2 ru rn2 =>
    cases rn2
    show wpAny _ _ (call (.ref C) [v', u']) _ _ _
    obtain ⟨mb, hB0, hB1⟩ := I1.mod.blt
    have hB : s1.heap.Ns builtinsNs mb := hB0.keeps I1.bk
    have hbs : mb "super" = some (.type "super") := (hB1 "super" (by decide)).trans (by decide +kernel)
    have hG : s1.heap.Ns mainGlobals X.mg := I1.mod.glob.keeps I1.bk
    have hlim := I1.nolimit
    obtain ⟨hp, g, dr, tk', os⟩ := s1
    refine wpAny_call (CcX.sup2_made T.sup (shown_of hv rv) (shown_of hu ru) I1.kIn hlim hG hB hbs (by have := hr.dp; omega) fun h' tk2 e d M => ?_)
    show MkP X pins σ Q (.ref e) ⟨h', g, dr, tk2, os⟩
    obtain ⟨oe, fv, hoe, hcl, hd, hdat, h1⟩ := M.obj
    have hns := M.ns
    obtain ⟨G, g1, g2⟩ := restrict h' fun b => decide (b ≠ e)
    have gne : ∀ b, b ≠ e → G.get? b = h'.get? b := fun b hb => g1 b (decide_eq_true hb)
    have ge : G.get? e = none := g2 e (by simp)
    have old : ∀ b o, hp.get? b = some o → G.get? b = some o := fun b o q => (gne b (Nat.ne_of_lt (Nat.lt_of_lt_of_le (Heap.lt_size q) M.new))).trans (M.keep b o q)
    have ob : ObjOk X.prog X.w (upd H1 d (.xd [("row", v), ("word", u)])) G d (.xd [("row", v), ("word", u)]) := ⟨_, hns.at (fun o q => (gne d M.dne).trans q), relO_two rv ru⟩
    have J : Inv X pins σ (upd H1 d (.xd [("row", v), ("word", u)])) ⟨G, g, dr, tk2, os⟩ := I1.laid (t' := tk2) old M.dbig ob
    refine ⟨e, oe, fv, ⟨G, g, dr, tk2, os⟩, _, .ref C, some d, rfl, J, fun b o q => ?_, ge, hoe, ⟨hcl, hd⟩, hdat, h1, ?_, rfl, I1.bare, raises_own T.sup.exC T.sup.tyC, q1 d (I1.hok.fresh M.dbig)⟩
    · have q' : G.get? b = some o := q
      by_cases hb : b = e
      · rw [hb, ge] at q'; cases q'
      · exact (gne b hb).symm.trans q'
    · rw [upd_ne (Ne.symm M.dne)]
      exact I1.hok.fresh M.new
end
end Cc
namespace Mi
open PySem L2 Cc
def sErrG (c : Str) (m : Env → M (List D)) : Env → M Fl := fun ρ => (m (vB ρ)).bind fun ds => match ds with
  | [d, e] => if shown d && shown e then .err c [d, e] else .bad
  | _ => .bad
section
variable {K : Fg} {W : Wd K} {E : XK} {ta : TA} {t : Env → M (List D)}
theorem shown_v {Y : Addr → Bool} {H : Hp} {v : V} {d : D} (h : Dm W Y H v d) (k : shown d = true) : ShownV v ∧ Dn K (fun _ => none) v d := by
  cases h with
  | str z => exact ⟨.inl ⟨z, rfl, by simpa [shown] using k⟩, .str z⟩
  | int i => exact ⟨.inr ⟨i, rfl, by simpa [shown] using k⟩, .int i⟩
  | _ => cases k
theorem gs_errG {c : Str} {A : Addr} {X : WX} (hc : W.ea c = some A) (hf : W.ef c = (["row", "word"] : List Str)) (hX : ∀ cls d σ H, E cls d H → X cls d σ H) (h : GA W E ta t) : GS W E (tRaiseG A X ta) (sErrG c t) := fun Y B σ H ρ Dn ⟨L, s⟩ w =>
  h.seq s.ok s.envB w (fun _ _ h => h.at' s) fun ds vs H1 e1 o1 r1 hv w1 => by
    have s1 := s.up e1
    cases hv with
    | nil => exact w1.elim
    | cons h1 h2 =>
      cases h2 with
      | nil => exact w1.elim
      | cons h2 h3 =>
        cases h3 with
        | cons _ _ => exact w1.elim
        | nil =>
          dsimp only at w1
          split at w1
          case isFalse => exact w1.elim
          rename_i k
          simp only [Bool.and_eq_true] at k
          obtain ⟨a1, a2⟩ := shown_v h1 k.1
          obtain ⟨b1, b2⟩ := shown_v h2 k.2
          rename_i v1 _ v2 _
          refine ⟨v1, v2, rfl, a1, b1, fun dd hdd => hX _ _ _ _ ?_⟩
          have eH : Ext W H1 (upd H1 dd (.xd [("row", v1), ("word", v2)])) := .of s1.ok.1 (Same.new hdd)
          exact w1 _ _ _ (s1.bokE eH) ⟨A, hc, rfl, .inr ⟨by simp, dd, [v1, v2], rfl, by simp [hf], by rw [hf]; exact upd_same, .cons a2 (.cons b2 .nil)⟩⟩
end
end Mi

/-! a lambda that is handed to a def: all but the maker's table stays -/
namespace Cc
open PySem L2 LamX
section
variable {X : Cx} {pins : List (Addr × Obj)} {σ : L2.St} {H : Hp} {s : Shared}
/-- what is known of a lambda that has been made: f, its code object c' -/
structure LamMade (X : Cx) (pins : List (Addr × Obj)) (σ : L2.St) (H : Hp) (P : Addr) (T : List (Addr × Str)) (params : Arguments) (body : Expr) (scope : Scope) (f c' : Addr) (pm ctv : Value) (H1 : Hp) (s1 : Shared) : Prop where
  inv : Inv X pins σ H1 s1
  but : But [P] H H1
  tab : Tabs T H1
  obj : s1.heap.get? f = some (PySem.W.kla_obj "<lambda>" (X.env.qual ++ "<lambda>") params body scope (cloFrom X.env.cells scope.names []) pm c' ctv)
  new : H1 f = none
  off : f ∉ frs X.stack
  co : H1 c' = some (CodeO c' (X.env.qual ++ "<lambda>"))
theorem lam_makeS {T : List (Addr × Str)} {c P : Addr} {params : Arguments} {body : Expr} {scope : Scope} {pos : Pos} {F R : Value → Shared → Prop} (I : Inv X pins σ H s) (TB : TabB X.base X.mg c P) (hco : X.env.code = .ref c) (mT : (P, X.env.qual ++ "<lambda>") ∈ T) (oT : ∀ p ∈ T, p.1 = P → p.2 = X.env.qual ++ "<lambda>") (tabs : Tabs T H)
    (hde : defaultsOf params X.env = ([], [])) (hfr : ∀ y ∈ scope.names, y.2 = .free → ∃ c, X.env.cells.lookup y.1 = some c) (k : ∀ f c' pm ctv H1 s1, LamMade X pins σ H P T params body scope f c' pm ctv H1 s1 → R (.ref f) s1) : wpAny (model X.prog X.w) X.A (eval (.Lambda params body scope pos) X.env) R F s := by
  obtain ⟨ps, atP, trip, among⟩ := tabs _ mT
  have bP : s.heap.BuiltinsAt X.mg P := TB.bm.keeps I.bk
  have oP : s.heap.get? P = some { cls := .none, data := .fields ps } := I.hok P _ atP
  have far : ∀ z, s.heap.objs.size ≤ z → z ∉ frs X.stack := fun z hz m => by
    rcases List.mem_cons.mp (I.stkSub _ m) with e | e
    · have lt := I.lt
      rw [← e] at lt
      exact absurd (Nat.lt_of_lt_of_le lt hz) (Nat.lt_irrefl _)
    · exact I.nofs hz e
  refine PySem.W.kla_eval hde ?_
  rcases found : codeAmong pos ps.toList with _ | cv
  · refine PySem.W.kla_makeFunction (mg := X.mg) (c := c) (P := P) (ps := ps) (closure_ok hfr) I.ok.glob (I.mod.glob.keeps I.bk) hco (TB.code.keeps I.bk) oP trip found TB.gP bP fun c' ctv h' tk kept ge lt rec tb => ?_
    obtain ⟨c2, oc, vs, t, e2, g1, g2, g3⟩ := rec
    cases e2
    have sz : s.heap.objs.size ≤ h'.objs.size := Nat.le_trans ge (Nat.le_of_lt lt)
    have free : H c' = none := I.hok.fresh ge
    have Pc : P ≠ c' := ne_of_none atP free
    let more : Array Value := #[rawInt pos.line, rawInt pos.col, .ref c']
    let lamO := PySem.W.kla_obj "<lambda>" (X.env.qual ++ "<lambda>") params body scope (cloFrom X.env.cells scope.names []) ((X.mg "__name__").getD .none) c' ctv
    have J := inv_table (t' := tk) (more := more) (h' := h'.push lamO) I atP (fun b o hb e => Heap.get?_push_of_some _ (kept b o hb e)) (Heap.get?_push_of_some _ tb) ge ⟨oc, vs, t, Heap.get?_push_of_some _ g1, g2, g3⟩
    have but : But [P] H (upd (upd H P (.tbl (ps ++ more))) c' (CodeO c' (X.env.qual ++ "<lambda>"))) := fun b o e n => by
      rw [upd_ne (ne_of_none e free), upd_ne (by simpa using n)]
      exact e
    have codeN : ∀ (b : Addr) q, H b = some (CodeO b q) → b ∉ [P] := fun b q e m => by
      rw [List.mem_singleton.mp m, atP] at e
      exact codeO_ne ps (Option.some.inj e).symm
    refine k h'.objs.size c' _ ctv _ _ ⟨J, but, fun p hp => ?_, Heap.get?_push_size _ rfl, ?_, far _ sz, upd_same⟩
    · by_cases hb : p.1 = P
      · rw [oT p hp hb, hb]
        refine ⟨ps ++ more, by rw [upd_ne Pc, upd_same], ?_, fun p' cv' hcv => ?_⟩
        · rw [show (ps ++ more).toList = ps.toList ++ [rawInt pos.line, rawInt pos.col, .ref c'] from by simp [more]]
          exact PySem.TriplesOk_snoc _ _ _ _ trip
        · rw [show (ps ++ more).toList = ps.toList ++ [rawInt pos.line, rawInt pos.col, .ref c'] from by simp [more]] at hcv
          rcases among_app _ trip hcv with z | z
          · obtain ⟨c0, e1, e2⟩ := among p' cv' z
            exact ⟨c0, e1, but _ _ e2 (codeN c0 _ e2)⟩
          · exact ⟨c', z, upd_same⟩
      · obtain ⟨ps', a1, a2, a3⟩ := tabs p hp
        refine ⟨ps', but _ _ a1 (by simpa using hb), a2, fun p' cv' hcv => ?_⟩
        obtain ⟨c0, e1, e2⟩ := a3 p' cv' hcv
        exact ⟨c0, e1, but _ _ e2 (codeN c0 _ e2)⟩
    · rw [upd_ne (Nat.ne_of_gt lt), upd_ne (Nat.ne_of_gt (Nat.lt_of_lt_of_le (Heap.lt_size oP) sz))]
      exact I.hok.fresh sz
  · obtain ⟨c', e, co⟩ := among pos cv found
    subst e
    refine PySem.W.kla_makeFunctionHit (mg := X.mg) (c := c) (P := P) (ps := ps) (closure_ok hfr) I.ok.glob (I.mod.glob.keeps I.bk) hco (TB.code.keeps I.bk) oP trip found bP fun ctv h' tk kept sz => ?_
    let lamO := PySem.W.kla_obj "<lambda>" (X.env.qual ++ "<lambda>") params body scope (cloFrom X.env.cells scope.names []) ((X.mg "__name__").getD .none) c' ctv
    have J : Inv X pins σ H { s with heap := h'.push lamO, toks := tk } := I.kept fun b o e => Heap.get?_push_of_some _ (kept b o e)
    exact k h'.objs.size c' _ ctv H _ ⟨J, But.refl _ H, tabs, Heap.get?_push_size _ rfl, I.hok.fresh sz, far _ sz, co⟩
/-- a table of lambdas at P, all but it stays -/
def tLamS (T : List (Addr × Str)) (P : Addr) (TT : (XK → Hp → VK → Prop) → Hp → VK → Prop) (t : XK → TE) : TE := fun σ H Q => Tabs T H ∧ ∀ H1, But [P] H H1 → Tabs T H1 → TT (fun E H' Q' => t E σ H' Q') H1 Q
/-- the def that is handed a lambda -/
structure Taker (X : Cx) (x a : Str) (N : List Str) (g : Addr) (bg : List Stmt) (sg : Scope) (cdv : Value) : Prop where
  hm : X.mg x = some (.ref g)
  hk : PySem.W.keepIn X.K (.ref g) = true
  lk : ∃ pg oc od dV kV doc pm an ct osl, X.K.lookup g = some ⟨oc, od, .func (PySem.W.fnOf x x pg bg sg dV kV doc pm an cdv ct), osl⟩ ∧ L2.Binds X.K (PySem.W.fnOf x x pg bg sg dV kV doc pm an cdv ct) [a] []
  hcg : PySem.W.codeIn X.K cdv x = true
theorem pe_lamS {T : List (Addr × Str)} {TT : (XK → Hp → VK → Prop) → Hp → VK → Prop} {x a : Str} {N : List Str} {g c P : Addr} {k m : Nat} {bg : List Stmt} {sg : Scope} {cdv : Value} {params : Arguments} {body : Expr} {scope : Scope} {t : XK → TE} {p lpos pos : Pos} (G : Taker X x a N g bg sg cdv) (Sg : FnScope N [a] sg)
    (gives : GivesTo X N x sg g cdv bg a (X.env.qual ++ "<lambda>") TT) (TB : TabB X.base X.mg c P) (hcode : X.env.code = .ref c) (mT : (P, X.env.qual ++ "<lambda>") ∈ T) (oT : ∀ p ∈ T, p.1 = P → p.2 = X.env.qual ++ "<lambda>") (hr : Room m X.A)
    (hbody : ∀ (A : Around) (outer : List Env) (s : Shared) (H : Hp) (E : XK) (f c' : Addr), Room k (A.deeper (lamEnv X scope s.heap.objs.size f c')) → PE (lamCx X A outer s H E scope f c') body (t E)) (L : LamS X.env.scope scope) (hkm : k + 2 ≤ m := by decide) (hg : Gl X x := by rfl) (at0 : N[0]? = some a := by rfl) (va : Vis sg a := by exact .inl rfl) (hde : defaultsOf params X.env = ([], []) := by rfl)
    (hbind : ∀ (q : Str) (cl : List (Str × Addr)) (pm cv ctv : Value), bindArgs (PySem.W.kla_fn "<lambda>" q params body scope cl pm cv ctv) ⟨[], []⟩ = pure [] := by exact fun _ _ _ _ _ => rfl) (d1 : (x == ("__debug__" : Str)) = false := by decide) (d2 : (a == ("__debug__" : Str)) = false := by decide) (d3 : (a == ("__classdict__" : Str)) = false := by decide) :
    PE X (.Call (.Name x p) [.Lambda params body scope lpos] [] pos) (tLamS T P TT t) := by
  obtain ⟨pg, oc, od, dV, kV, doc, pm, an, ct, osl, lk, hb⟩ := G.lk
  refine ⟨fun pins s σ H Q I ⟨tabs, h⟩ => wpAny_Call_Name_kw (ld_glob I hg G.hm (PySem.W.callWith_K (h₀ := X.base) I.ok.mod.kin G.hk ?_ (by rfl) (by rfl)) d1)⟩
  show wpAny _ _ (spliced ((false, eval (.Lambda params body scope lpos) X.env) :: backTo pos (starEach [] X.env))) _ _ s
  refine Calls.spliced_cons (lam_makeS I TB hcode mT oT tabs hde (L.has I.ok) fun f c' pm' ctv H1 s1 M => Calls.spliced_nil ⟨M.inv.kIn, ?_⟩)
  have run : codeAny (model X.prog X.w) X.A (.call (.ref g) ⟨[.ref f], []⟩) (CR CX0 X.stack X.prog X.w H1 s1 Q Cc.E0) s1 := by
    refine run_ofS (N := N) (ps := [a]) (us := [.ref f]) (vs := [.ref f]) lk G.hcg Sg (hr.mono hkm) M.inv.env0 (hb s1 [.ref f] M.inv.kIn rfl) (.cons rfl .nil) rfl fun room => ?_
    obtain ⟨t', d, w⟩ := gives f c' s1 H1 Q (fun E H' Q' => t E σ H' Q') (fun W pn xe E p1 p2 tk hW => pe_act (i := 0) M.inv L M.obj M.new M.off (hbind _ _ _ _ _) tk hW room (fun A outer s H r2 => hbody A outer s H E f c' r2) at0 va d2 d3) M.co (h H1 M.but M.tab)
    exact ⟨t', d.nox, w⟩
  refine wpAny_call (codeAny_mono run fun r s2 hq => ?_)
  cases r with
  | error e => exact (show False from hq).elim
  | ok fl =>
    cases fl with
    | ret u => exact M.inv.after hq
    | next => exact hq.elim
    | brk => exact hq.elim
    | cont => exact hq.elim
end
end Cc

/-! Mi: lambdas handed to a def -/
namespace Mi
open PySem L2 Cc
/-- the world of a law that draws and makes lambdas: the row at r, the law's own table at P -/
def lamB (K : Fg) (ct : List Str → Option Addr) (cls : Nat → Addr) (ea : Str → Option Addr) (ef : Str → List Str) (S : Addr × List Int) (r P : Addr) (q : Str) : Wd K where
  ct := ct
  cls := cls
  ea := ea
  ef := ef
  r := r
  X := fun a => a == r || a == P
  I := fun H => Row K S H r ∧ LamX.Tabs [(P, q)] H
  Fr := fun a => (a ≠ r ∧ a ≠ P) ∧ Ind K S a
  cell := fun {H a} h x => by
    rcases Bool.or_eq_true_iff.mp x with x | x
    · have e : a = r := by simpa using x
      subst e
      obtain ⟨_, _, _, h1, _⟩ := h.1
      exact ⟨_, h1, rfl⟩
    · have e : a = P := by simpa using x
      subst e
      obtain ⟨ps, h1, _⟩ := h.2 (a, q) (by simp)
      exact ⟨_, h1, rfl⟩
  up := fun h e => ⟨h.1.up e, h.2.ext e⟩
  new := fun {H a} h e => by
    obtain ⟨_, _, _, h1, h2, _⟩ := h.1
    obtain ⟨ps, h3, _⟩ := h.2 (P, q) (by simp)
    exact ⟨⟨(ne_of_none h1 e).symm, (ne_of_none h3 e).symm⟩, ind_new h2 e⟩
  off := fun {H a o u} h f ho hc => by
    obtain ⟨pos, rng, rest, h1, h2, h3, h4⟩ := h.1
    refine ⟨⟨pos, rng, rest, by rw [upd_ne (Ne.symm f.1.1)]; exact h1, lkeepO h2 f.2, h3, h4⟩, fun p hp => ?_⟩
    rw [List.mem_singleton.mp hp]
    obtain ⟨ps, a1, a2, a3⟩ := h.2 (P, q) (by simp)
    refine ⟨ps, by rw [upd_ne (Ne.symm f.1.2)]; exact a1, a2, fun pos cv hcv => ?_⟩
    obtain ⟨c, e1, e2⟩ := a3 pos cv hcv
    refine ⟨c, e1, ?_⟩
    rw [upd_ne]
    · exact e2
    · rintro rfl
      rw [e2] at ho
      cases ho
      cases hc
theorem lamB_ok {K : Fg} {ct : List Str → Option Addr} {cls : Nat → Addr} {ea : Str → Option Addr} {ef : Str → List Str} {S : Addr × List Int} {r P : Addr} {q : Str} : RowOk (lamB K ct cls ea ef S r P q) := ⟨S, fun _ h => h.1, fun H H' i b h => ⟨fun c o e x => b c o e (by
  have : c ≠ r := fun z => by subst z; simp [lamB] at x
  simpa [lamB] using this), h, by
  obtain ⟨_, _, _, h1, _⟩ := i.1
  exact tabs_but i.2 h1 b⟩⟩
section
variable {K : Fg} {W : Wd K} {E : XK}
/-- the world of the def that was handed the lambda f, from H1 on -/
def lamW (W : Wd K) (f c' : Addr) (q : Str) (H1 : Hp) (i : W.I H1) : Wd K where
  ct := W.ct
  cls := W.cls
  ea := W.ea
  ef := W.ef
  r := f
  X := W.X
  I := fun H => Ext W H1 H ∧ H c' = some (LamX.CodeO c' q)
  Fr := fun a => W.Fr a ∧ H1 a = none ∧ a ≠ c'
  cell := fun h x => W.cell h.1.2 x
  up := fun h e => ⟨h.1.trans (.of h.1.2 e), e _ _ h.2⟩
  new := fun h e => ⟨W.new h.1.2 e, h.1.free i e, fun z => by subst z; rw [h.2] at e; cases e⟩
  off := fun {H a o u} h f ho hc => ⟨⟨fun b o' e x => by
    rw [upd_ne (ne_of_none e f.2.1)]
    exact h.1.1 b o' e x, W.off h.1.2 f.1 ho hc⟩, by rw [upd_ne (Ne.symm f.2.2)]; exact h.2⟩
/-- what such a def makes of the lambda, by a function of what the lambda does -/
def TTw (W : Wd K) (F : M D → M D) : (XK → Hp → VK → Prop) → Hp → VK → Prop := fun tl H Q => ∃ Y m, Ok W Y H ∧ (∀ E H' Q', Ok W Y H' → Ext W H H' → m.wp (RetP W Y H' Q') (ErrP W E H') → tl E H' Q') ∧ (F m).wp (RetP W Y H Q) (fun _ _ => False)
def mAct (m : M D) : Env → M D := fun ρ => if isRow ρ 0 then m.bind fun d => if ok1 d then .ret d else .bad else .bad
def sAct (m : M D) : Env → M Fl := fun ρ => if isRow ρ 0 then m.bind fun _ => .ret (.nx ρ) else .bad
/-- what the lambda does, told to the def that was handed it -/
structure ActOk (W : Wd K) (Y0 : Addr → Bool) (H1 : Hp) (c' : Addr) (q : Str) (tl : XK → Hp → VK → Prop) (m : M D) : Prop where
  i : W.I H1
  co : H1 c' = some (LamX.CodeO c' q)
  ok : Ok W Y0 H1
  h : ∀ E H' Q', Ok W Y0 H' → Ext W H1 H' → m.wp (RetP W Y0 H' Q') (ErrP W E H') → tl E H' Q'
theorem ActOk.nX {Y0 : Addr → Bool} {H1 : Hp} {c' : Addr} {q : Str} {tl : XK → Hp → VK → Prop} {m : M D} (A : ActOk W Y0 H1 c' q tl m) : W.X c' = false := by
  cases x : W.X c' with
  | false => rfl
  | true =>
    obtain ⟨o, ho, hc⟩ := W.cell A.i x
    rw [A.co] at ho
    cases ho
    cases hc
section
variable {f c' : Addr} {q : Str} {H1 : Hp} {Y0 : Addr → Bool} {tl : XK → Hp → VK → Prop} {m : M D}
theorem ActOk.ext (A : ActOk W Y0 H1 c' q tl m) {H H' : Hp} (o : Ext W H1 H ∧ H c' = some (LamX.CodeO c' q)) (x : Ext W H H') : Ext (lamW W f c' q H1 A.i) H H' := ⟨x.1, o.1.trans x, x.1 _ _ o.2 A.nX⟩
theorem ge_act (A : ActOk W Y0 H1 c' q tl m) : GE (lamW W f c' q H1 A.i) E (fun σ H Q => σ[0]? = some (some (.ref f)) ∧ H c' = some (LamX.CodeO c' q) ∧ tl E H Q) (mAct m) := fun Y σ H ρ Q o e w => by
  unfold mAct at w
  by_cases hr : isRow ρ 0 = true
  case neg => rw [if_neg hr] at w; exact w.elim
  rw [if_pos hr] at w
  refine ⟨e.2.2.1 0 (isRow_at hr), o.1.2, A.h E H Q (A.ok.ext o.1.1) o.1.1 (M.wp_mono (fun d hd v H' x hv => ?_) (fun c p hc cls ob H' x he => hc cls ob H' (A.ext o.1 x) he) _ ((M.wp_bind _).mp w))⟩
  by_cases k : ok1 d = true
  · rw [if_pos k] at hd
    have k' : d.fix = true ∧ d.pl = true := by simpa [ok1] using k
    exact hd v H' (A.ext o.1 x) (Dn.see (o.ext (A.ext o.1 x)) d v k'.1 k'.2 hv.un)
  · rw [if_neg k] at hd
    exact hd.elim
theorem gs_act (A : ActOk W Y0 H1 c' q tl m) : GS (lamW W f c' q H1 A.i) E (tDrop fun σ H Q => σ[0]? = some (some (.ref f)) ∧ H c' = some (LamX.CodeO c' q) ∧ tl E H Q) (sAct m) := fun Y B σ H ρ Dn ⟨L, s⟩ w => by
  unfold sAct at w
  by_cases hr : isRow ρ 0 = true
  case neg => rw [if_neg hr] at w; exact w.elim
  rw [if_pos hr] at w
  have o := s.ok.1
  exact ⟨s.envA.2.2.1 0 (isRow_at hr), o.2, A.h E H _ (A.ok.ext o.1) o.1 (M.wp_mono (fun d hd v H' x hv => hd σ H' ⟨L, s.up (A.ext o x)⟩) (fun c p hc cls ob H' x he => hc cls ob H' (s.bokE (A.ext o x)) he) _ ((M.wp_bind _).mp w))⟩
end
/-- such a def, by its body -/
def defL (n : Nat) (b : M D → Env → M Fl) : M D → M D := fun m => (b m (.row :: List.replicate (n - 1) .no)).bind fin
theorem gives_of {X : Cx} {N : List Str} {x : Str} {sg : Scope} {g : Addr} {cdg : Value} {bg : List Stmt} {a q : Str} {b : M D → Env → M Fl} (hN : 1 ≤ N.length)
    (hb : ∀ (f c' : Addr) (s : Shared) (H : Hp) (tl : XK → Hp → VK → Prop), (∀ (Wx : WX) (pn : List (Addr × Obj)) (xe : Value → Shared → Prop) (E : XK) (p1 p2 : Pos), Takes ((cxOf CX0 X.prog X.w X.K X.mg X.base N x sg g cdg X.A X.stack s H Cc.E0).tr pn xe) Wx → (∀ cls d σ' H', E cls d H' → Wx cls d σ' H') →
      PE ((cxOf CX0 X.prog X.w X.K X.mg X.base N x sg g cdg X.A X.stack s H Cc.E0).tr pn xe) (.Call (.Name a p1) [] [] p2) (fun σZ HZ Q => σZ[0]? = some (some (.ref f)) ∧ HZ c' = some (LamX.CodeO c' q) ∧ tl E HZ Q)) →
      ∃ t, PSs (cxOf CX0 X.prog X.w X.K X.mg X.base N x sg g cdg X.A X.stack s H Cc.E0).nox bg t ∧ ∀ (Y0 : Addr → Bool) (m : M D) (A : ActOk W Y0 H c' q tl m), GS (lamW W f c' q H A.i) Cc.E0 t (b m)) :
    LamX.GivesTo X N x sg g cdg bg a q (TTw W (defL N.length b)) := fun f c' s H Q tl act hc ⟨Y, m, ok, htl, w⟩ => by
  obtain ⟨t, h1, h2⟩ := hb f c' s H tl act
  refine ⟨t, h1, ?_⟩
  have A : ActOk W Y H c' q tl m := ⟨ok.1, hc, ok, htl⟩
  have e0 : Ext W H H := .refl ok.1
  have sr : SR (lamW W f c' q H A.i) Y ⟨[(H, W.X)], none⟩ (L2.start N [.ref f]) H (.row :: List.replicate (N.length - 1) .no) [] := {
    ok := ⟨⟨e0, hc⟩, ok.2⟩
    bs := fun k hk => by
      rw [List.mem_singleton.mp hk]
      exact ⟨fun _ h => h, fun _ _ e _ => e⟩
    len := by simp [L2.start]
    fre := fun p hp => nomatch hp
    nd := .nil
    sl := fun i t' ht => by
      cases i with
      | zero =>
        cases ht
        rfl
      | succ i =>
        rw [List.getElem?_cons_succ] at ht
        rw [(List.mem_replicate.mp (List.mem_of_getElem? ht)).2]
        trivial }
  refine h2 Y m A Y ⟨[(H, W.X)], none⟩ _ H _ _ ⟨[], sr⟩ (M.wp_mono (fun fl hf => ?_) (fun c p hc => hc.elim) _ ((M.wp_bind _).mp w))
  cases fl with
  | nx ρ' => exact fun σ' H' ⟨L, s⟩ => hf .non H' s.ok.1.1 .non
  | rt d => exact fun v H' k hv => hf v H' k.1.1 hv
  | bk _ => exact hf.elim
  | rs _ _ _ _ => exact hf.elim
  | ct _ => exact hf.elim
/-- x(lambda: e) -/
theorem ge_lam {T : List (Addr × Str)} {P : Addr} {F : M D → M D} {t : XK → TE} {mb : Env → M D} (tab : ∀ H, W.I H → LamX.Tabs T H) (xt : ∀ H H', W.I H → But [P] H H' → LamX.Tabs T H' → Ext W H H') (h : ∀ E', GE W E' (t E') mb) : GE W E (tLamS T P (TTw W F) t) (fun ρ => (F (mb ρ)).calm) := fun Y σ H ρ Q o e w =>
  ⟨tab H o.1, fun H1 b tb => by
    have x := xt H H1 o.1 b tb
    exact ⟨Y, mb ρ, o.ext x, fun E' H' Q' o' x' w' => h E' Y σ H' ρ Q' o' ((e.up o x).up (o.ext x) x') w', M.wp_mono (fun d hd => hd.up x) (fun _ _ h => h) _ (M.wp_calm (E' := fun _ _ => False) _ w)⟩⟩
end
theorem lamB_tab {K : Fg} {ct : List Str → Option Addr} {cls : Nat → Addr} {ea : Str → Option Addr} {ef : Str → List Str} {S : Addr × List Int} {r P : Addr} {q : Str} : ∀ H, (lamB K ct cls ea ef S r P q).I H → LamX.Tabs [(P, q)] H := fun _ h => h.2
theorem lamB_ext {K : Fg} {ct : List Str → Option Addr} {cls : Nat → Addr} {ea : Str → Option Addr} {ef : Str → List Str} {S : Addr × List Int} {r P : Addr} {q : Str} : ∀ H H', (lamB K ct cls ea ef S r P q).I H → But [P] H H' → LamX.Tabs [(P, q)] H' → Ext (lamB K ct cls ea ef S r P q) H H' := fun H H' h b t => by
  refine ⟨fun c o e x => b c o e (by
    have : c ≠ P := fun z => by subst z; simp [lamB] at x
    simpa using this), ?_, t⟩
  obtain ⟨pos, rng, rest, h1, h2, h3, h4⟩ := h.1
  obtain ⟨ps, hP, _⟩ := h.2 (P, q) (by simp)
  have nP : ∀ b o, H b = some o → (∀ ps, o ≠ .tbl ps) → b ∉ [P] := fun b o e n m => by
    rw [List.mem_singleton.mp m, hP] at e
    exact n ps (Option.some.inj e).symm
  refine ⟨pos, rng, rest, b _ _ h1 (nP _ _ h1 fun _ z => nomatch z), ?_, h3, h4⟩
  rcases h2 with (h2 | ⟨o, h2⟩) | h2
  · exact .inl (.inl (b _ _ h2 (nP _ _ h2 fun _ z => nomatch z)))
  · exact .inl (.inr ⟨o, b _ _ h2 (nP _ _ h2 fun _ z => nomatch z)⟩)
  · exact .inr h2
/-- the promise of a law that makes lambdas -/
def spLawP (K : Fg) (P0 : Addr) : Sp := fun vs H Q _ => ∃ (a : Addr) (ns : List Int), vs = [.ref a] ∧ SqL K H a (ns.map V.int) ∧ ns.length ≤ 63 ∧ H P0 = some (.tbl #[]) ∧ ∀ H', Q (.bl true) H'
abbrev qLam : Str := ("law" : Str) ++ ".<locals>." ++ "<lambda>"
theorem ok_lawL {P : Program} {w : World} {K : Fg} {mg : Str → Option Value} {base : Heap} {st : Stmt} {f c0 P0 : Addr} {N : List Str} {k : Nat} {a : Env → M Fl} {ct : List Str → Option Addr} {cls : Nat → Addr} {ea : Str → Option Addr} {ef : Str → List Str} {oc dc pm ctv kV : Value} {od an : Option Addr} {sl : Array (Option Value)}
    (lk : K.lookup f = some ⟨oc, od, .func (PySem.W.fnOf "law" "law" (defArgs st) (defBody st) (defScope st) .none kV dc pm an (.ref c0) ctv), sl⟩) (hcd : PySem.W.codeIn K (.ref c0) "law" = true) (S : FnScope N ["_law_script"] (defScope st)) (hN : 2 ≤ N.length)
    (hb : ∀ (A : Around) (outer : List PySem.Env) (s : Shared) (H : Hp) (E : XK), Room k (A.deeper (PyProof.Rows.envOfC "law" (defScope st) s.heap.objs.size f (.ref c0))) → ∃ t : (Addr × List Int) × Addr → TS, PSs (cxOf CX0 P w K mg base N "law" (defScope st) f (.ref c0) A outer s H E).nox (defBody st) (tSeq tRow fun D σ H => ∃ i, t i D σ H) ∧ ∀ i, GS (lamB K ct cls ea ef i.1 i.2 P0 qLam) Cc.E0 (t i) a)
    (hw : (lawM N.length a).wp (fun d => d = .bl true) (fun _ _ => False)) : FnOk P w K mg base CX0 (k + 1) f (PySem.W.fnOf "law" "law" (defArgs st) (defBody st) (defScope st) .none kV dc pm an (.ref c0) ctv) ["_law_script"] (spLawP K P0) := by
  refine fn_of lk hcd S (fun vs H Q E h => ?_) (fun A outer s H vs Q E hr h => ?_)
  · obtain ⟨b, ns, rfl, _⟩ := h
    rfl
  · obtain ⟨b, ns, rfl, hS, hlen, hP, hq⟩ := h
    obtain ⟨t, h1, h2⟩ := hb A outer s H E hr
    refine ⟨_, h1.nox, .ref b, rfl, by simp [sizeLine_eq], fun r hr0 => ?_⟩
    have e1 := Same.new (o := .lst [.ref b, .int 0, .int 0, .int 0]) hr0
    have hrow : Row K (b, ns) (upd H r (.lst [.ref b, .int 0, .int 0, .int 0])) r := ⟨0, 0, 0, upd_same, same_l e1 hS, ind_new hS hr0, hlen, by omega⟩
    have htab : LamX.Tabs [(P0, qLam)] (upd H r (.lst [.ref b, .int 0, .int 0, .int 0])) := LamX.Tabs.ext (fun p hp => by rw [List.mem_singleton.mp hp]; exact LamX.TabS.nil hP) e1
    have hcell : (upd H r (.lst [.ref b, .int 0, .int 0, .int 0])) r = some (.lst [.ref b, .int 0, .int 0, .int 0]) := upd_same
    have hcelP : (upd H r (.lst [.ref b, .int 0, .int 0, .int 0])) P0 = some (.tbl #[]) := e1 _ _ hP
    generalize upd H r (.lst [.ref b, .int 0, .int 0, .int 0]) = H1 at hrow hcell htab hcelP ⊢
    refine ⟨((b, ns), r), ?_⟩
    let W := lamB K ct cls ea ef (b, ns) r P0 qLam
    have sr : SR W W.X ⟨[(H1, W.X)], none⟩ ((L2.start N [.ref b]).set 1 (some (.ref r))) H1 (.no :: .row :: List.replicate (N.length - 2) .no) [] := {
      ok := ⟨⟨hrow, htab⟩, fun _ h => h, fun c hc => W.cell (H := H1) ⟨hrow, htab⟩ hc⟩
      bs := fun k hk => by
        rw [List.mem_singleton.mp hk]
        exact ⟨fun _ h => h, fun _ _ e _ => e⟩
      len := by simp [L2.start]; omega
      fre := fun p hp => nomatch hp
      nd := .nil
      sl := fun i t' ht => by
        match i with
        | 0 => cases ht; trivial
        | 1 =>
          cases ht
          show ((L2.start N [.ref b]).set 1 (some (.ref r)))[1]? = some (some (V.ref r))
          rw [List.getElem?_set_self]
          simp [L2.start]; omega
        | i + 2 =>
          rw [List.getElem?_cons_succ, List.getElem?_cons_succ] at ht
          rw [(List.mem_replicate.mp (List.mem_of_getElem? ht)).2]
          trivial }
    refine h2 ((b, ns), r) W.X ⟨[(H1, W.X)], none⟩ _ H1 _ _ ⟨[], sr⟩ (M.wp_mono (fun fl hf => ?_) (fun c p hc => hc.elim) _ ((M.wp_bind _).mp hw))
    cases fl with
    | nx ρ' => exact absurd (show D.non = D.bl true from hf) (by simp)
    | rt d =>
      obtain rfl : d = .bl true := hf
      exact fun v H' _ hv => by cases hv; exact hq H'
    | bk _ => exact hf.elim
    | rs _ _ _ _ => exact hf.elim
    | ct _ => exact hf.elim
end Mi

/-! Mi: several targets by way of a tuple, new lists among them -/
namespace Mi
open PySem L2 Cc
def gNames : List Nat → TGs
  | [] => gNil
  | i :: r => gCons (gName i) (gNames r)
def setAll : List Nat → List Sl → Env → Env
  | i :: is, t :: ts, ρ => setAll is ts (ρ.set i t)
  | _, _, ρ => ρ
def sTupX (is : List Nat) (ags : List Ag) : Env → M Fl := fun ρ => (agGo ags ρ).bind fun ts => .ret (.nx (setAll is ts ρ))
section
variable {K : Fg} {W : Wd K} {E : XK} {Y : Addr → Bool} {B : Bases}
theorem VRs.len {H : Hp} {L : List (Nat × Addr)} {is : List Nat} {vs : List V} {ts : List Sl} (h : VRs W Y H L is vs ts) : vs.length = is.length := by
  induction h with
  | nil => rfl
  | cons _ _ ih => simp [ih]
theorem names_run {H : Hp} {L : List (Nat × Addr)} {Dn : Ends} : ∀ {is : List Nat} {vs : List V} {ts : List Sl} {σ : L2.St} {ρ : Env}, VRs W Y H L is vs ts → SR W Y B σ H ρ L → FlP W Y B Dn (.nx (setAll is ts ρ)) → gNames is vs σ H Dn.nx
  | [], _, _, σ, ρ, h, s, w => by
    cases h
    exact ⟨rfl, w σ H ⟨L, s⟩⟩
  | i :: is, _, _, σ, ρ, h, s, w => by
    cases h with
    | cons h1 h2 => exact ⟨_, _, rfl, names_run h2 (s.putV h1) w⟩
theorem gs_tupX {is : List Nat} {ta : TA} {ags : List Ag} {n : Nat} (h : GX W E ta ags) (hn : is.length = n := by rfl) (hl : is.length = ags.length := by rfl) (hs : is.length ≤ 1000 := by decide) : GS W E (tAsg (tTupP ta) (gTup K n (gNames is))) (sTupX is ags) := fun Y B σ H ρ Dn ⟨L, s⟩ w => by
  refine gx_run h is H L _ _ hl s ((M.wp_bind _).mp w) fun ts vs H' L' hR s' hvs _ => ⟨by have := hvs.len; rw [sizeLine_eq]; omega, fun p o hp ho => ?_⟩
  have e := Ext.of s'.ok.1 (Same.new (o := .frz o (.tup vs)) hp)
  exact ⟨p, vs, rfl, .inl (.inr ⟨o, upd_same⟩), by rw [hvs.len, hn], names_run (hvs.up s' e) (s'.up e) hR⟩
end
end Mi

/-! Mi: functions on data are run -/
namespace Mi
open PySem Cc
/-- what stands in a list that is written out -/
theorem at0 {α : Type} {a : α} {l : List α} : (a :: l)[(0 : Nat)]? = some a := rfl
theorem atS {α : Type} {a : α} {l : List α} {i : Nat} : (a :: l)[i + 1]? = l[i]? := by simp
/-- a loop over what stands for a list -/
theorem forGo_run {α : Type} {p : Pat} {b : Env → M Fl} (f : α → D) (P : List α → Env → Prop) (h : ∀ x xs ρ, P (x :: xs) ρ → ∃ ρ1 ρ2, p (f x) ρ = some ρ1 ∧ b ρ1 = .ret (.nx ρ2) ∧ P xs ρ2) :
    ∀ (xs : List α) (ρ : Env), P xs ρ → ∃ ρ', forGo p b (xs.map f) ρ = .ret (.nx ρ') ∧ P [] ρ'
  | [], ρ, hp => ⟨ρ, rfl, hp⟩
  | x :: xs, ρ, hp => by
    obtain ⟨ρ1, ρ2, h1, h2, h3⟩ := h x xs ρ hp
    obtain ⟨ρ', h4, h5⟩ := forGo_run f P h xs ρ2 h3
    refine ⟨ρ', ?_, h5⟩
    rw [List.map_cons, forGo, h1]
    dsimp only
    rw [h2, M.bind_ret]
    exact h4
theorem forGo_bind {α β : Type} {p : Pat} {b : Env → M Fl} {K : Fl → M β} {X : M β} (f : α → D) (P : List α → Env → Prop) (xs : List α) {ρ : Env} (h : ∀ x xs ρ, P (x :: xs) ρ → ∃ ρ1 ρ2, p (f x) ρ = some ρ1 ∧ b ρ1 = .ret (.nx ρ2) ∧ P xs ρ2)
    (hp : P xs ρ) (k : ∀ ρ', P [] ρ' → K (.nx ρ') = X) : (forGo p b (xs.map f) ρ).bind K = X := by
  obtain ⟨ρ', h1, h2⟩ := forGo_run f P h xs ρ hp
  rw [h1, M.bind_ret]
  exact k ρ' h2
theorem forGo_idx {β : Type} {p : Pat} {b : Env → M Fl} {K : Fl → M β} {X : M β} (P : Nat → Env → Prop) : ∀ (ds : List D) {ρ : Env} (n : Nat) (h : ∀ i d ρ, ds[i]? = some d → P (n + i) ρ → ∃ ρ1 ρ2, p d ρ = some ρ1 ∧ b ρ1 = .ret (.nx ρ2) ∧ P (n + i + 1) ρ2)
    (hp : P n ρ) (k : ∀ ρ', P (n + ds.length) ρ' → K (.nx ρ') = X), (forGo p b ds ρ).bind K = X
  | [], ρ, n, h, hp, k => k ρ hp
  | d :: ds, ρ, n, h, hp, k => by
    obtain ⟨ρ1, ρ2, h1, h2, h3⟩ := h 0 d ρ rfl hp
    rw [forGo, h1]
    dsimp only
    rw [h2, M.bind_ret]
    refine forGo_idx P ds (n + 1) (fun i e ρ he hP => ?_) h3 fun ρ' hP => k ρ' ?_
    · have := h (i + 1) e ρ (by simpa using he) (by rw [show n + (i + 1) = n + 1 + i by omega]; exact hP)
      rw [show n + (i + 1) + 1 = n + 1 + i + 1 by omega] at this
      exact this
    · rw [List.length_cons, show n + (ds.length + 1) = n + 1 + ds.length by omega]
      exact hP
/-- .. with draws -/
theorem forGo_wp {α : Type} {p : Pat} {b : Env → M Fl} (f : α → D) (P : List α → Env → Prop) {Q : Fl → Prop} {E : Str → List D → Prop} (h : ∀ x xs ρ, P (x :: xs) ρ → ∃ ρ1, p (f x) ρ = some ρ1 ∧ (b ρ1).wp (fun fl => ∃ ρ2, fl = .nx ρ2 ∧ P xs ρ2) E) (hQ : ∀ ρ, P [] ρ → Q (.nx ρ)) :
    ∀ (xs : List α) (ρ : Env), P xs ρ → (forGo p b (xs.map f) ρ).wp Q E
  | [], ρ, hp => hQ ρ hp
  | x :: xs, ρ, hp => by
    obtain ⟨ρ1, h1, h2⟩ := h x xs ρ hp
    rw [List.map_cons, forGo, h1]
    dsimp only
    rw [M.wp_bind]
    refine M.wp_mono (fun fl hf => ?_) (fun _ _ h => h) _ h2
    obtain ⟨ρ2, rfl, h3⟩ := hf
    exact forGo_wp f P h hQ xs ρ2 h3
/-- a comprehension over what stands for a list -/
theorem lcGo_map {α : Type} {p : Pat} {c : Env → M Bool} {e : Env → M D} {ρ : Env} (f : α → D) (g : α → D) : ∀ (xs : List α), (∀ x ∈ xs, ∃ ρ1, p (f x) ρ = some ρ1 ∧ c ρ1 = .ret true ∧ e ρ1 = .ret (g x)) → lcGo p c e ρ (xs.map f) = .ret (xs.map g)
  | [], _ => rfl
  | x :: xs, h => by
    obtain ⟨ρ1, h1, h2, h3⟩ := h x (by simp)
    rw [List.map_cons, lcGo, h1]
    dsimp only
    rw [h2, M.bind_ret, if_pos rfl, h3, M.bind_ret, lcGo_map f g xs fun y hy => h y (List.mem_cons_of_mem _ hy), M.bind_ret, List.map_cons]
theorem lcGo_wp {α β : Type} {p : Pat} {c : Env → M Bool} {e : Env → M D} {ρ : Env} {E : Str → List D → Prop} (f : α → D) (g : β → D) (G : β → Prop) : ∀ (xs : List α) (Q : List D → Prop), (∀ x ∈ xs, ∃ ρ1, p (f x) ρ = some ρ1 ∧ c ρ1 = .ret true ∧ (e ρ1).wp (fun d => ∃ o, G o ∧ d = g o) E) → (∀ os : List β, os.length = xs.length → (∀ o ∈ os, G o) → Q (os.map g)) → (lcGo p c e ρ (xs.map f)).wp Q E
  | [], Q, _, k => k [] rfl fun _ h => nomatch h
  | x :: xs, Q, h, k => by
    obtain ⟨ρ1, h1, h2, h3⟩ := h x (by simp)
    rw [List.map_cons, lcGo, h1]
    dsimp only
    rw [h2, M.bind_ret, if_pos rfl, M.wp_bind]
    refine M.wp_mono (fun d hd => ?_) (fun _ _ h => h) _ h3
    obtain ⟨o, ho, rfl⟩ := hd
    rw [M.wp_bind]
    exact lcGo_wp f g G xs _ (fun y hy => h y (List.mem_cons_of_mem _ hy)) fun os hl hG => k (o :: os) (by simp [hl]) fun z hz => by
      rcases List.mem_cons.mp hz with rfl | hz
      · exact ho
      · exact hG z hz
theorem M.calm_wp {α : Type} {Q : α → Prop} {E : Str → List D → Prop} : ∀ m : M α, m.wp Q (fun _ _ => False) → m.calm.wp Q E
  | .ret a, h => h
  | .err _ _, h => h.elim
  | .bad, h => h
  | .draw n k, h => ⟨h.1, fun i h0 h1 => M.calm_wp (k i) (h.2 i h0 h1)⟩
end Mi

/-! Mi: statements run one by one; what holds of a run is boxed, so that nothing evaluates it by the way -/
namespace Mi
open PySem L2 Cc
structure Wp {α : Type} (m : M α) (Q : α → Prop) (E : Str → List D → Prop) : Prop where
  out : m.wp Q E
section
variable {a b : Env → M Fl} {c : Env → M Bool} {ρ ρ' : Env} {Q Q' : Fl → Prop} {E : Str → List D → Prop} {m : Env → M D}
theorem wp_next (h : a ρ = .ret (.nx ρ')) (k : Wp (b ρ') Q E) : Wp (sSeq a b ρ) Q E := ⟨by
  unfold sSeq
  rw [h, M.bind_ret]
  exact k.out⟩
theorem wp_if0 (h : c (vB ρ) = .ret false) (k : Wp (b ρ) Q E) : Wp (sSeq (sIf c a sNext) b ρ) Q E := by
  refine wp_next (ρ' := ρ) ?_ k
  unfold sIf
  rw [h, M.bind_ret]
  rfl
theorem wp_ifE (h : c (vB ρ) = .ret false) (k : Q (.nx ρ)) : Wp (sIf c a sNext ρ) Q E := ⟨by
  unfold sIf
  rw [h, M.bind_ret]
  exact k⟩
theorem wp_draw0 {i j : Nat} {n : Int} (hr : isRow ρ j = true) (hn : 0 < n ∧ n < 1073741824) (k : ∀ d : Int, 0 ≤ d → d < n → Wp (b (ρ.set i (.dat (.int d)))) Q E) : Wp (sSeq (sAsg i (mDraw j (mC (.int n)))) b ρ) Q E := ⟨by
  unfold sSeq sAsg mDraw
  rw [if_pos hr]
  exact ⟨hn, fun d h0 h1 => (k d h0 h1).out⟩⟩
/-- a statement that begins with a draw, behind which it is run to its end -/
theorem wp_drawn {s : Env → M Fl} {n : Int} {f : Int → M Fl} (h : s ρ = .draw n f) (hn : 0 < n ∧ n < 1073741824) (k : ∀ d : Int, 0 ≤ d → d < n → ∃ ρ', f d = .ret (.nx ρ') ∧ Wp (b ρ') Q E) : Wp (sSeq s b ρ) Q E := ⟨by
  unfold sSeq
  rw [h]
  refine ⟨hn, fun d h0 h1 => ?_⟩
  obtain ⟨ρ', e, w⟩ := k d h0 h1
  show ((f d).bind fun fl => fl.next b).wp Q E
  rw [e]
  exact w.out⟩
theorem wp_seq (h : Wp (a ρ) (fun fl => ∃ ρ', fl = .nx ρ' ∧ Wp (b ρ') Q E) E) : Wp (sSeq a b ρ) Q E := ⟨by
  unfold sSeq
  rw [M.wp_bind]
  refine M.wp_mono (fun fl hf => ?_) (fun _ _ h => h) _ h.out
  obtain ⟨ρ', rfl, w⟩ := hf
  exact w.out⟩
theorem wp_ret {fl : Fl} (h : a ρ = .ret fl) (k : Q fl) : Wp (a ρ) Q E := ⟨by rw [h]; exact k⟩
theorem Wp.mono (h : Wp (a ρ) Q E) (k : ∀ fl, Q fl → Q' fl) : Wp (a ρ) Q' E := ⟨M.wp_mono k (fun _ _ h => h) _ h.out⟩
/-- a loop over numbers drawn from a range: what stands at each turn's beginning stands at its end -/
theorem wp_rng {i : Nat} {n : Nat} {mn : Env → M D} (P : Env → Prop) (hn : mn ρ = .ret (.int n)) (hr : rgOk 0 n = true) (hp : P ρ) (h : ∀ (ρ : Env) (k : Nat), k < n → P ρ → Wp (a (ρ.set i (.dat (.int (k : Int))))) (fun fl => ∃ ρ', fl = .nx ρ' ∧ P ρ') E) (q : ∀ ρ, P ρ → Wp (b ρ) Q E) : Wp (sSeq (sFor (rg1 mn) (pName i) a) b ρ) Q E := by
  refine wp_seq ⟨?_⟩
  unfold sFor rg1
  rw [hn]
  simp only [M.bind_ret]
  rw [if_pos hr, M.bind_ret]
  unfold rgD
  rw [Int.sub_zero, Int.toNat_natCast]
  have key : ∀ (l : List Nat) (ρ : Env), (∀ x ∈ l, x < n) → P ρ → (forGo (pName i) a (l.map fun k : Nat => D.int (0 + (k : Int))) ρ).wp (fun fl => ∃ ρ', fl = .nx ρ' ∧ Wp (b ρ') Q E) E := by
    intro l
    induction l with
    | nil => exact fun ρ _ hp => ⟨ρ, rfl, q ρ hp⟩
    | cons x l ih =>
      intro ρ hl hp
      rw [List.map_cons, forGo]
      show ((a (ρ.set i (.dat (.int (0 + (x : Int)))))).bind _).wp _ _
      rw [M.wp_bind, Int.zero_add]
      refine M.wp_mono (fun fl hf => ?_) (fun _ _ h => h) _ (h ρ x (hl x (by simp)) hp).out
      obtain ⟨ρ', rfl, hp'⟩ := hf
      exact ih ρ' (fun y hy => hl y (List.mem_cons_of_mem _ hy)) hp'
  exact key _ ρ (fun x hx => List.mem_range.mp hx) hp
end
theorem law_of {n : Nat} {a : Env → M Fl} {E : Str → List D → Prop} (h : (a (.no :: .row :: List.replicate (n - 2) .no)).wp (fun fl => fl = .rt (.bl true)) E) : (lawM n a).wp (fun d => d = .bl true) E := by
  unfold lawM
  rw [M.wp_bind]
  exact M.wp_mono (fun fl h => by subst h; rfl) (fun _ _ h => h) _ h
theorem law_ofW {n : Nat} {a : Env → M Fl} {E : Str → List D → Prop} (h : Wp (a (.no :: .row :: List.replicate (n - 2) .no)) (fun fl => fl = .rt (.bl true)) E) : Wp (lawM n a) (fun d => d = .bl true) E := ⟨law_of h.out⟩
theorem at_nat' {ds : List D} {j : Nat} {d : D} (h : ds[j]? = some d) : atI ds (j : Int) = some d := by
  obtain ⟨hj, he⟩ := List.getElem?_eq_some_iff.mp h
  unfold atI ixN
  simp [hj, he]
theorem int_lt {i : Int} {n : Nat} (h0 : 0 ≤ i) (h : i < (n : Int)) : ∃ k : Nat, k < n ∧ i = (k : Int) := ⟨i.toNat, by omega, by omega⟩
end Mi

/-! Mi: loops over a range, turn by turn; what is drawn into a list -/
namespace Mi
open PySem L2 Cc
section
variable {a b : Env → M Fl} {ρ : Env} {Q : Fl → Prop} {E : Str → List D → Prop}
theorem rg_ok' {n : Nat} (h : n ≤ 100000) : rgOk 0 (n : Int) = true := by
  unfold rgOk
  rw [decide_eq_true (show (-1000000 : Int) ≤ 0 by omega), decide_eq_true (show (0 : Int) ≤ 1000000 by omega), decide_eq_true (show (-1000000 : Int) ≤ (n : Int) by omega), decide_eq_true (show (n : Int) ≤ 1000000 by omega)]
  rfl
theorem rgD_nat (n : Nat) : rgD 0 (n : Int) = (List.range n).map fun k : Nat => D.int (k : Int) := by
  unfold rgD
  rw [Int.sub_zero, Int.toNat_natCast]
  exact List.map_congr_left fun k _ => by rw [Int.zero_add]
theorem fixs_rg (n : Nat) : okL ((List.range n).map fun k : Nat => D.int (k : Int)) = true := by
  have h1 : D.fixs ((List.range n).map fun k : Nat => D.int (k : Int)) = true := D.fixs_iff.mpr fun d hd => by
    obtain ⟨k, _, rfl⟩ := List.mem_map.mp hd
    rfl
  have h2 : D.pls ((List.range n).map fun k : Nat => D.int (k : Int)) = true := D.pls_iff.mpr fun d hd => by
    obtain ⟨k, _, rfl⟩ := List.mem_map.mp hd
    rfl
  unfold okL
  rw [h1, h2]
  rfl
theorem forGo_rng {i : Nat} {n : Nat} (P : Nat → Env → Prop) (h : ∀ (ρ : Env) (k : Nat), k < n → P k ρ → Wp (a (ρ.set i (.dat (.int (k : Int))))) (fun fl => ∃ ρ', fl = .nx ρ' ∧ P (k + 1) ρ') E) (q : ∀ ρ, P n ρ → Wp (b ρ) Q E) :
    ∀ (m k : Nat) (ρ : Env), k + m = n → P k ρ → (forGo (pName i) a ((List.range' k m).map fun k : Nat => D.int (k : Int)) ρ).wp (fun fl => ∃ ρ', fl = .nx ρ' ∧ Wp (b ρ') Q E) E
  | 0, k, ρ, e, hp => ⟨ρ, rfl, q ρ (by rw [show n = k by omega]; exact hp)⟩
  | m + 1, k, ρ, e, hp => by
    rw [List.range'_succ, List.map_cons, forGo]
    show ((a (ρ.set i (.dat (.int (k : Int))))).bind _).wp _ _
    rw [M.wp_bind]
    refine M.wp_mono (fun fl hf => ?_) (fun _ _ h => h) _ (h ρ k (by omega) hp).out
    obtain ⟨ρ', rfl, hp'⟩ := hf
    exact forGo_rng P h q m (k + 1) ρ' (by omega) hp'
/-- a loop over range(n), n read while own lists stand -/
theorem wp_rngB {i : Nat} {n : Nat} {mn : Env → M D} (P : Nat → Env → Prop) (hn : mn (vB ρ) = .ret (.int n)) (hr : n ≤ 100000) (hp : P 0 ρ) (h : ∀ (ρ : Env) (k : Nat), k < n → P k ρ → Wp (a (ρ.set i (.dat (.int (k : Int))))) (fun fl => ∃ ρ', fl = .nx ρ' ∧ P (k + 1) ρ') E) (q : ∀ ρ, P n ρ → Wp (b ρ) Q E) : Wp (sSeq (sForB (rg1 mn) (pName i) a) b ρ) Q E := by
  refine wp_seq ⟨?_⟩
  unfold sForB rg1
  rw [hn]
  simp only [M.bind_ret]
  rw [if_pos (rg_ok' hr), M.bind_ret, rgD_nat, if_pos (fixs_rg n), List.range_eq_range']
  exact forGo_rng P h q n 0 ρ (by omega) hp
/-- .. read plainly -/
theorem wp_rngA {i : Nat} {n : Nat} {mn : Env → M D} (P : Nat → Env → Prop) (hn : mn ρ = .ret (.int n)) (hr : n ≤ 100000) (hp : P 0 ρ) (h : ∀ (ρ : Env) (k : Nat), k < n → P k ρ → Wp (a (ρ.set i (.dat (.int (k : Int))))) (fun fl => ∃ ρ', fl = .nx ρ' ∧ P (k + 1) ρ') E) (q : ∀ ρ, P n ρ → Wp (b ρ) Q E) : Wp (sSeq (sFor (rg1 mn) (pName i) a) b ρ) Q E := by
  refine wp_seq ⟨?_⟩
  unfold sFor rg1
  rw [hn]
  simp only [M.bind_ret]
  rw [if_pos (rg_ok' hr), M.bind_ret, rgD_nat, List.range_eq_range']
  exact forGo_rng P h q n 0 ρ (by omega) hp
end
/-- a comprehension over range(n) whose items are drawn -/
theorem lc_drawn {n : Nat} {p : Pat} {e : Env → M D} {ρ : Env} {E : Str → List D → Prop} {G : D → Prop} {R : List D → Prop} (h : ∀ k : Nat, ∃ ρ1, p (.int (k : Int)) ρ = some ρ1 ∧ (e ρ1).wp G E) (k : ∀ ds : List D, ds.length = n → (∀ d ∈ ds, G d) → R ds) : (lcGo p cYes e ρ ((List.range n).map fun k : Nat => D.int (k : Int))).wp R E := by
  have key : ∀ (l : List Nat) (R : List D → Prop), (∀ ds : List D, ds.length = l.length → (∀ d ∈ ds, G d) → R ds) → (lcGo p cYes e ρ (l.map fun k : Nat => D.int (k : Int))).wp R E := by
    intro l
    induction l with
    | nil => exact fun R k => k [] rfl fun _ h => nomatch h
    | cons x l ih =>
      intro R k
      obtain ⟨ρ1, h1, h2⟩ := h x
      rw [List.map_cons, lcGo, h1]
      show ((e ρ1).bind fun x => (lcGo p cYes e ρ (l.map fun k : Nat => D.int (k : Int))).bind fun xs => M.ret (x :: xs)).wp R E
      rw [M.wp_bind]
      refine M.wp_mono (fun d hd => ?_) (fun _ _ h => h) _ h2
      rw [M.wp_bind]
      exact ih _ fun ds hl hG => k (d :: ds) (by simp [hl]) fun z hz => by
        rcases List.mem_cons.mp hz with rfl | hz
        · exact hd
        · exact hG z hz
  exact key _ R fun ds hl hG => k ds (by rw [hl, List.length_range]) hG
/-- what is drawn from a list of data -/
theorem pick_drawn {ds : List D} {i : Int} (h0 : 0 ≤ i) (h1 : i < (ds.length : Nat)) : ∃ d ∈ ds, fIx (.lst ds) (.int i) = some d := by
  obtain ⟨k, hk, rfl⟩ := int_lt h0 h1
  exact ⟨ds[k], List.getElem_mem hk, at_nat' (List.getElem?_eq_getElem hk)⟩
end Mi

/-! Mi: instances of one's own that change: methods that change them, expressions with such calls -/
namespace Mi
open PySem L2 Cc
/-- .. with what the slots hold then -/
abbrev XM := Env → M (Env × D)
def xOf (m : Env → M D) : XM := fun ρ => (m ρ).bind fun d => .ret (ρ, d)
def xOfB (m : Env → M D) : XM := fun ρ => (m (vB ρ)).bind fun d => if ok1 d then .ret (ρ, d) else .bad
def mCallJ (i k : Nat) (ns : List Str) (F : List D → List D → M (D × List D)) (t : Env → M (List D)) : XM := fun ρ => match ρ[i]? with
  | some (.slf k' C ns' es) => if k' = k ∧ ns' = ns then (t ρ).bind fun ds => (F es ds).bind fun r => .ret (ρ.set i (.slf k' C ns' r.2), r.1) else .bad
  | _ => .bad
def xNil : Env → M (Env × List D) := fun ρ => .ret (ρ, [])
def xCons (a : XM) (b : Env → M (Env × List D)) : Env → M (Env × List D) := fun ρ => (a ρ).bind fun r => (b r.1).bind fun q => .ret (q.1, r.2 :: q.2)
def xTup (t : Env → M (Env × List D)) : XM := fun ρ => (t ρ).bind fun r => if r.2.length ≤ 100000 then .ret (r.1, .ptup r.2) else .bad
def xOp (f : D → D → Option D) (a b : XM) : XM := fun ρ => (a ρ).bind fun r => (b r.1).bind fun q => (M.ofO (f r.2 q.2)).bind fun z => .ret (q.1, z)
def xMt (f : D → List D → Option D) (a : XM) (t : Env → M (Env × List D)) : XM := fun ρ => (a ρ).bind fun r => match r.2 with
  | .str x => (t r.1).bind fun q => (M.ofO (f (.str x) q.2)).bind fun z => .ret (q.1, z)
  | _ => .bad
def lcGoX (p : Pat) (e : XM) (vs : List Nat) : List D → Env → M (Env × List D)
  | [], ρ => .ret (ρ, [])
  | d :: ds, ρ => match p d ρ with
    | none => .bad
    | some ρ1 => (e ρ1).bind fun r => (lcGoX p e vs ds (wipeE r.1 vs)).bind fun q => .ret (q.1, r.2 :: q.2)
def xLc (mi : Env → M (List D)) (p : Pat) (e : XM) (vs : List Nat) : Env → M (Env × List D) := fun ρ => (mi ρ).bind fun ds => if ds.length ≤ 100000 then lcGoX p e vs ds (wipeE ρ vs) else .bad
def xNew (t : Env → M (Env × List D)) : XM := fun ρ => (t ρ).bind fun r => .ret (r.1, .lst r.2)
def sExprX (m : XM) : Env → M Fl := fun ρ => (m ρ).bind fun r => .ret (.nx r.1)
def sAsgX (i : Nat) (m : XM) : Env → M Fl := fun ρ => (m ρ).bind fun r => .ret (.nx (r.1.set i (.dat r.2)))
def sAppX (i : Nat) (m : XM) : Env → M Fl := fun ρ => match ρ[i]? with
  | some (.own _) => (m ρ).bind fun r => match r.1[i]? with
    | some (.own ds) => if ds.length < 100000 then .ret (.nx (r.1.set i (.own (ds ++ [r.2])))) else .bad
    | _ => .bad
  | _ => .bad
/-- hands back, the instance at slot 0 goes on -/
def sRetJ (m : Env → M D) : Env → M Fl := fun ρ => (m (vB ρ)).bind fun d => match ρ[(0 : Nat)]? with
  | some (.slf k _ ns es) => if ok1 d then .ret (.rs d k ns es) else .bad
  | _ => .bad
def sRetX (m : XM) : Env → M Fl := fun ρ => (m ρ).bind fun r => match r.1[(0 : Nat)]? with
  | some (.slf k _ ns es) => .ret (.rs r.2 k ns es)
  | _ => .bad
/-- i = C(..), an instance that will change -/
def sMkJ (i k : Nat) (F : List D → M D) (t : Env → M (List D)) : Env → M Fl := fun ρ => (t ρ).bind fun ds => (F ds).bind fun d => match d with
  | .ob C ns es => .ret (.nx (ρ.set i (.slf k C ns es)))
  | _ => .bad
/-- self.f = e, a new field, whatever e is -/
def sFldA (k i : Nat) (p : List Str → Bool) (f : Str) (m : Env → M D) : Env → M Fl := fun ρ => match ρ[i]? with
  | some (.slf k' C ns ds) => (m ρ).bind fun d => if decide (k' = k) && !ns.contains f && decide (ns.length < 100) && p (ns ++ [f]) then .ret (.nx (ρ.set i (.slf k' C (ns ++ [f]) (ds ++ [d])))) else .bad
  | _ => .bad
def setF : List Str → List D → Str → D → List D
  | n :: ns, d :: ds, f, e => if n = f then e :: ds else d :: setF ns ds f e
  | _, ds, _, _ => ds
/-- self.f += e -/
def sFldAugJ (k i : Nat) (f : Str) (m : Env → M D) : Env → M Fl := fun ρ => match ρ[i]? with
  | some (.slf k' C ns ds) => if k' = k ∧ ns.length < 100 then (match fAt ns ds f with
    | some (.int a) => (m (vB ρ)).bind fun d => match d with
      | .int b => .ret (.nx (ρ.set i (.slf k' C ns (setF ns ds f (.int (a + b))))))
      | _ => .bad
    | _ => .bad) else .bad
  | _ => .bad
/-- self.f = e, a field that stands -/
def sFldU (k i : Nat) (f : Str) (m : Env → M D) : Env → M Fl := fun ρ => match ρ[i]? with
  | some (.slf k' C ns ds) => if k' = k ∧ ns.length < 100 ∧ ns.contains f = true then (m (vB ρ)).bind fun d => if ok1 d then .ret (.nx (ρ.set i (.slf k' C ns (setF ns ds f d)))) else .bad else .bad
  | _ => .bad
section
variable {K : Fg} {W : Wd K} {E : XK}
section
variable {Y : Addr → Bool} {B : Bases} {σ : L2.St} {H H' : Hp} {ρ : Env} {L : List (Nat × Addr)}
theorem SR.stJ (s : SR W Y B σ H ρ L) {i : Nat} {x : Addr} (hx : (i, x) ∈ L) (st : St (also W.X x) H H') : St (YL Y L) H H' := fun a o ho hy => st a o ho (by
  have h1 : W.X a = false := s.okL.x hy
  have h2 : a ≠ x := by
    rintro rfl
    rw [YL_l hx] at hy; cases hy
  simp [also, h1, h2])
theorem SR.bokJ (s : SR W Y B σ H ρ L) {i : Nat} {x : Addr} (hx : (i, x) ∈ L) (hI : W.I H') (st : St (also W.X x) H H') : Bok W B H' := ⟨hI, fun k hk b o hb hz => by
  have h1 := (s.bs k hk).2 b o hb hz
  have hbX : W.X b = false := by
    cases z : W.X b with
    | false => rfl
    | true => rw [(s.bs k hk).1 b z] at hz; cases hz
  have hbx : b ≠ x := by
    rintro rfl
    rcases (s.fre _ hx).1 k hk with h | h
    · rw [h] at hb; cases hb
    · rw [h] at hz; cases hz
  exact st b o h1 (by simp [also, hbX, hbx])⟩
/-- the instance of slot i was changed by others -/
theorem SR.callJ (s : SR W Y B σ H ρ L) {i k : Nat} {x C dx' : Addr} {ns : List Str} {es' : List D} {fs' : List (Str × V)} (hx : (i, x) ∈ L) (hσ : σ[i]? = some (some (.ref x))) (hS : ∀ y, B.s = some y → i = 0 → x = y) (hI : W.I H') (st : St (also W.X x) H H') (h' : H' x = some (.ins C dx' fs')) (hn : fs'.map (·.1) = ns) (hC : C = W.cls k ∧ (ns ≠ [] → W.ct ns = some C)) (hd : Dms W (YL Y L) H' (fs'.map (·.2)) es') : SR W Y B σ H' (ρ.set i (.slf k C ns es')) L := by
  have stY := s.stJ hx st
  have mo : Same (mask W (YL Y L) H) (mask W (YL Y L) H') := mask_go stY fun a h => .inl h
  have keep : ∀ {l o}, (∃ j, (j, l) ∈ L) → l ≠ x → H l = some o → H' l = some o := fun {l o} ⟨j, hj⟩ ne hl => st _ _ hl (by
    have := s.lx hj
    simp only [] at this
    simp [also, ne, this])
  refine ⟨⟨hI, s.ok.2.1, fun a ha => ?_⟩, fun k hk => ⟨(s.bs k hk).1, (s.bokJ hx hI st).2 k hk⟩, by simp [s.len], fun p hp => ?_, s.nd, fun j t' ht' => ?_⟩
  · obtain ⟨o, ho, hc⟩ := s.ok.2.2 a ha
    cases z : W.X a with
    | true => exact W.cell hI z
    | false =>
      by_cases e : a = x
      · subst e; exact ⟨_, h', rfl⟩
      · exact ⟨o, st a o ho (by simp [also, e, z]), hc⟩
  · obtain ⟨h1, h2, h3, o, ho, hc⟩ := s.fre p hp
    refine ⟨h1, h2, h3, ?_⟩
    by_cases e : p.2 = x
    · rw [e]; exact ⟨_, h', rfl⟩
    · exact ⟨o, keep ⟨p.1, hp⟩ e ho, hc⟩
  · rcases getElem?_set' ht' with ⟨rfl, _, rfl⟩ | ⟨hne, h⟩
    · exact ⟨x, dx', fs', hσ, hS, hx, h', hn, hC, hd⟩
    · have q := s.sl j t' h
      have ne : ∀ {l'}, (j, l') ∈ L → l' ≠ x := fun {l'} h2 => by
        rintro rfl
        have := nd_inj s.nd h2 hx rfl
        cases this
        exact hne rfl
      cases t' with
      | no => trivial
      | dat d' => obtain ⟨w, h1, h2⟩ := q; exact ⟨w, h1, Dn.up h2 mo⟩
      | own ds' =>
        obtain ⟨l', zs, h1, h2, h3, h4⟩ := q
        exact ⟨l', zs, h1, h2, keep ⟨_, h2⟩ (ne h2) h3, Dns.up h4 mo⟩
      | dkR _ => exact q.elim
      | dk ds' =>
        obtain ⟨l', zs, h1, h2, h3, h4⟩ := q
        exact ⟨l', zs, h1, h2, keep ⟨_, h2⟩ (ne h2) h3, Dns.up h4 mo⟩
      | slf k C ns ds =>
        obtain ⟨x2, dx, fs, h1, hS2, h2, h3, h4, h5, h6⟩ := q
        exact ⟨x2, dx, fs, h1, hS2, h2, keep ⟨_, h2⟩ (ne h2) h3, h4, h5, Dns.up h6 mo⟩
      | row => exact q
/-- a new instance in a slot -/
theorem SR.ownS (s : SR W Y B σ H ρ L) (i : Nat) {k : Nat} {x C dx : Addr} {ns : List Str} {fs : List (Str × V)} {es : List D} (e : Ext W H H') (hp : H x = none) (hx : H' x = some (.ins C dx fs)) (hn : fs.map (·.1) = ns) (hC : C = W.cls k ∧ (ns ≠ [] → W.ct ns = some C)) (hd : Dms W (also (YL Y L) x) H' (fs.map (·.2)) es) (hi : i ≠ 0) : SR W Y B (σ.set i (some (.ref x))) H' (ρ.set i (.slf k C ns es)) ((i, x) :: L) where
  ok := s.ok.ext e
  bs := fun k hk => ⟨(s.bs k hk).1, (s.bs k hk).2.trans (.ext e (s.bs k hk).1)⟩
  len := by simp [s.len]
  fre := fun q hq => by
    rcases List.mem_cons.mp hq with rfl | hq
    · refine ⟨fun k hk => ?_, W.new s.ok.1 hp, s.ok.fresh hp, _, hx, rfl⟩
      cases z : k.2 x with
      | true => exact .inr rfl
      | false =>
        refine .inl ?_
        cases y : k.1 x with
        | none => rfl
        | some o => rw [(s.bs k hk).2 x o y z] at hp; cases hp
    · obtain ⟨h1, h2, h3, ys, hy, ho⟩ := s.fre q hq
      exact ⟨h1, h2, h3, ys, e.1 _ _ hy (s.lx hq), ho⟩
  nd := by
    rw [List.map_cons, List.nodup_cons]
    refine ⟨fun z => ?_, s.nd⟩
    obtain ⟨q, hq, e⟩ := List.mem_map.mp z
    obtain ⟨_, _, _, ys, hy, _⟩ := s.fre q hq
    rw [show q.2 = x from e, hp] at hy
    cases hy
  sl := fun j t ht => by
    rw [YL_also]
    have hs : Same (mask W (YL Y L) H) (mask W (also (YL Y L) x) H') := mask_go (.ext e s.okL.2.1) fun a ha => by
      by_cases ea : a = x
      · subst ea; exact .inr hp
      · exact .inl (by simpa [also, ea] using ha)
    rcases getElem?_set' ht with ⟨rfl, hl, rfl⟩ | ⟨hne, h⟩
    · exact ⟨x, dx, fs, by simp [s.len, hl], fun _ _ z => absurd z hi, by simp, hx, hn, hC, hd⟩
    · have q := s.sl j t h
      have e' : (σ.set i (some (.ref x)))[j]? = σ[j]? := by simp [List.getElem?_set, hne]
      cases t with
      | no => trivial
      | dat d' => obtain ⟨w, h1, h2⟩ := q; exact ⟨w, by rw [e']; exact h1, Dn.up h2 hs⟩
      | own ds => obtain ⟨l, ys, h1, h2, h3, h4⟩ := q; exact ⟨l, ys, by rw [e']; exact h1, List.mem_cons_of_mem _ h2, e.1 _ _ h3 (s.lx h2), Dns.up h4 hs⟩
      | dkR _ => exact q.elim
      | dk ds => obtain ⟨l, ys, h1, h2, h3, h4⟩ := q; exact ⟨l, ys, by rw [e']; exact h1, List.mem_cons_of_mem _ h2, e.1 _ _ h3 (s.lx h2), Dns.up h4 hs⟩
      | slf k C ns ds => obtain ⟨x2, dx, fs, h1, hS, h2, h3, h4, h5, h6⟩ := q; exact ⟨x2, dx, fs, by rw [e']; exact h1, hS, List.mem_cons_of_mem _ h2, e.1 _ _ h3 (s.lx h2), h4, h5, Dns.up h6 hs⟩
      | row => exact e'.trans q
theorem SR.slfAt (s : SR W Y B σ H ρ L) {i k : Nat} {C : Addr} {ns : List Str} {ds : List D} (h : ρ[i]? = some (.slf k C ns ds)) : ∃ x dx fs, σ[i]? = some (some (.ref x)) ∧ (∀ y, B.s = some y → i = 0 → x = y) ∧ (i, x) ∈ L ∧ H x = some (.ins C dx fs) ∧ fs.map (·.1) = ns ∧ (C = W.cls k ∧ (ns ≠ [] → W.ct ns = some C)) ∧ Dms W (YL Y L) H (fs.map (·.2)) ds := s.sl i _ h
/-- a slot of which nothing is known any more -/
theorem SR.wip (s : SR W Y B σ H ρ L) (i : Nat) (x : Option V) : SR W Y B (σ.set i x) H (ρ.set i .no) L :=
  { s with
    len := by simp [s.len]
    sl := fun j t ht => by
      rcases getElem?_set' ht with ⟨rfl, hl, rfl⟩ | ⟨hne, h⟩
      · trivial
      · have q := s.sl j t h
        have e : (σ.set i x)[j]? = σ[j]? := by simp [List.getElem?_set, hne]
        cases t with
        | no => trivial
        | dat d' => obtain ⟨w, h1, h2⟩ := q; exact ⟨w, by rw [e]; exact h1, h2⟩
        | own ds => obtain ⟨l, xs, h1, h2⟩ := q; exact ⟨l, xs, by rw [e]; exact h1, h2⟩
        | dkR _ => exact q.elim
        | dk ds => obtain ⟨l, xs, h1, h2⟩ := q; exact ⟨l, xs, by rw [e]; exact h1, h2⟩
        | slf k C ns ds => obtain ⟨x, dx, fs, h1, h2⟩ := q; exact ⟨x, dx, fs, by rw [e]; exact h1, h2⟩
        | row => exact e.trans q }
theorem SR.wipes (s : SR W Y B σ H ρ L) : ∀ vs : List Nat, SR W Y B (wipe σ vs) H (wipeE ρ vs) L
  | [] => s
  | i :: vs => (SR.wipes s vs).wip i none
/-- .. whatever stands in the slots that nothing is known of -/
theorem SR.unwip {σ2 : L2.St} (s : SR W Y B σ H ρ L) (hl : σ2.length = σ.length) (h : ∀ j : Nat, ρ[j]? = some Sl.no ∨ σ2[j]? = σ[j]?) : SR W Y B σ2 H ρ L :=
  { s with
    len := by rw [hl, s.len]
    sl := fun j t ht => by
      have q := s.sl j t ht
      rcases h j with e | e
      · rw [e] at ht; cases ht; trivial
      · cases t with
        | no => trivial
        | dat d' => obtain ⟨w, h1, h2⟩ := q; exact ⟨w, by rw [e]; exact h1, h2⟩
        | own ds => obtain ⟨l, xs, h1, h2⟩ := q; exact ⟨l, xs, by rw [e]; exact h1, h2⟩
        | dkR _ => exact q.elim
        | dk ds => obtain ⟨l, xs, h1, h2⟩ := q; exact ⟨l, xs, by rw [e]; exact h1, h2⟩
        | slf k C ns ds => obtain ⟨x, dx, fs, h1, h2⟩ := q; exact ⟨x, dx, fs, by rw [e]; exact h1, h2⟩
        | row => exact e.trans q }
end
/-! ### expressions -/
def RetX (W : Wd K) (Y : Addr → Bool) (B : Bases) (σ : L2.St) (H : Hp) (L : List (Nat × Addr)) (Q : VK) : Env × D → Prop := fun r => ∀ v H', St (YL Y L) H H' → SR W Y B σ H' r.1 L → Dm W (YL Y L) H' v r.2 → Q v H'
def RetXA (W : Wd K) (Y : Addr → Bool) (B : Bases) (σ : L2.St) (H : Hp) (L : List (Nat × Addr)) (Q : List V → Hp → Prop) : Env × List D → Prop := fun r => ∀ vs H', St (YL Y L) H H' → SR W Y B σ H' r.1 L → Dms W (YL Y L) H' vs r.2 → Q vs H'
def RetXN (W : Wd K) (Y : Addr → Bool) (B : Bases) (σ : L2.St) (H : Hp) (L : List (Nat × Addr)) (Q : VK) : Env × List D → Prop := fun r => ∀ p xs H', St (YL Y L) H H' → H p = none → H' p = some (.lst xs) → SR W Y B σ H' r.1 L → Dms W (also (YL Y L) p) H' xs r.2 → Q (.ref p) H'
def JX (W : Wd K) (E : XK) (te : TE) (m : XM) : Prop := ∀ Y B σ H ρ L Q, SR W Y B σ H ρ L → (m ρ).wp (RetX W Y B σ H L Q) (ErrB W E B) → te σ H Q
def JXA (W : Wd K) (E : XK) (ta : TA) (m : Env → M (Env × List D)) : Prop := ∀ Y B σ H ρ L Q, SR W Y B σ H ρ L → (m ρ).wp (RetXA W Y B σ H L Q) (ErrB W E B) → ta σ H Q
def JXN (W : Wd K) (E : XK) (te : TE) (m : Env → M (Env × List D)) : Prop := ∀ Y B σ H ρ L Q, SR W Y B σ H ρ L → (m ρ).wp (RetXN W Y B σ H L Q) (ErrB W E B) → te σ H Q
section
variable {te tb : TE} {ta : TA} {a b m : XM} {t : Env → M (Env × List D)} {Y : Addr → Bool} {B : Bases} {σ : L2.St} {H H1 H2 : Hp} {ρ : Env} {L : List (Nat × Addr)}
theorem St.tr {Y : Addr → Bool} {H H1 H2 : Hp} (a : St Y H H1) (b : St Y H1 H2) : St Y H H2 := fun c o h hy => b c o (a c o h hy) hy
theorem Dm.st {v : V} {d : D} (h : Dm W (YL Y L) H v d) (st : St (YL Y L) H H1) : Dm W (YL Y L) H1 v d := Dn.up h (mask_go st fun _ h => .inl h)
theorem Dms.st {v : List V} {d : List D} (h : Dms W (YL Y L) H v d) (st : St (YL Y L) H H1) : Dms W (YL Y L) H1 v d := Dns.up h (mask_go st fun _ h => .inl h)
theorem JX.seq {α : Type} {f : Env × D → M α} {R : α → Prop} {Q : VK} (h : JX W E te m) (s : SR W Y B σ H ρ L) (w : ((m ρ).bind f).wp R (ErrB W E B))
    (k : ∀ r v H1, St (YL Y L) H H1 → SR W Y B σ H1 r.1 L → Dm W (YL Y L) H1 v r.2 → (f r).wp R (ErrB W E B) → Q v H1) : te σ H Q :=
  h Y B σ H ρ L Q s (M.wp_mono (fun r hr v H1 st s1 hv => k r v H1 st s1 hv hr) (fun _ _ h => h) _ ((M.wp_bind _).mp w))
theorem JXA.seq {α : Type} {f : Env × List D → M α} {R : α → Prop} {Q : List V → Hp → Prop} (h : JXA W E ta t) (s : SR W Y B σ H ρ L) (w : ((t ρ).bind f).wp R (ErrB W E B))
    (k : ∀ r v H1, St (YL Y L) H H1 → SR W Y B σ H1 r.1 L → Dms W (YL Y L) H1 v r.2 → (f r).wp R (ErrB W E B) → Q v H1) : ta σ H Q :=
  h Y B σ H ρ L Q s (M.wp_mono (fun r hr v H1 st s1 hv => k r v H1 st s1 hv hr) (fun _ _ h => h) _ ((M.wp_bind _).mp w))
end
section
variable {te tb : TE} {ta : TA} {a b m : XM} {t : Env → M (Env × List D)} {e : Env → M D} {g : Env → M (List D)}
theorem gx_ge (h : GE W E te e) : JX W E te (xOf e) := fun Y B σ H ρ L Q s w =>
  h.seq s.okL s.envA w (fun _ _ h => h.at' s) fun d v H1 e1 o1 r1 hv w1 => w1 v H1 (.ext e1 s.okL.2.1) (s.up e1) hv
theorem gx_geB (h : GE W E te e) : JX W E te (xOfB e) := fun Y B σ H ρ L Q s w =>
  h.seq s.ok s.envB w (fun _ _ h => h.at' s) fun d v H1 e1 o1 r1 hv w1 => by
    split at w1
    · rename_i k; exact w1 v H1 (.ext e1 s.okL.2.1) (s.up e1) (ok1_see (s.up e1) hv k)
    · exact w1.elim
theorem gxa_nil : JXA W E tNil xNil := fun Y B σ H ρ L Q s w => w [] H (fun _ _ h _ => h) s .nil
theorem gxa_cons (ha : JX W E te a) (ht : JXA W E ta t) : JXA W E (tCons te ta) (xCons a t) := fun Y B σ H ρ L Q s w =>
  ha.seq s w fun r v H1 st1 s1 hv w1 => ht.seq s1 w1 fun q vs H2 st2 s2 hvs w2 => w2 _ H2 (st1.tr st2) s2 (.cons (hv.st st2) hvs)
theorem gx_tup (ht : JXA W E ta t) : JX W E (tTupP ta) (xTup t) := fun Y B σ H ρ L Q s w =>
  ht.seq s w fun r vs H1 st1 s1 hv w1 => by
    split at w1
    · rename_i hl
      refine ⟨by rw [hv.length, sizeLine_eq]; omega, fun p ob hp ho => ?_⟩
      exact w1 _ _ (st1.tr (.ext (.of s1.ok.1 (Same.new hp)) s1.okL.2.1)) (s1.up (.of s1.ok.1 (Same.new hp))) (.ptup ⟨ob, ho, mask_at upd_same (s1.okL.fresh hp) fun _ _ _ z => nomatch z⟩ (hv.up s1.okL (.of s1.ok.1 (Same.new hp))))
    · exact w1.elim
theorem gx_op {r : R2} {f : D → D → Option D} (ha : JX W E te a) (hb : JX W E tb b) (hr : R2M W r f) : JX W E (tOp r te tb) (xOp f a b) := fun Y B σ H ρ L Q s w =>
  ha.seq s w fun p x H1 st1 s1 hx w1 => hb.seq s1 w1 fun q y H2 st2 s2 hy w2 => by
    obtain ⟨z, hz, w3⟩ := M.wp_ofO ((M.wp_bind _).mp w2)
    exact hr _ H2 x y _ _ z Q s2.okL (hx.st st2) hy hz fun v H3 e3 hv => w3 v H3 ((st1.tr st2).tr (.ext e3 s2.okL.2.1)) (s2.up e3) hv
theorem gx_mtS {r : V → List V → Hp → VK → Prop} {f : D → List D → Option D} (ha : JX W E te a) (ht : JXA W E ta t) (hr : RMM W r f) : JX W E (tBM K "str" r te ta) (xMt f a t) := fun Y B σ H ρ L Q s w =>
  ha.seq s w fun p x H1 st1 s1 hx w1 => by
    obtain ⟨ρ1, d⟩ := p
    cases hx with
    | str z => exact ⟨rfl, ht.seq s1 w1 fun q vs H2 st2 s2 hv w2 => by
        obtain ⟨y, hy, w3⟩ := M.wp_ofO ((M.wp_bind _).mp w2)
        exact hr _ H2 _ vs _ _ y Q s2.okL (.str z) hv hy fun v H3 e3 hv => w3 v H3 ((st1.tr st2).tr (.ext e3 s2.okL.2.1)) (s2.up e3) hv⟩
    | _ => exact w1.elim
theorem JXN.gx (h : JXN W E te t) : JX W E te (xNew t) := fun Y B σ H ρ L Q s w =>
  h Y B σ H ρ L Q s (M.wp_mono (fun r hr p xs H' st hp hx s' hds => hr (.ref p) H' st s' (.lst (mask_at hx (by
    cases z : YL Y L p with
    | false => rfl
    | true =>
      obtain ⟨o, ho, _⟩ := s.okL.2.2 p z
      rw [hp] at ho; cases ho) fun _ _ _ z => nomatch z) (hds.less also_r))) (fun _ _ h => h) _ ((M.wp_bind _).mp w))
/-! calls -/
def spJ (W : Wd K) (k : Nat) (ns : List Str) (F : List D → List D → M (D × List D)) : Sp := fun vs H Q E => ∃ (Y : Addr → Bool) (x dx : Addr) (fs : List (Str × V)) (avs : List V) (es ds : List D), vs = .ref x :: avs ∧ H x = some (.ins (W.cls k) dx fs) ∧ fs.map (·.1) = ns ∧ (ns ≠ [] → W.ct ns = some (W.cls k)) ∧ Ok W Y H ∧ Y x = true ∧ W.X x = false ∧ W.Fr x ∧ Dms W Y H (fs.map (·.2)) es ∧ Dms W Y H avs ds ∧
  (F es ds).wp (fun r => ∀ v H' dx' fs', W.I H' → St (also W.X x) H H' → H' x = some (.ins (W.cls k) dx' fs') → fs'.map (·.1) = ns → Dms W Y H' (fs'.map (·.2)) r.2 → Dm W Y H' v r.1 → Q v H') (fun c p => ∀ cls o H', W.I H' → St (also W.X x) H H' → IsE W c p cls o H' → E cls o H')
theorem spJ_of {k i : Nat} {ns : List Str} {F : List D → List D → M (D × List D)} {Y : Addr → Bool} {B : Bases} {σ : L2.St} {H0 H : Hp} {ρ : Env} {L : List (Nat × Addr)} {Q : VK} {es ds : List D} {vs : List V} {C : Addr} (s : SR W Y B σ H ρ L) (st0 : St (YL Y L) H0 H) (hi : ρ[i]? = some (.slf k C ns es)) {x : Addr} (hσ : σ[i]? = some (some (.ref x))) (hv : Dms W (YL Y L) H vs ds)
    (w : ((F es ds).bind fun r => .ret (ρ.set i (.slf k C ns r.2), r.1) : M (Env × D)).wp (RetX W Y B σ H0 L Q) (ErrB W E B)) : spJ W k ns F (.ref x :: vs) H Q E := by
  obtain ⟨x', dx, fs, g1, gS, g2, g3, g4, g5, g6⟩ := s.slfAt hi
  rw [hσ] at g1
  cases g1
  have eC := g5.1
  subst eC
  exact ⟨YL Y L, x, dx, fs, vs, es, ds, rfl, g3, g4, g5.2, s.okL, YL_l g2, s.lx g2, (s.fre _ g2).2.1, g6, hv, M.wp_mono (fun r hr v H' dx2 fs2 hI st h' hn hd hv' => hr v H' (st0.tr (s.stJ g2 st)) (s.callJ g2 hσ gS hI st h' hn g5 hd) hv') (fun c p he cls o H' hI st hE => he cls o H' (s.bokJ g2 hI st) hE) _ ((M.wp_bind _).mp w)⟩
theorem gx_methJ {i k : Nat} {C0 : Addr} {ns : List Str} {f : Str} {F : List D → List D → M (D × List D)} (hC : W.cls k = C0) (ht : GA W E ta g) (hf : ns.contains f = false := by decide) : JX W E (tMeth C0 f (spJ W k ns F) [] E (tVar i) ta) (mCallJ i k ns F g) := fun Y B σ H ρ L Q s w => by
  subst hC
  unfold mCallJ at w
  split at w
  case h_2 => exact w.elim
  rename_i k' C ns' es hi
  split at w
  case isFalse => exact w.elim
  rename_i hk
  obtain ⟨rfl, rfl⟩ := hk
  obtain ⟨x, dx, fs, g1, gS, g2, g3, g4, g5, g6⟩ := s.slfAt hi
  refine ⟨.ref x, g1, x, dx, fs, rfl, by rw [g3, g5.1], lookup_no (by rw [g4, hf]; rfl), ht.seq s.okL s.envA w (fun _ _ h => h.at' s) fun ds vs H1 e1 o1 r1 hv w1 => ?_⟩
  rw [List.append_nil]
  exact spJ_of (s.up e1) (.ext e1 s.okL.2.1) hi g1 hv w1
theorem gx_callJ {i k : Nat} {ns : List Str} {F : List D → List D → M (D × List D)} (ht : GA W E ta g) : JX W E (tCall (spJ W k ns F) [] E (tCons (tVar i) ta)) (mCallJ i k ns F g) := fun Y B σ H ρ L Q s w => by
  unfold mCallJ at w
  split at w
  case h_2 => exact w.elim
  rename_i k' C ns' es hi
  split at w
  case isFalse => exact w.elim
  rename_i hk
  obtain ⟨rfl, rfl⟩ := hk
  obtain ⟨x, dx, fs, g1, gS, g2, g3, g4, g5, g6⟩ := s.slfAt hi
  refine ⟨.ref x, g1, ht.seq s.okL s.envA w (fun _ _ h => h.at' s) fun ds vs H1 e1 o1 r1 hv w1 => ?_⟩
  show spJ W k' ns' F (.ref x :: vs ++ []) H1 Q E
  rw [List.append_nil]
  exact spJ_of (s.up e1) (.ext e1 s.okL.2.1) hi g1 hv w1
theorem gx_calSJ {i k : Nat} {ns : List Str} {F : List D → List D → M (D × List D)} {X : WX} (hX : ∀ σ, WE X σ = E) (ht : GA W E ta g) : JX W E (tCallS (spJ W k ns F) (WE X) (tCons (tVar i) ta)) (mCallJ i k ns F g) := fun Y B σ H ρ L Q s w => by
  have h := gx_callJ (W := W) (E := E) (i := i) (k := k) (ns := ns) (F := F) ht Y B σ H ρ L Q s w
  unfold tCallS
  unfold tCall at h
  simp only [hX]
  simpa using h
/-! statements -/
theorem gs_exprX (h : JX W E te m) : GS W E (tDrop te) (sExprX m) := fun Y B σ H ρ Dn ⟨L, s⟩ w => h.seq s w fun r v H1 st s1 hv w1 => w1 σ H1 ⟨L, s1⟩
theorem gs_asgX {i : Nat} (h : JX W E te m) : GS W E (tAsg te (gName i)) (sAsgX i m) := fun Y B σ H ρ Dn ⟨L, s⟩ w => h.seq s w fun r v H1 st s1 hv w1 => w1 _ H1 ⟨L, s1.set i hv⟩
theorem gs_appX {i : Nat} (h : JX W E te m) : GS W E (tDrop (tBM K "list" rAppend (tVar i) (tCons te tNil))) (sAppX i m) := fun Y B σ H ρ Dn ⟨L, s⟩ w => by
  unfold sAppX at w
  split at w
  case h_2 => exact w.elim
  rename_i ds hi
  obtain ⟨l, xs, h1, h2, h3, h4⟩ := s.ownAt hi
  refine ⟨.ref l, h1, .inl ⟨rfl, xs, SqL.of h3⟩, h.seq s w fun r v H1 st s1 hv w1 => ?_⟩
  split at w1
  case h_2 => exact w1.elim
  rename_i ds' hi'
  obtain ⟨l', xs', g1, g2, g3, g4⟩ := s1.ownAt hi'
  rw [h1] at g1
  cases g1
  split at w1
  · rename_i hz
    have hl := g4.length
    exact ⟨l, xs', v, rfl, rfl, g3, by rw [sizeLine_eq]; omega, w1 σ _ ⟨L, s1.put hi' h1 g2 g3 (g4.app (.cons hv .nil))⟩⟩
  · exact w1.elim
theorem rs_of {Y : Addr → Bool} {B : Bases} {σ : L2.St} {H : Hp} {ρ : Env} {L : List (Nat × Addr)} {Dn : Ends} {k : Nat} {C : Addr} {ns : List Str} {es : List D} {d : D} {v : V} (s : SR W Y B σ H ρ L) (h0 : ρ[(0 : Nat)]? = some (.slf k C ns es)) (hv : Dm W (YL Y L) H v d) (w : FlP W Y B Dn (.rs d k ns es)) : Dn.rt v H := by
  obtain ⟨x, dx, fs, g1, gS, g2, g3, g4, g5, g6⟩ := s.slfAt h0
  have less : ∀ a, also Y x a = true → YL Y L a = true := fun a ha => by
    by_cases ea : a = x
    · subst ea; exact YL_l g2
    · exact YL_y (by simpa [also, ea] using ha)
  exact w v H x dx fs (fun y hy => gS y hy rfl) s.bok (by rw [g3, g5.1]) g4 (Dms.less g6 less) (Dm.less hv less)
theorem gs_retJ (h : GE W E te e) : GS W E (tRet te) (sRetJ e) := fun Y B σ H ρ Dn ⟨L, s⟩ w => h.runB s w fun d v H1 s1 hv w1 => by
  split at w1
  case h_2 => exact w1.elim
  rename_i k C ns es h0
  split at w1
  · rename_i hk; exact rs_of s1 h0 (ok1_see s1 hv hk) w1
  · exact w1.elim
theorem gs_retX (h : JX W E te m) : GS W E (tRet te) (sRetX m) := fun Y B σ H ρ Dn ⟨L, s⟩ w => h.seq s w fun r v H1 st s1 hv w1 => by
  split at w1
  case h_2 => exact w1.elim
  rename_i k C ns es h0
  exact rs_of s1 h0 hv w1
theorem gs_mkJ {i k : Nat} {C : Addr} {F : List D → M D} (hC : W.cls k = C) (ht : GA W E ta g) (hi : i ≠ 0 := by decide) : GS W E (tAsg (tMake C (spI W C F) [] E ta) (gName i)) (sMkJ i k F g) := fun Y B σ H ρ Dn ⟨L, s⟩ w =>
  ht.seq s.okL s.envA w (fun _ _ h => h.at' s) fun ds vs H1 e1 o1 r1 hv w1 x dx hx hdx hne => by
    have s1 := s.up e1
    refine ⟨YL Y L, H1, x, dx, vs, ds, by rw [List.append_nil], hx, hdx, hne, rfl, o1, hv, M.wp_mono (fun d hd ns es h1 h2 H2 dx2 fs e2 h3 h4 h5 => ?_) (fun _ _ h => h.at' s1) _ ((M.wp_bind _).mp w1)⟩
    subst h1
    exact ⟨rfl, hd _ H2 ⟨_, s1.ownS i e2 hx h3 h4 ⟨hC.symm, fun _ => h2⟩ h5 hi⟩⟩
end
end
end Mi

/-! Mi: comprehensions with calls that change an instance; its fields; defs that change it -/
namespace Mi
open PySem L2 Cc
section
variable {K : Fg} {W : Wd K} {E : XK}
section
variable {Y Y' : Addr → Bool} {B : Bases} {σ : L2.St} {H H' : Hp} {ρ : Env} {L : List (Nat × Addr)}
theorem wipeE_len (ρ : Env) : ∀ vs : List Nat, (wipeE ρ vs).length = ρ.length
  | [] => rfl
  | k :: vs => by show ((wipeE ρ vs).set k .no).length = _; rw [List.length_set, wipeE_len ρ vs]
theorem wipe_no {j : Nat} : ∀ {vs : List Nat} {ρ : Env}, j ∈ vs → (wipeE ρ vs)[j]? = some Sl.no ∨ ρ.length ≤ j
  | i :: vs, ρ, h => by
    show ((wipeE ρ vs).set i .no)[j]? = some Sl.no ∨ _
    by_cases hj : j < ρ.length
    · refine .inl ?_
      by_cases e : i = j
      · subst e; rw [List.getElem?_set_self]; rw [wipeE_len]; exact hj
      · rw [List.getElem?_set_ne e]
        rcases wipe_no (ρ := ρ) (show j ∈ vs by rcases List.mem_cons.mp h with h | h; exact absurd h.symm e; exact h) with h | h
        · exact h
        · omega
    · exact .inr (by omega)
theorem wipe_off {j : Nat} : ∀ {vs : List Nat} {σ : L2.St}, j ∉ vs → (wipe σ vs)[j]? = σ[j]?
  | [], _, _ => rfl
  | i :: vs, σ, h => by
    have h' : j ≠ i ∧ j ∉ vs := by simpa using h
    show ((wipe σ vs).set i none)[j]? = _
    rw [List.getElem?_set_ne (Ne.symm h'.1), wipe_off h'.2]
theorem YL_alsoY {p : Addr} : YL (also Y p) L = also (YL Y L) p := by
  funext a
  simp [YL, also, Bool.or_assoc]
/-- with a new list that no slot holds -/
theorem SR.alsoNew (s : SR W Y B σ H ρ L) {p : Addr} (hp : H p = none) : SR W (also Y p) B σ (upd H p (.lst [])) ρ L where
  ok := s.ok.also hp
  bs := fun k hk => ⟨(s.bs k hk).1, fun b o hb hz => Same.new hp b o ((s.bs k hk).2 b o hb hz)⟩
  len := s.len
  fre := fun q hq => by
    obtain ⟨h1, h2, h3, o, ho, hc⟩ := s.fre q hq
    have ne : q.2 ≠ p := ne_of_none ho hp
    exact ⟨h1, h2, by simp [also, ne, h3], o, Same.new hp _ _ ho, hc⟩
  nd := s.nd
  sl := fun j t ht => by
    have hs : Same (mask W (YL Y L) H) (mask W (YL (also Y p) L) (upd H p (.lst []))) := mask_go (fun a o h _ => Same.new hp a o h) fun a ha => by
      rw [YL_alsoY] at ha
      by_cases ea : a = p
      · subst ea; exact .inr hp
      · exact .inl (by simpa [also, ea] using ha)
    have q := s.sl j t ht
    cases t with
    | no => trivial
    | dat d' => obtain ⟨w, h1, h2⟩ := q; exact ⟨w, h1, Dn.up h2 hs⟩
    | own ds => obtain ⟨l, ys, h1, h2, h3, h4⟩ := q; exact ⟨l, ys, h1, h2, Same.new hp _ _ h3, Dns.up h4 hs⟩
    | dkR _ => exact q.elim
    | dk ds => obtain ⟨l, ys, h1, h2, h3, h4⟩ := q; exact ⟨l, ys, h1, h2, Same.new hp _ _ h3, Dns.up h4 hs⟩
    | slf k C ns ds => obtain ⟨x2, dx, fs, h1, hS2, h2, h3, h4, h5, h6⟩ := q; exact ⟨x2, dx, fs, h1, hS2, h2, Same.new hp _ _ h3, h4, h5, Dns.up h6 hs⟩
    | row => exact q
theorem SR.sub (s : SR W Y' B σ H ρ L) (hs : ∀ a, Y a = true → Y' a = true) (hX : ∀ a, W.X a = true → Y a = true) : SR W Y B σ H ρ L where
  ok := ⟨s.ok.1, hX, fun a ha => s.ok.2.2 a (hs a ha)⟩
  bs := s.bs
  len := s.len
  fre := fun q hq => by
    obtain ⟨h1, h2, h3, h4⟩ := s.fre q hq
    refine ⟨h1, h2, ?_, h4⟩
    cases z : Y q.2 with
    | false => rfl
    | true => rw [hs _ z] at h3; cases h3
  nd := s.nd
  sl := fun j t ht => by
    have less : ∀ a, YL Y L a = true → YL Y' L a = true := fun a ha => by
      rcases YL_or ha with h | ⟨p, hp, rfl⟩
      · exact YL_y (hs a h)
      · exact YL_l hp
    have q := s.sl j t ht
    cases t with
    | no => trivial
    | dat d' => obtain ⟨w, h1, h2⟩ := q; exact ⟨w, h1, h2.less less⟩
    | own ds => obtain ⟨l, ys, h1, h2, h3, h4⟩ := q; exact ⟨l, ys, h1, h2, h3, h4.less less⟩
    | dkR _ => exact q.elim
    | dk ds => obtain ⟨l, ys, h1, h2, h3, h4⟩ := q; exact ⟨l, ys, h1, h2, h3, h4.less less⟩
    | slf k C ns ds => obtain ⟨x2, dx, fs, h1, hS2, h2, h3, h4, h5, h6⟩ := q; exact ⟨x2, dx, fs, h1, hS2, h2, h3, h4, h5, h6.less less⟩
    | row => exact q
theorem SR.baseZ (s : SR W Y B σ H ρ L) {Z : Addr → Bool} (hX : ∀ a, W.X a = true → Z a = true) (hL : ∀ p ∈ L, Z p.2 = true) : SR W Y ⟨(H, Z) :: B.l, B.s⟩ σ H ρ L :=
  { s with
    bs := fun k hk => by
      rcases List.mem_cons.mp hk with rfl | hk
      · exact ⟨hX, fun _ _ e _ => e⟩
      · exact s.bs k hk
    fre := fun p hp => by
      obtain ⟨h1, h2⟩ := s.fre p hp
      refine ⟨fun k hk => ?_, h2⟩
      rcases List.mem_cons.mp hk with rfl | hk
      · exact .inr (hL p hp)
      · exact h1 k hk }
/-- a list that no slot holds is changed -/
theorem SR.putOut (s : SR W Y B σ H ρ L) {l : Addr} {o u : HO} (hl : Y l = true) (hx : H l = some o) (ho : cellO o = true) (hu : cellO u = true) (hf : W.Fr l) (hb : ∀ k ∈ B.l, k.1 l = none ∨ k.2 l = true) : SR W Y B σ (upd H l u) ρ L := by
  have mo : mask W (YL Y L) (upd H l u) = mask W (YL Y L) H := mask_off (YL_y hl)
  have ne : ∀ {p : Nat × Addr}, p ∈ L → p.2 ≠ l := fun {p} hp e => by
    have := (s.fre p hp).2.2.1
    rw [e, hl] at this; cases this
  refine ⟨⟨W.off s.ok.1 hf hx ho, s.ok.2.1, fun a ha => ?_⟩, fun k hk => ⟨(s.bs k hk).1, fun b q hq z => ?_⟩, s.len, fun p hp => ?_, s.nd, fun j t ht => ?_⟩
  · by_cases e : a = l
    · subst e; exact ⟨_, upd_same, hu⟩
    · rw [upd_ne e]; exact s.ok.2.2 a ha
  · have : b ≠ l := by
      rintro rfl
      rcases hb k hk with h | h
      · rw [h] at hq; cases hq
      · rw [h] at z; cases z
    rw [upd_ne this]; exact (s.bs k hk).2 b q hq z
  · obtain ⟨h1, h2, h3, zs, hz, hc⟩ := s.fre p hp
    exact ⟨h1, h2, h3, zs, by rw [upd_ne (ne hp)]; exact hz, hc⟩
  · have q := s.sl j t ht
    cases t with
    | no => trivial
    | dat d' => obtain ⟨w, h1, h2⟩ := q; exact ⟨w, h1, by unfold Dm; rw [mo]; exact h2⟩
    | own ds => obtain ⟨l', ys, h1, h2, h3, h4⟩ := q; exact ⟨l', ys, h1, h2, by rw [upd_ne (ne h2)]; exact h3, by unfold Dms; rw [mo]; exact h4⟩
    | dkR _ => exact q.elim
    | dk ds => obtain ⟨l', ys, h1, h2, h3, h4⟩ := q; exact ⟨l', ys, h1, h2, by rw [upd_ne (ne h2)]; exact h3, by unfold Dms; rw [mo]; exact h4⟩
    | slf k C ns ds => obtain ⟨x2, dx, fs, h1, hS2, h2, h3, h4, h5, h6⟩ := q; exact ⟨x2, dx, fs, h1, hS2, h2, by rw [upd_ne (ne h2)]; exact h3, h4, h5, by unfold Dms; rw [mo]; exact h6⟩
    | row => exact q
end
theorem jxn_lc {wi : TI} {g : TG} {te : TE} {vs is : List Nat} {mi : Env → M (List D)} {p : Pat} {e : XM} (hi : GI W E wi mi) (hp : GP K g p is) (he : JX W E te e) (hv : ∀ i ∈ is, i ∈ vs := by decide) : JXN W E (tLc wi g tYes te vs) (xLc mi p e vs) := fun Y B σ H ρ L Q s w =>
  hi.seq s.okL s.envA w (fun _ _ h => h.at' s) fun ds w1 J G Yw H2 e2 wk hG hY Dl hD => by
    split at w1
    case isFalse => exact w1.elim
    rename_i hz
    have s2 := s.up e2
    have frD := W.new s2.ok.1 hD
    have offD : YL Y L Dl = false := s2.okL.fresh hD
    have hB : ∀ k ∈ B.l, k.1 Dl = none ∨ k.2 Dl = true := fun k hk => by
      cases z : k.2 Dl with
      | true => exact .inr rfl
      | false =>
        refine .inl ?_
        cases y : k.1 Dl with
        | none => rfl
        | some o => rw [(s2.bs k hk).2 Dl o y z] at hD; cases hD
    have s3 := (s2.alsoNew hD).wipes vs
    refine lc_it wk (fun i H' => ∃ ρ', SR W (also Y Dl) B (wipe σ vs) H' ρ' L ∧ St (YL Y L) H2 H' ∧ (∀ j : Nat, j ∈ vs → ρ'[j]? = some Sl.no ∨ ρ.length ≤ j) ∧ ∃ acc ds', H' Dl = some (.lst acc) ∧ ds'.length ≤ i ∧ Dms W (also (YL Y L) Dl) H' acc ds' ∧ (lcGoX p e vs (ds.drop i) ρ').wp (fun r => RetXN W Y B σ H L Q (r.1, ds' ++ r.2)) (ErrB W E B))
      ⟨_, s3, fun a o h _ => Same.new hD a o h, fun j hj => wipe_no hj, [], [], upd_same, Nat.le_refl _, .nil, by simpa using w1⟩ (fun i H' _ ⟨ρ', _, st, _⟩ => hG H' st) (fun i x Ha Hb hlt q y => ?_) (fun H' q => ?_)
    · obtain ⟨ρ', q1, q2, q3, acc, ds', q4, q5, q6, q7⟩ := q
      have okA : Ok W (also (YL Y L) Dl) Ha := by rw [← YL_alsoY]; exact q1.okL
      obtain ⟨eb, d, hd, hx⟩ := hY i Ha x Hb (also (YL Y L) Dl) hlt q2 okA (fun a h => by
        by_cases ea : a = Dl
        · subst ea; exact .inr hD
        · exact .inl (by simpa [Mi.also, ea] using h)) y
      have eb' : Ext W Ha Hb := .of q1.ok.1 eb
      have sb := q1.up eb'
      have hdr : ds.drop i = d :: ds.drop (i + 1) := by
        obtain ⟨hl, hg⟩ := List.getElem?_eq_some_iff.mp hd
        rw [List.drop_eq_getElem_cons hl, hg]
      rw [hdr] at q7
      unfold lcGoX at q7
      cases hpd : p d ρ' with
      | none => rw [hpd] at q7; exact q7.elim
      | some ρ1 =>
        rw [hpd] at q7
        have hx' : Dm W (YL (also Y Dl) L) Hb x d := by rw [YL_alsoY]; exact hx
        refine hp _ Hb x d (wipe σ vs) ρ' ρ1 _ (mask_le (W := W) (Y := YL (also Y Dl) L) (H := Hb)) hx' hpd fun σ1 hs => ⟨wipe_setR hs hv |>.trans (wipe_wipe σ vs), ?_⟩
        have s1 := (sb.sets hs).baseZ (Z := YL Y L) s.okL.2.1 fun p hp => YL_l hp
        unfold tYes
        refine (if_pos rfl).mpr (he _ _ _ _ _ _ _ s1 (M.wp_mono (fun r w4 v H4 st4 s4 hvv => ?_) (fun c q h cls o H' k hE => h cls o H' k.tail hE) _ ((M.wp_bind _).mp q7)))
        have stB : St (YL Y L) Hb H4 := (s4.bs _ List.mem_cons_self).2
        have l4 : H4 Dl = some (.lst acc) := stB _ _ (eb _ _ q4) offD
        have lacc := q6.length
        refine ⟨acc, l4, by rw [sizeLine_eq]; omega, ?_⟩
        have mo : mask W (also (YL Y L) Dl) (upd H4 Dl (.lst (acc ++ [v]))) = mask W (also (YL Y L) Dl) H4 := mask_off (by simp [Mi.also])
        have st4' : Same (mask W (also (YL Y L) Dl) Ha) (mask W (also (YL Y L) Dl) H4) := by
          rw [← YL_alsoY]
          exact (mask_go (fun a o h _ => eb a o h) fun _ h => .inl h).trans (mask_go st4 fun _ h => .inl h)
        have s5 := (s4.unbase.putOut (l := Dl) (u := .lst (acc ++ [v])) (by simp [Mi.also]) l4 rfl rfl frD hB).wipes vs
        rw [wipe_setR hs hv, wipe_wipe] at s5
        have hv' : Dm W (also (YL Y L) Dl) H4 v r.2 := by rw [← YL_alsoY]; exact hvv
        refine ⟨_, s5, fun a o h z => ?_, fun j hj => ?_, acc ++ [v], ds' ++ [r.2], upd_same, by simp; omega, by unfold Dms; rw [mo]; exact (Dns.up q6 st4').app (.cons hv' .nil), ?_⟩
        · have : a ≠ Dl := ne_of_none h hD
          rw [upd_ne this]
          exact stB a o (eb a o (q2 a o h z)) z
        · have e4 : r.1.length = ρ.length := by
            have h1 := s4.len
            have h2 := congrArg List.length ((wipe_setR hs hv).trans (wipe_wipe σ vs))
            rw [wipe_length, wipe_length] at h2
            rw [← h1, h2, s.len]
          rw [← e4]
          exact wipe_no hj
        · exact M.wp_mono (fun q h => by simpa using h) (fun _ _ h => h) _ ((M.wp_bind _).mp w4)
    · obtain ⟨ρ', q1, q2, q3, acc, ds', q4, q5, q6, q7⟩ := q
      rw [List.drop_length] at q7
      have q7' : RetXN W Y B σ H L Q (ρ', ds' ++ []) := q7
      rw [List.append_nil] at q7'
      refine q7' Dl acc H' (St.tr (.ext e2 s.okL.2.1) q2) (e2.free s.ok.1 hD) q4 ((q1.sub (fun a h => also_r a h) s.ok.2.1).unwip (wipe_length σ vs).symm fun j => ?_) q6
      by_cases hj : j ∈ vs
      · rcases q3 j hj with h | h
        · exact .inl h
        · exact .inr (by rw [List.getElem?_eq_none (by rw [s.len]; exact h), List.getElem?_eq_none (by rw [wipe_length, s.len]; exact h)])
      · exact .inr (wipe_off hj).symm
end
end Mi

/-! Mi: the fields of an instance that changes; defs that change the instance of their first argument -/
namespace Mi
open PySem L2 Cc
section
variable {K : Fg} {W : Wd K} {E : XK} {te : TE} {m : Env → M D}
theorem putF_nm {f : Str} {v : V} : ∀ {fs : List (Str × V)}, f ∈ fs.map (·.1) → (putF f v fs).map (·.1) = fs.map (·.1)
  | [], h => by cases h
  | (g, x) :: r, h => by
    by_cases e : g = f
    · simp [putF, e]
    · have : f ∈ r.map (·.1) := by
        rcases List.mem_cons.mp h with h | h
        · exact absurd h.symm e
        · exact h
      simp only [putF, if_neg e, List.map_cons, putF_nm this]
theorem putF_dns {Hm : Hp} {f : Str} {v : V} {d : D} (hv : Dn K Hm v d) : ∀ {fs : List (Str × V)} {ds : List D}, f ∈ fs.map (·.1) → Dns K Hm (fs.map (·.2)) ds → Dns K Hm ((putF f v fs).map (·.2)) (setF (fs.map (·.1)) ds f d)
  | [], _, h, _ => by cases h
  | (g, x) :: r, ds, h, hd => by
    cases hd with
    | @cons _ _ d0 ds0 h1 h2 =>
      by_cases e : g = f
      · simp only [putF, if_pos e, List.map_cons, setF]
        exact .cons hv h2
      · have : f ∈ r.map (·.1) := by
          rcases List.mem_cons.mp h with h | h
          · exact absurd h.symm e
          · exact h
        simp only [putF, if_neg e, List.map_cons, setF]
        exact .cons h1 (putF_dns hv this h2)
theorem fAt_mem {f : Str} {d : D} : ∀ {ns : List Str} {ds : List D}, fAt ns ds f = some d → f ∈ ns
  | [], _, h => by simp [fAt] at h
  | n :: ns, [], h => by simp [fAt] at h
  | n :: ns, e :: ds, h => by
    unfold fAt at h
    by_cases c : n = f
    · subst c; exact List.mem_cons_self
    · rw [if_neg c] at h; exact List.mem_cons_of_mem _ (fAt_mem h)
/-- the instance of slot i with other fields -/
theorem SR.putS {Y : Addr → Bool} {B : Bases} {σ : L2.St} {H : Hp} {ρ : Env} {L : List (Nat × Addr)} (s : SR W Y B σ H ρ L) {i k : Nat} {x C dx dx' : Addr} {ms : List Str} {es : List D} {fs fs' : List (Str × V)} (hσ : σ[i]? = some (some (.ref x))) (hS : ∀ y, B.s = some y → i = 0 → x = y) (hl : (i, x) ∈ L) (hx : H x = some (.ins C dx fs)) (hn : fs'.map (·.1) = ms) (hC : C = W.cls k ∧ (ms ≠ [] → W.ct ms = some C)) (hd : Dms W (YL Y L) H (fs'.map (·.2)) es) : SR W Y B σ (upd H x (.ins C dx' fs')) (ρ.set i (.slf k C ms es)) L :=
  s.putO hl hx rfl rfl ⟨x, dx', fs', hσ, hS, hl, upd_same, hn, hC, by
    have mo : mask W (YL Y L) (upd H x (.ins C dx' fs')) = mask W (YL Y L) H := mask_off (YL_l hl)
    unfold Dms
    rw [mo]
    exact hd⟩
theorem gs_fldA {i k : Nat} {C : Addr} {p : List Str → Bool} {f : Str} (hp : ∀ ns, p ns = true → W.ct ns = some C) (hC : W.cls k = C) (c : Cls K C) (n : NoAttr K C f) (h : GE W E te m) : GS W E (sFld K (tVar i) te f) (sFldA k i p f m) := fun Y B σ H ρ Dn ⟨L, s⟩ w => by
  unfold sFldA at w
  split at w
  case h_2 => exact w.elim
  rename_i k' C' ns ds hi
  refine h.runA s w fun d v H1 s1 hv w1 => ?_
  split at w1
  case isFalse => exact w1.elim
  rename_i kk
  simp only [Bool.and_eq_true, decide_eq_true_eq] at kk
  obtain ⟨⟨⟨k2, k3⟩, k4⟩, k5⟩ := kk
  obtain ⟨x, dx, fs, g1, gS, g2, g3, g4, g5, g6⟩ := s1.slfAt hi
  subst k2
  have eC : C' = C := g5.1.trans hC
  subst eC
  have hnf : f ∉ fs.map (·.1) := by rw [g4]; simpa using k3
  have hlen : fs.length = ns.length := by rw [← g4]; simp
  refine ⟨.ref x, g1, x, C', dx, fs, rfl, g3, c, n, by omega, w1 σ _ ⟨L, s1.putS g1 gS g2 g3 (by rw [putF_new hnf, List.map_append, g4]; rfl) ⟨g5.1, fun _ => hp _ k5⟩ ?_⟩⟩
  rw [putF_new hnf, List.map_append]
  exact Dns.app g6 (.cons hv .nil)
theorem gs_fldAugJ {i k : Nat} {C : Addr} {f : Str} (hC : W.cls k = C) (c : Cls K C) (n : NoAttr K C f) (h : GE W E te m) : GS W E (sFldAug K (tVar i) te rAdd f) (sFldAugJ k i f m) := fun Y B σ H ρ Dn ⟨L, s⟩ w => by
  unfold sFldAugJ at w
  split at w
  case h_2 => exact w.elim
  rename_i k' C' ns ds hi
  split at w
  case isFalse => exact w.elim
  rename_i hk
  split at w
  case h_2 => exact w.elim
  rename_i a ha
  obtain ⟨x, dx, fs, g1, gS, g2, g3, g4, g5, g6⟩ := s.slfAt hi
  obtain ⟨rfl, k4⟩ := hk
  have eC : C' = C := g5.1.trans hC
  subst eC
  obtain ⟨v, l1, l2⟩ := fAt_lookup g6 (by rw [g4]; exact ha)
  cases l2
  refine ⟨.ref x, g1, x, C', dx, fs, .int a, rfl, g3, c, n, l1, h.runB s w fun d v H1 s1 hv w1 => ?_⟩
  cases d with
  | int b =>
    cases hv
    obtain ⟨x', dx', fs', q1, qS, q2, q3, q4, q5, q6⟩ := s1.slfAt hi
    rw [g1] at q1
    cases q1
    have hlen : fs'.length = ns.length := by rw [← q4]; simp
    have hm : f ∈ fs'.map (·.1) := by rw [q4]; exact fAt_mem ha
    refine ⟨a, b, rfl, rfl, dx', fs', q3, by omega, w1 σ _ ⟨L, s1.putS g1 qS q2 q3 (by rw [putF_nm hm, q4]) q5 ?_⟩⟩
    have := putF_dns (K := K) (f := f) (Cc.Dn.int (K := K) (H := mask W (YL Y L) H1) (a + b)) hm q6
    rw [q4] at this
    exact this
  | _ => exact w1.elim
theorem gs_fldU {i k : Nat} {C : Addr} {f : Str} (hC : W.cls k = C) (c : Cls K C) (n : NoAttr K C f) (h : GE W E te m) : GS W E (sFld K (tVar i) te f) (sFldU k i f m) := fun Y B σ H ρ Dn ⟨L, s⟩ w => by
  unfold sFldU at w
  split at w
  case h_2 => exact w.elim
  rename_i k' C' ns ds hi
  split at w
  case isFalse => exact w.elim
  rename_i hk
  refine h.runB s w fun d v H1 s1 hv w1 => ?_
  split at w1
  case isFalse => exact w1.elim
  rename_i ko
  obtain ⟨x, dx, fs, g1, gS, g2, g3, g4, g5, g6⟩ := s1.slfAt hi
  obtain ⟨rfl, k4, k5⟩ := hk
  have eC : C' = C := g5.1.trans hC
  subst eC
  have hlen : fs.length = ns.length := by rw [← g4]; simp
  have hm : f ∈ fs.map (·.1) := by rw [g4]; simpa using k5
  refine ⟨.ref x, g1, x, C', dx, fs, rfl, g3, c, n, by omega, w1 σ _ ⟨L, s1.putS g1 gS g2 g3 (by rw [putF_nm hm, g4]) g5 ?_⟩⟩
  have := putF_dns (K := K) (f := f) (ok1_see s1 hv ko) hm g6
  rw [g4] at this
  exact this
end
section
variable {P : Program} {w : World} {K : Fg} {mg : Str → Option Value} {base : Heap} {W : Wd K}
def finJn (k : Nat) (ns : List Str) (ρ : Env) : M (D × List D) := match ρ[(0 : Nat)]? with
  | some (.slf k' _ ns' es) => if k' = k ∧ ns' = ns then .ret (.non, es) else .bad
  | _ => .bad
def finJr (k : Nat) (ns : List Str) (d : D) (k' : Nat) (ns' : List Str) (es : List D) : M (D × List D) := if k' = k ∧ ns' = ns then .ret (d, es) else .bad
def finJ (k : Nat) (ns : List Str) : Fl → M (D × List D)
  | .nx ρ => finJn k ns ρ
  | .rs d k' ns' es => finJr k ns d k' ns' es
  | _ => .bad
/-- what a def does to the instance of its first argument: es its fields -/
def defJ (k : Nat) (C : Addr) (ns : List Str) (n np : Nat) (b : Env → M Fl) : List D → List D → M (D × List D) := fun es ds => if ds.length + 1 = np then (b (.slf k C ns es :: (ds.map .dat ++ List.replicate (n - np) .no))).bind (finJ k ns) else .bad
theorem defJ_len {k n np : Nat} {C : Addr} {ns : List Str} {b : Env → M Fl} {es ds : List D} {R : D × List D → Prop} {Er} (w : (defJ k C ns n np b es ds).wp R Er) : ds.length + 1 = np := by
  unfold defJ at w
  split at w
  · assumption
  · exact w.elim
theorem ok_defJ {x qual : Str} {st : Stmt} {f : Addr} {fd : FuncData} {N ps : List Str} {lv k : Nat} {C : Addr} {ns : List Str} {a : Env → M Fl} (F : Fun K x qual st f fd) (S : FnScope N ps (defScope st)) (hN : ps.length ≤ N.length) (hC : W.cls k = C)
    (hb : ∀ (cdv : Value) (A : Around) (outer : List PySem.Env) (s : Shared) (H : Hp) (E : XK), Room lv (A.deeper (PyProof.Rows.envOfC qual (defScope st) s.heap.objs.size f cdv)) → ∃ t, PSs (cxOf (L2.CX P w) P w K mg base N qual (defScope st) f cdv A outer s H E) (defBody st) t ∧ GS W E t a) :
    FnOk P w K mg base (L2.CX P w) (lv + 1) f fd ps (spJ W k ns (defJ k C ns N.length ps.length a)) := by
  refine F.okX S (fun vs H Q E h => ?_) (fun cdv A outer s H vs Q E hr h => ?_)
  · obtain ⟨Y, x, dx, fs, avs, es, ds, rfl, _, _, _, _, _, _, _, _, hd, w⟩ := h
    rw [List.length_cons, hd.length]
    exact defJ_len w
  · obtain ⟨Y, x, dx, fs, avs, es, ds, rfl, hx, hn, hct, ok, hyx, hXx, hFx, hes, hd, w⟩ := h
    obtain ⟨t, h1, h2⟩ := hb cdv A outer s _ E hr
    refine ⟨t, h1, ?_⟩
    have hl := defJ_len w
    unfold defJ at w
    rw [if_pos hl] at w
    subst hC
    have hlen := hd.length
    let Y' : Addr → Bool := fun a => Y a && !(a == x)
    have hY'x : Y' x = false := by simp [Y']
    have hY' : ∀ a, Y' a = true → Y a = true := fun a h => by
      have : Y a = true ∧ ¬ a = x := by simpa [Y'] using h
      exact this.1
    have hal : ∀ a, Y a = true → also Y' x a = true := fun a h => by
      by_cases e : a = x
      · simp [also, e]
      · simp [also, Y', e, h]
    have yl0 : ∀ {L : List (Nat × Addr)} a, Y a = true → (0, x) ∈ L → YL Y' L a = true := fun {L} a h m => by
      by_cases e : a = x
      · subst e; exact YL_l (p := (0, a)) m
      · exact YL_y (by simp [Y', e, h])
    have ylr : ∀ a, YL Y' [(0, x)] a = true → Y a = true := fun a h => by
      rcases YL_or h with h | ⟨p, hp, rfl⟩
      · exact hY' a h
      · rw [List.mem_singleton.mp hp]; exact hyx
    have sr : SR W Y' ⟨[(H, also W.X x)], some x⟩ (L2.start N (.ref x :: avs)) H (.slf k (W.cls k) ns es :: (ds.map .dat ++ List.replicate (N.length - ps.length) .no)) [(0, x)] := {
      ok := ⟨ok.1, fun a ha => by
        have e : a ≠ x := by
          rintro rfl
          rw [ha] at hXx; cases hXx
        simp [Y', e, ok.2.1 a ha], fun a ha => ok.2.2 a (hY' a ha)⟩
      bs := fun k hk => by
        rw [List.mem_singleton.mp hk]
        exact ⟨fun a h => by simp [also, h], fun _ _ e _ => e⟩
      len := by
        simp [L2.start, hlen]
        omega
      fre := fun p hp => by
        rw [List.mem_singleton.mp hp]
        refine ⟨fun k hk => ?_, hFx, hY'x, _, hx, rfl⟩
        rw [List.mem_singleton.mp hk]
        exact .inr (by simp [also])
      nd := by simp
      sl := fun i t' ht => by
        cases i with
        | zero =>
          cases ht
          exact ⟨x, dx, fs, by simp [L2.start], fun y hy _ => by cases hy; rfl, by simp, hx, hn, ⟨rfl, hct⟩, Dms.less hes ylr⟩
        | succ i =>
          rw [List.getElem?_cons_succ] at ht
          by_cases hi : i < ds.length
          · rw [List.getElem?_append_left (by simpa using hi), List.getElem?_map, List.getElem?_eq_getElem hi] at ht
            cases ht
            obtain ⟨v, hv, hdv⟩ := hd.getD (List.getElem?_eq_getElem hi)
            refine ⟨v, ?_, Dm.less hdv ylr⟩
            have hiv : i < avs.length := by omega
            unfold L2.start
            rw [List.getElem?_append_left (by simpa using hiv), List.map_cons, List.getElem?_cons_succ, List.getElem?_map, hv]
            rfl
          · rw [List.getElem?_append_right (by simpa using Nat.le_of_not_lt hi)] at ht
            have := List.mem_of_getElem? ht
            rw [(List.mem_replicate.mp this).2]
            trivial }
    refine h2 Y' _ _ H _ _ ⟨_, sr⟩ (M.wp_mono (fun fl hf => ?_) (fun c p hc cls ob H' k he => hc cls ob H' k.1 (k.2 _ List.mem_cons_self) he) _ ((M.wp_bind _).mp w))
    cases fl with
    | nx ρ' =>
      intro σ' H' ⟨L, s'⟩
      replace hf : (finJn k ns ρ').wp _ _ := hf
      unfold finJn at hf
      split at hf
      · rename_i k' C' ns' es' h0
        split at hf
        · rename_i hk
          obtain ⟨rfl, rfl⟩ := hk
          obtain ⟨x', dx', fs', g1, gS, g2, g3, g4, g5, g6⟩ := s'.slfAt h0
          have gy := gS x rfl rfl
          subst gy
          exact hf .non H' dx' fs' s'.ok.1 ((s'.bok.2 _ List.mem_cons_self)) (by rw [g3, g5.1]) g4 (Dms.less g6 fun a h => yl0 a h g2) .non
        · exact hf.elim
      · exact hf.elim
    | rs d k' ns' es' =>
      intro v H' x' dx' fs' hS hbk hx' hn' hd' hv
      replace hf : (finJr k ns d k' ns' es').wp _ _ := hf
      unfold finJr at hf
      split at hf
      · rename_i hk
        obtain ⟨rfl, rfl⟩ := hk
        have gy := hS x rfl
        subst gy
        exact hf v H' dx' fs' hbk.1 (hbk.2 _ List.mem_cons_self) hx' hn' (Dms.less hd' hal) (Dm.less hv hal)
      · exact hf.elim
    | rt d => exact hf.elim
    | bk _ => exact hf.elim
    | ct _ => exact hf.elim
end
end Mi

/-! Mi: methods without arguments; text.index(letter) -/
namespace Cc
open PySem L2 PyProof.Rows
section
variable {X : Cx} {CX : CXT} {n m : Nat} {mt : Str} {C : Addr} {ps : List Str} {sp : Sp} {E : XK} {o : Expr} {ta : TE} {pos apos : Pos}
theorem pe_met0 {pl : Sem Bool} (M : CMet X.prog X.w X.K X.mg X.base CX n C mt ps sp) (hr : Room m X.A) (hx : Passes CX X E) (ho : PE X o ta) (hn : n ≤ m := by decide)
    (ht : eval (.Call (.Attribute o mt apos) [] [] pos) X.env = (do
      let ov ← eval o X.env
      standAt apos.atName
      let (f, first) ← holding [ov] (getMethod ov mt pl)
      callWith pos f first (backTo pos (starEach [] X.env)) (backToKw pos (keywordEach [] X.env))) := by rfl) : PE X (.Call (.Attribute o mt apos) [] [] pos) (tMeth C mt sp [] E ta tNil) := by
  obtain ⟨f, fd, c, hm, F, hb⟩ := M
  exact pe_meth0 ho c hm F (hr.mono hn) hb .nil hx ht
end
end Cc
namespace Mi
open PySem L2 Cc
def fSIdx : D → List D → Option D
  | .str a, [.str b] => match Builtin.Str.occurrences a b 0 a.length 1 with
    | i :: _ => some (.int (i : Nat))
    | [] => none
  | _, _ => none
section
variable {K : Fg} {W : Wd K} {E : XK}
theorem rm_sidx : RMM W (fun x xs H Q => ∃ a b i rest, x = .str a ∧ xs = [.str b] ∧ Builtin.Str.occurrences a b 0 a.length 1 = i :: rest ∧ Q (.int (i : Nat)) H) fSIdx := fun Y H x vs d ds z Q o hx hv h q => by
  unfold fSIdx at h
  split at h
  case h_2 => cases h
  split at h
  case h_2 => cases h
  rename_i i rest hi
  cases h
  cases hx
  obtain ⟨v, rfl, hw⟩ := hv.un1
  cases hw
  exact ⟨_, _, i, rest, rfl, rfl, hi, q _ H (.refl o.1) (.int _)⟩
theorem gx_methJC {i k : Nat} {C0 : Addr} {ns : List Str} {f : Str} {F : List D → List D → M (D × List D)} {ta : TA} {g : Env → M (List D)} (hC : W.cls k = C0) (ht : GA W E ta g) (hf : ns.contains f = false := by decide) : JX W E (tMeth C0 f (spJ W k ns F) [] Cc.E0 (tVar i) ta) (mCallJ i k ns (fun es ds => (F es ds).calm) g) := fun Y B σ H ρ L Q s w => by
  subst hC
  unfold mCallJ at w
  split at w
  case h_2 => exact w.elim
  rename_i k' C ns' es hi
  split at w
  case isFalse => exact w.elim
  rename_i hk
  obtain ⟨rfl, rfl⟩ := hk
  obtain ⟨x, dx, fs, g1, gS, g2, g3, g4, g5, g6⟩ := s.slfAt hi
  refine ⟨.ref x, g1, x, dx, fs, rfl, by rw [g3, g5.1], lookup_no (by rw [g4, hf]; rfl), ht.seq s.okL s.envA w (fun _ _ h => h.at' s) fun ds vs H1 e1 o1 r1 hv w1 => ?_⟩
  rw [List.append_nil]
  have s1 := s.up e1
  obtain ⟨x', dx', fs', q1, qS, q2, q3, q4, q5, q6⟩ := s1.slfAt hi
  rw [g1] at q1
  cases q1
  have eC := q5.1
  subst eC
  have st0 : St (YL Y L) H H1 := .ext e1 s.okL.2.1
  exact ⟨YL Y L, x, dx', fs', vs, es, ds, rfl, q3, q4, q5.2, s1.okL, YL_l q2, s1.lx q2, (s1.fre _ q2).2.1, q6, hv, M.wp_mono (fun r hr v H' dx2 fs2 hI st h' hn hd hv' => hr v H' (st0.tr (s1.stJ q2 st)) (s1.callJ q2 g1 qS hI st h' hn q5 hd) hv') (fun c p he cls o H' hI st hE => he) _ (M.wp_calm (E' := fun _ _ => False) _ ((M.wp_bind _).mp w1))⟩
end
end Mi

/-! Mi: a comprehension with two fors -/
namespace Mi
open PySem L2 Cc
def lcGo2 (p : Pat) (c : Env → M Bool) (mi1 : Env → M (List D)) (p1 : Pat) (c1 : Env → M Bool) (e : Env → M D) (vs1 : List Nat) (ρ : Env) : List D → M (List D)
  | [] => .ret []
  | d :: ds => match p d ρ with
    | none => .bad
    | some ρ1 => (c ρ1).bind fun k => if k then (mi1 ρ1).bind fun es => if es.length ≤ 1000 then (lcGo p1 c1 e (wipeE ρ1 vs1) es).bind fun xs => (lcGo2 p c mi1 p1 c1 e vs1 ρ ds).bind fun ys => .ret (xs ++ ys) else .bad else lcGo2 p c mi1 p1 c1 e vs1 ρ ds
def mLc2 (mi : Env → M (List D)) (p : Pat) (c : Env → M Bool) (mi1 : Env → M (List D)) (p1 : Pat) (c1 : Env → M Bool) (e : Env → M D) (vs vs1 : List Nat) : Env → M (List D) := fun ρ => (mi ρ).bind fun ds => if ds.length ≤ 10000 then lcGo2 p c mi1 p1 c1 e vs1 (wipeE ρ vs) ds else .bad
section
variable {K : Fg} {W : Wd K} {E : XK}
theorem gn_lc2 {wi wi1 : TI} {g g1 : TG} {tt tt1 : TT} {te : TE} {vs vs1 is is1 : List Nat} {mi mi1 : Env → M (List D)} {p p1 : Pat} {c c1 : Env → M Bool} {e : Env → M D} (hi : GI W E wi mi) (hp : GP K g p is) (hc : GT W E tt c) (hi1 : GI W E wi1 mi1) (hp1 : GP K g1 p1 is1) (hc1 : GT W E tt1 c1) (he : GE W E te e) (hv : ∀ i ∈ is, i ∈ vs := by decide) (hv1 : ∀ i ∈ is1, i ∈ vs1 := by decide) (hvv : ∀ i ∈ vs1, i ∈ vs := by decide) :
    GN W E (tLc2 wi g tt wi1 g1 tt1 te vs vs1) (mLc2 mi p c mi1 p1 c1 e vs vs1) := fun Y σ H ρ Q o r w =>
  hi.seq o r w (fun _ _ h => h) fun ds w1 J G Yw H2 e2 wk hG hY Dl hD => by
    split at w1
    case isFalse => exact w1.elim
    rename_i hz
    have o2 := o.ext e2
    have eD : Same H2 (upd H2 Dl (.lst [])) := Same.new hD
    have frD := W.new o2.1 hD
    have YD : Y Dl = false := o2.fresh hD
    have XDl : W.X Dl = false := o2.x YD
    have rr : EnvR W (mask W (also Y Dl) (upd H2 Dl (.lst []))) (wipe σ vs) (wipeE ρ vs) := env_wipe ((r.up o e2).same (mask_new o2 hD)) vs
    have Yd : ∀ {Z : Prop} {a : Addr}, also Y Dl a = true → (Y a = true → Z) → (a = Dl → Z) → Z := fun {Z a} h f k => by
      by_cases ea : a = Dl
      · exact k ea
      · exact f (by simpa [Mi.also, ea] using h)
    -- the outer walk
    let Pv : Nat → Hp → Prop := fun i H' => Ext W H2 H' ∧ Ok W (also Y Dl) H' ∧ EnvR W (mask W (also Y Dl) H') (wipe σ vs) (wipeE ρ vs) ∧ ∃ acc ds', H' Dl = some (.lst acc) ∧ ds'.length ≤ i * 1000 ∧ Dms W (also Y Dl) H' acc ds' ∧ (lcGo2 p c mi1 p1 c1 e vs1 (wipeE ρ vs) (ds.drop i)).wp (fun es => RetPn W Y H Q (ds' ++ es)) (ErrP W E H)
    have hG' : ∀ i H', Pv i H' → G H' := fun i H' q => hG H' (.ext q.1 o2.2.1)
    refine ⟨fun i m H' => m = ds.length - i ∧ i ≤ ds.length ∧ Pv i H', ⟨ds.length, by simp, Nat.zero_le _, .of o2.1 eD, o2.also hD, rr, [], [], upd_same, Nat.zero_le _, .nil, by simpa using w1⟩, ?_⟩
    rintro i m Ha ⟨rfl, hile, q⟩
    by_cases hlt : i < ds.length
    · refine .inr ⟨wk.goes i Ha hlt (hG' i Ha q), Pv (i + 1), fun H' p' => ⟨ds.length - (i + 1), by omega, rfl, hlt, p'⟩, fun x Hb y => ?_⟩
      have y := wk.yields i Ha x Hb hlt (hG' i Ha q) y
      obtain ⟨q1, q2, q3, acc, ds', q4, q5, q6, q7⟩ := q
      obtain ⟨eb, d, hd, hx⟩ := hY i Ha x Hb (also Y Dl) hlt (.ext q1 o2.2.1) q2 (fun a h => Yd h .inl fun z => by subst z; exact .inr hD) y
      have eb' : Ext W Ha Hb := .of q2.1 eb
      have ob := q2.ext eb'
      have e2b := q1.trans eb'
      have rb := q3.up q2 eb'
      have hdr : ds.drop i = d :: ds.drop (i + 1) := by
        obtain ⟨hl, hg⟩ := List.getElem?_eq_some_iff.mp hd
        rw [List.drop_eq_getElem_cons hl, hg]
      rw [hdr] at q7
      unfold lcGo2 at q7
      cases hpd : p d (wipeE ρ vs) with
      | none => rw [hpd] at q7; exact q7.elim
      | some ρ1 =>
        rw [hpd] at q7
        refine hp _ Hb x d (wipe σ vs) (wipeE ρ vs) ρ1 _ (mask_le (W := W) (Y := also Y Dl) (H := Hb)) hx hpd fun σ1 s1 => ⟨wipe_setR s1 hv |>.trans (wipe_wipe σ vs), ?_⟩
        have r1 := rb.sets s1
        have eHb := e2.trans e2b
        refine hc.seq (Er := ErrP W E H) ob r1 q7 (fun _ _ h => h.up eHb) fun k H3 e3 o3 r3 w3 => ?_
        have l3 : H3 Dl = some (.lst acc) := e3.1 _ _ (eb _ _ q4) XDl
        have d3 := (q6.up q2 eb').up ob e3
        have rb3 := rb.up ob e3
        cases k with
        | false =>
          refine (if_neg Bool.false_ne_true).mpr ⟨e2b.trans e3, o3, rb3, acc, ds', l3, by omega, d3, ?_⟩
          simpa using w3
        | true =>
          refine (if_pos rfl).mpr (hi1.seq (Er := ErrP W E H) o3 r3 (by simpa using w3) (fun _ _ h => h.up (eHb.trans e3)) fun es w4 J1 G1 Yw1 H4 e4 wk1 hG1 hY1 => ?_)
          split at w4
          case isFalse => exact w4.elim
          rename_i hes
          have o4 := o3.ext e4
          have r4 := r3.up o3 e4
          have e24 : Ext W H2 H4 := (e2b.trans e3).trans e4
          let Pv1 : Nat → Hp → Prop := fun j H' => Ext W H2 H' ∧ Ok W (also Y Dl) H' ∧ St (also Y Dl) H4 H' ∧ EnvR W (mask W (also Y Dl) H') (wipe σ vs) (wipeE ρ vs) ∧ EnvR W (mask W (also Y Dl) H') (wipe σ1 vs1) (wipeE ρ1 vs1) ∧ ∃ acc ds', H' Dl = some (.lst acc) ∧ ds'.length ≤ i * 1000 + j ∧ Dms W (also Y Dl) H' acc ds' ∧
            (lcGo p1 c1 e (wipeE ρ1 vs1) (es.drop j)).wp (fun xs => (lcGo2 p c mi1 p1 c1 e vs1 (wipeE ρ vs) (ds.drop (i + 1))).wp (fun ys => RetPn W Y H Q (ds' ++ (xs ++ ys))) (ErrP W E H)) (ErrP W E H)
          have hG1' : ∀ j H', Pv1 j H' → G1 H' := fun j H' q => hG1 H' q.2.2.1
          refine ⟨fun j m H' => m = es.length - j ∧ j ≤ es.length ∧ Pv1 j H', ⟨es.length, by simp, Nat.zero_le _, e24, o4, fun _ _ h _ => h, rb3.up o3 e4, env_wipe r4 vs1, acc, ds', e4.1 _ _ l3 XDl, by omega, d3.up o3 e4, ?_⟩, ?_⟩
          · rw [List.drop_zero]
            exact M.wp_mono (fun xs h => M.wp_mono (fun ys h => h) (fun _ _ h => h) _ ((M.wp_bind _).mp h)) (fun _ _ h => h) _ ((M.wp_bind _).mp w4)
          rintro j m Hc ⟨rfl, hjle, u⟩
          by_cases hjt : j < es.length
          · refine .inr ⟨wk1.goes j Hc hjt (hG1' j Hc u), Pv1 (j + 1), fun H' p' => ⟨es.length - (j + 1), by omega, rfl, hjt, p'⟩, fun x1 Hd y1 => ?_⟩
            have y1 := wk1.yields j Hc x1 Hd hjt (hG1' j Hc u) y1
            obtain ⟨u1, u2, u3, u4, u5, acc1, ds1, u6, u7, u8, u9⟩ := u
            obtain ⟨ed, d1, hd1, hx1⟩ := hY1 j Hc x1 Hd (also Y Dl) hjt u3 u2 (fun a h => .inl h) y1
            have ed' : Ext W Hc Hd := .of u2.1 ed
            have od := u2.ext ed'
            have hdr1 : es.drop j = d1 :: es.drop (j + 1) := by
              obtain ⟨hl, hg⟩ := List.getElem?_eq_some_iff.mp hd1
              rw [List.drop_eq_getElem_cons hl, hg]
            rw [hdr1] at u9
            unfold lcGo at u9
            cases hpd1 : p1 d1 (wipeE ρ1 vs1) with
            | none => rw [hpd1] at u9; exact u9.elim
            | some ρ2 =>
              rw [hpd1] at u9
              refine hp1 _ Hd x1 d1 (wipe σ1 vs1) (wipeE ρ1 vs1) ρ2 _ (mask_le (W := W) (Y := also Y Dl) (H := Hd)) hx1 hpd1 fun σ2 s2 => ⟨wipe_setR s2 hv1 |>.trans (wipe_wipe σ1 vs1), ?_⟩
              have r5 := (u5.up u2 ed').sets s2
              have eHd : Ext W H Hd := e2.trans (u1.trans ed')
              refine hc1.seq (Er := ErrP W E H) od r5 u9 (fun _ _ h => h.up eHd) fun k H5 e5 o5 r6 w5 => ?_
              have l5 : H5 Dl = some (.lst acc1) := e5.1 _ _ (ed _ _ u6) XDl
              have st5 : St (also Y Dl) H4 H5 := fun a o h z => e5.1 a o (ed a o (u3 a o h z)) (od.x z)
              cases k with
              | false =>
                refine (if_neg Bool.false_ne_true).mpr ⟨(u1.trans ed').trans e5, o5, st5, (u4.up u2 ed').up od e5, (u5.up u2 ed').up od e5, acc1, ds1, l5, by omega, (u8.up u2 ed').up od e5, ?_⟩
                simpa using w5
              | true =>
                refine (if_pos rfl).mpr (he.seq (Er := ErrP W E H) o5 r6 (by simpa using w5) (fun _ _ h => h.up (eHd.trans e5)) fun dv y' H6 e6 o6 r7 hy w6 => ?_)
                have l6 : H6 Dl = some (.lst acc1) := e6.1 _ _ l5 XDl
                have hds := ((u8.up u2 ed').up od e5).up o5 e6
                have lacc := u8.length
                have hi10 : i * 1000 ≤ 10000000 := by omega
                refine ⟨acc1, l6, by rw [sizeLine_eq]; omega, ?_⟩
                have mo : mask W (also Y Dl) (upd H6 Dl (.lst (acc1 ++ [y']))) = mask W (also Y Dl) H6 := mask_off (by simp [Mi.also])
                have I6 : W.I (upd H6 Dl (.lst (acc1 ++ [y']))) := W.off o6.1 frD l6 rfl
                have e26 := ((u1.trans ed').trans e5).trans e6
                refine ⟨⟨fun b u hb hx => ?_, I6⟩, ⟨I6, o6.2.1, fun a ha => ?_⟩, fun a o h z => ?_, by rw [mo]; exact ((u4.up u2 ed').up od e5).up o5 e6, by rw [mo]; exact ((u5.up u2 ed').up od e5).up o5 e6, acc1 ++ [y'], ds1 ++ [dv], upd_same, by simp; omega, by unfold Dms; rw [mo]; exact hds.app (.cons hy .nil), ?_⟩
                · rw [upd_ne (ne_of_none hb hD)]; exact e26.1 b u hb hx
                · by_cases ea : a = Dl
                  · subst ea; exact ⟨_, upd_same, rfl⟩
                  · rw [upd_ne ea]; exact o6.2.2 a ha
                · have : a ≠ Dl := by
                    rintro rfl
                    simp [Mi.also] at z
                  rw [upd_ne this]
                  exact e6.1 a o (st5 a o h z) (o5.x z)
                · exact M.wp_mono (fun xs h => by simpa using h) (fun _ _ h => h) _ ((M.wp_bind _).mp w6)
          · have ej : j = es.length := by omega
            subst ej
            refine .inl ⟨wk1.stops Hc (hG1' _ Hc u), ?_⟩
            obtain ⟨u1, u2, u3, u4, u5, acc1, ds1, u6, u7, u8, u9⟩ := u
            rw [List.drop_length] at u9
            refine ⟨u1, u2, u4, acc1, ds1, u6, by omega, u8, ?_⟩
            exact u9
    · have ei : i = ds.length := by omega
      subst ei
      refine .inl ⟨wk.stops Ha (hG' _ Ha q), ?_⟩
      obtain ⟨q1, q2, q3, acc, ds', q4, q5, q6, q7⟩ := q
      rw [List.drop_length] at q7
      have q7' : RetPn W Y H Q (ds' ++ []) := q7
      rw [List.append_nil] at q7'
      exact q7' Dl acc Ha (e2.trans q1) (e2.free o.1 hD) q4 q6
/-- a method that may raise, where nothing may leave -/
theorem ge_methMC {te : TE} {ta : TA} {a : Env → M D} {t : Env → M (List D)} {F : List D → M D} {p : List Str → Bool} {C : Addr} {m : Str} (hp : ∀ ns C', p ns = true → W.ct ns = some C' → C' = C) (ha : GE W E te a) (ht : GA W E ta t) : GE W E (tMeth C m (spM W F) [] Cc.E0 te ta) (mMeth p m (fun ds => (F ds).calm) a t) := fun Y σ H ρ Q o e w =>
  ha.seq o e w (fun _ _ h => h) fun d x H1 e1 o1 r1 hx w1 => by
    cases d with
    | ob C' ns ds =>
      dsimp only at w1
      split at w1
      · rename_i k
        simp only [Bool.and_eq_true] at k
        have hx' := hx
        obtain ⟨x, dx, fs, rfl, hx1, rfl, _⟩ := ob_at hp k.1 hx
        refine ⟨x, dx, fs, rfl, hx1, lookup_no k.2, ht.seq (Er := ErrP W E H) o1 r1 w1 (fun _ _ h => h.up e1) fun es vs H2 e2 o2 r2 hv w2 => ⟨Y, _, o2, by rw [List.append_nil]; exact .cons (hx'.up o1 e2) hv, M.wp_mono (fun d hd => hd.up (e1.trans e2)) (fun _ _ h => h.elim) _ (M.wp_calm (E' := fun _ _ => False) _ w2)⟩⟩
      · exact w1.elim
    | _ => exact w1.elim
end
end Mi

/-! x = {k: v for ..} on one line, x a local: the store comes before the block's names go -/
namespace Cc
open PySem PySem.Spec L2 PyProof.Rows
section
variable {X : Cx}
theorem ps_setDc {i : Nat} {y : Str} {py : Pos} {kx vx tg iter : Expr} {ifs : List Expr} {scope : Scope} {own : List (Str × Nat)} {pos spos : Pos} {wi : TI} {g : TG} {tt : TT} {tk tv : TE} (hc : X.calm = true) (hN : X.N.Nodup) (hy : X.N[i]? = some y) (hyl : X.env.scope.names.lookup y = some .local)
    (hsw : swapsWith (.DictComp kx vx [⟨tg, iter, ifs, 0⟩] scope pos) (some (.Name y py)) spos.line X.env = pure true) (hi : PI X tg iter wi) (ok : BlkOk X.N X.env.scope scope own)
    (hg : ∀ (s : Shared) (H : Hp) (C : Addr) (cl : List (Str × Addr)) (fp : List Addr), PG (X.blk s H scope (compEnvC scope cl C X.env) fp) tg g) (ht : ∀ (s : Shared) (H : Hp) (C : Addr) (cl : List (Str × Addr)) (fp : List Addr), PTs (X.blk s H scope (compEnvC scope cl C X.env) fp) ifs tt)
    (hk : ∀ (s : Shared) (H : Hp) (C : Addr) (cl : List (Str × Addr)) (fp : List Addr), PE (X.blk s H scope (compEnvC scope cl C X.env) fp) kx tk)
    (hv : ∀ (s : Shared) (H : Hp) (C : Addr) (cl : List (Str × Addr)) (fp : List Addr), PE (X.blk s H scope (compEnvC scope cl C X.env) fp) vx tv) (hs : ∀ x, foldedSetIterable iter X.env x = pure x := by intro _; rfl) :
    PS X (.Assign [.Name y py] (.DictComp kx vx [⟨tg, iter, ifs, 0⟩] scope pos) spos) (tAsg (tDc wi g tt tk tv (own.map (·.2))) (gName i)) := by
  refine ⟨fun pins s σ H D I h => ?_⟩
  rw [exec_Assign_Name_used _ _ _ _ hsw]
  refine wpAny_bind (wpAny_standAt (wpAny_bind ?_))
  show wpAny _ X.A (do let _ ← comprehension (.DictComp kx vx [⟨tg, iter, ifs, 0⟩] scope pos) scope X.env (firstIterPos [⟨tg, iter, ifs, 0⟩] pos) newDict false (eval iter X.env) (some (assign (.Name y py) X.env))) _ _ s
  have run := dc_core (Q := fun x H1 => gName i x σ H1 D.nx) (use := some (assign (.Name y py) X.env)) (Qf := fun _ s' => SP X pins D .next s') (pos := pos) (pos' := firstIterPos [⟨tg, iter, ifs, 0⟩] pos) hc hN I hi ok hg ht hk hv hs h fun L C s' m H' I' q hn f => by
    show wpAny _ _ (assign (.Name y py) X.env (.ref L)) _ _ _
    refine wpAny_assign_Name (store_ok2 (v := V.ref L) I' hN hy (.inl hyl) rfl (fun s2 I2 hst => ?_) (.inr hyl))
    obtain ⟨a, sb, ha⟩ := hst
    obtain ⟨f0, f1, f2, f3, f4, f5⟩ := f
    have ne : C ≠ a := ha.elim (fun z => z ▸ f1) fun z e => f4 y a z e.symm
    exact ⟨m, hn.sameBut sb ne, fun h3 sb3 => ⟨_, H', I2.turned (t' := s2.toks) (fun b o hb e => (sb3.2 b hb).trans e) f0 f1 f3 f4 f5, q⟩⟩
  exact wpAny_bind (thn run fun _ s' hq => wpAny_pure (wpAny_pure hq))
theorem sw_trueD {kx vx : Expr} {gs : List Comprehension} {scope : Scope} {pos py : Pos} {y : Str} {l : Nat} {env : Env} (hk : env.scope.kind = .function) (hy : env.scope.names.lookup y = some .local) (hl : (py.line == pos.line) = true)
    (ha : (scope.names.any fun (n, k) => n == y && (k == .local || k == .cell)) = false) : swapsWith (.DictComp kx vx gs scope pos) (some (.Name y py)) l env = pure true := by
  have ky : env.kindOf y = some .local := hy
  have hb : env.blockKind = .function := by
    unfold Env.blockKind
    rw [hk]
    rfl
  unfold swapsWith
  simp only [hb, ky, ha, Expr.pos, hl]
  rfl
end
end Cc

/-! Mi: dicts of one's own, whose keys are ints and texts -/
namespace Mi
open PySem L2 Cc
abbrev DK := List (Key × D)
theorem room1 {n : Nat} (h : n + 65 < cLine) : n + 1 < cLine := by omega
def keyD : D → Option Key
  | .int i => some (.inl i)
  | .str x => some (.inr x)
  | _ => none
def valD (kvs : DK) (k : Key) : Option D := (kvs.find? fun kv => decide (kv.1 = k)).map (·.2)
def putD (kvs : DK) (k : Key) (d : D) : DK := if (kvs.any fun kv => decide (kv.1 = k)) = true then kvs.map (fun kv => if kv.1 = k then (kv.1, d) else kv) else kvs ++ [(k, d)]
def dkAt (ρ : Env) (i : Nat) : M DK := match ρ[i]? with
  | some (.dkR kvs) => .ret kvs
  | _ => .bad
def mDGet (i : Nat) (a : Env → M D) : Env → M D := fun ρ => (dkAt ρ i).bind fun kvs => (a ρ).bind fun d => (M.ofO (keyD d)).bind fun k => M.ofO (valD kvs k)
def mDIn (i : Nat) (neg : Bool) (a : Env → M D) : Env → M D := fun ρ => (a ρ).bind fun d => (dkAt ρ i).bind fun kvs => (M.ofO (keyD d)).bind fun k => .ret (.bl (neg.xor (valD kvs k).isSome))
def dcGo (p : Pat) (c : Env → M Bool) (ek ev : Env → M D) (ρ : Env) : List D → DK → M DK
  | [], acc => .ret acc
  | d :: ds, acc => match p d ρ with
    | none => .bad
    | some ρ1 => (c ρ1).bind fun b => if b then (ek ρ1).bind fun y => (ev ρ1).bind fun z => (M.ofO (keyD y)).bind fun k => if acc.length < 100000 then dcGo p c ek ev ρ ds (putD acc k z) else .bad else dcGo p c ek ev ρ ds acc
def mDc (mi : Env → M (List D)) (p : Pat) (c : Env → M Bool) (ek ev : Env → M D) (vs : List Nat) : Env → M DK := fun ρ => (mi ρ).bind fun ds => dcGo p c ek ev (wipeE ρ vs) ds []
/-- i = {..} -/
def sOwnK (i : Nat) (m : Env → M DK) : Env → M Fl := fun ρ => (m ρ).bind fun kvs => .ret (.nx (ρ.set i (.dk kvs)))
def sDNew (i : Nat) : Env → M Fl := fun ρ => .ret (.nx (ρ.set i (.dk [])))
/-- d[k] = e: e first -/
def sDPutM (i : Nat) (mk m : Env → M D) : Env → M Fl := fun ρ => match ρ[i]? with
  | some (.dk kvs) => (m (vB ρ)).bind fun d => (mk (vB ρ)).bind fun y => (M.ofO (keyD y)).bind fun k => if ok1 d = true ∧ kvs.length < 100000 then .ret (.nx (ρ.set i (.dk (putD kvs k d)))) else .bad
  | _ => .bad
section
variable {K : Fg} {W : Wd K} {E : XK} {Hm : Hp}
theorem key_v {v : V} {d : D} {k : Key} (h : Dn K Hm v d) (e : keyD d = some k) : v = kV k := by
  cases h with
  | int i => cases e; rfl
  | str x => cases e; rfl
  | _ => cases e
abbrev zipD (kvs : DK) (vs : List V) : List (Key × V) := (kvs.map (·.1)).zip vs
theorem val_some {k : Key} {d : D} : ∀ {kvs : DK} {vs : List V}, Dns K Hm vs (kvs.map (·.2)) → valD kvs k = some d → ∃ v, valV (zipD kvs vs) k = some v ∧ Dn K Hm v d
  | [], _, _, e => by cases e
  | (a, x) :: r, _, h, e => by
    cases h with
    | @cons v vs _ _ h1 h2 =>
      by_cases c : a = k
      · refine ⟨v, valV_pos (p := (a, v)) c, ?_⟩
        simp [valD, List.find?_cons, c] at e
        rw [← e]; exact h1
      · obtain ⟨w, q1, q2⟩ := val_some h2 (show valD r k = some d by simpa [valD, List.find?_cons, c] using e)
        exact ⟨w, (valV_neg (p := (a, v)) c).trans q1, q2⟩
theorem val_is {k : Key} : ∀ {kvs : DK} {vs : List V}, Dns K Hm vs (kvs.map (·.2)) → (valV (zipD kvs vs) k).isSome = (valD kvs k).isSome
  | [], _, h => by cases h; rfl
  | (a, x) :: r, _, h => by
    cases h with
    | @cons v vs _ _ h1 h2 =>
      by_cases c : a = k
      · have e1 : valV (zipD ((a, x) :: r) (v :: vs)) k = some v := valV_pos (p := (a, v)) c
        have e2 : valD ((a, x) :: r) k = some x := by simp [valD, List.find?_cons, c]
        rw [e1, e2]; rfl
      · have e1 : valV (zipD ((a, x) :: r) (v :: vs)) k = valV (zipD r vs) k := valV_neg (p := (a, v)) c
        have e2 : valD ((a, x) :: r) k = valD r k := by simp [valD, List.find?_cons, c]
        rw [e1, e2]; exact val_is h2
theorem any_is {k : Key} : ∀ {kvs : DK} {vs : List V}, Dns K Hm vs (kvs.map (·.2)) → ((zipD kvs vs).any fun kv => decide (kv.1 = k)) = kvs.any fun kv => decide (kv.1 = k)
  | [], _, h => by cases h; rfl
  | (a, x) :: r, _, h => by
    cases h with
    | @cons v vs _ _ h1 h2 =>
      show (decide (a = k) || (zipD r vs).any _) = (decide (a = k) || r.any _)
      rw [any_is h2]
theorem map_is {k : Key} {v0 : V} {d0 : D} (h0 : Dn K Hm v0 d0) : ∀ {kvs : DK} {vs : List V}, Dns K Hm vs (kvs.map (·.2)) → ∃ ws, (zipD kvs vs).map (fun kv => if kv.1 = k then (kv.1, v0) else kv) = zipD (kvs.map fun kv => if kv.1 = k then (kv.1, d0) else kv) ws ∧ Dns K Hm ws ((kvs.map fun kv => if kv.1 = k then (kv.1, d0) else kv).map (·.2))
  | [], _, h => by cases h; exact ⟨[], rfl, .nil⟩
  | (a, x) :: r, _, h => by
    cases h with
    | @cons v vs _ _ h1 h2 =>
      obtain ⟨ws, q1, q2⟩ := map_is h0 h2
      by_cases c : a = k
      · refine ⟨v0 :: ws, ?_, ?_⟩
        · simp only [zipD, List.map_cons, List.zip_cons_cons, if_pos c] at q1 ⊢
          rw [q1]
        · simp only [List.map_cons, if_pos c]
          exact .cons h0 q2
      · refine ⟨v :: ws, ?_, ?_⟩
        · simp only [zipD, List.map_cons, List.zip_cons_cons, if_neg c] at q1 ⊢
          rw [q1]
        · simp only [List.map_cons, if_neg c]
          exact .cons h1 q2
theorem put_is {k : Key} {v0 : V} {d0 : D} (h0 : Dn K Hm v0 d0) {kvs : DK} {vs : List V} (h : Dns K Hm vs (kvs.map (·.2))) : ∃ ws, putK (zipD kvs vs) k v0 = zipD (putD kvs k d0) ws ∧ Dns K Hm ws ((putD kvs k d0).map (·.2)) := by
  unfold putK putD
  rw [any_is h]
  by_cases c : (kvs.any fun kv => decide (kv.1 = k)) = true
  · rw [if_pos c, if_pos c]; exact map_is h0 h
  · rw [if_neg c, if_neg c]
    refine ⟨vs ++ [v0], ?_, by rw [List.map_append]; exact h.app (.cons h0 .nil)⟩
    have hl := h.length
    rw [List.length_map] at hl
    unfold zipD
    rw [List.map_append, List.zip_append (by simp [hl])]
    rfl
theorem dkAt_wp {ρ : Env} {i : Nat} {R : DK → Prop} {Er} (h : (dkAt ρ i).wp R Er) : ∃ kvs, ρ[i]? = some (.dkR kvs) ∧ R kvs := by
  unfold dkAt at h
  split at h
  · rename_i kvs e; exact ⟨kvs, e, h⟩
  · exact h.elim
theorem dk_len {kvs : DK} {vs : List V} (h : Dns K Hm vs (kvs.map (·.2))) : (zipD kvs vs).length = kvs.length := by
  have := h.length
  rw [List.length_map] at this
  simp [zipD, this]
/-- d[k], d a dict of one's own -/
theorem ge_dget {i : Nat} {te : TE} {a : Env → M D} (ha : GE W E te a) : GE W E (tDGet (tVar i) te) (mDGet i a) := fun Y σ H ρ Q o e w => by
  obtain ⟨kvs, hi, w1⟩ := dkAt_wp ((M.wp_bind _).mp w)
  obtain ⟨l, vs, h1, h2, h3⟩ := e.2.2.2 i kvs hi
  refine ⟨.ref l, h1, ha.seq o e w1 (fun _ _ h => h) fun d y H1 e1 o1 r1 hy w2 => ?_⟩
  obtain ⟨k, hk, w3⟩ := M.wp_ofO ((M.wp_bind _).mp w2)
  obtain ⟨z, hz, q⟩ := M.wp_ofO w3
  obtain ⟨l', vs', g1, g2, g3⟩ := r1.2.2.2 i kvs hi
  rw [h1] at g1
  cases g1
  obtain ⟨v, q1, q2⟩ := val_some g3 hz
  have := key_v hy hk
  subst this
  exact ⟨l, v, rfl, by rw [← q1]; exact DGet.k (mask_le _ _ g2), q v H1 e1 q2⟩
theorem ge_din {i : Nat} {te : TE} {a : Env → M D} (ha : GE W E te a) : GE W E (tDIn te (tVar i)) (mDIn i false a) := fun Y σ H ρ Q o e w =>
  ha.seq o e w (fun _ _ h => h) fun d y H1 e1 o1 r1 hy w2 => by
    obtain ⟨kvs, hi, w1⟩ := dkAt_wp ((M.wp_bind _).mp w2)
    obtain ⟨k, hk, w3⟩ := M.wp_ofO ((M.wp_bind _).mp w1)
    obtain ⟨l, vs, h1, h2, h3⟩ := r1.2.2.2 i kvs hi
    have := key_v hy hk
    subst this
    exact ⟨.ref l, h1, l, _, rfl, DGet.k (mask_le _ _ h2), by rw [val_is h3]; exact w3 _ H1 e1 (by simpa using Cc.Dn.bl _)⟩
theorem ge_dnin {i : Nat} {te : TE} {a : Env → M D} (ha : GE W E te a) : GE W E (tDNotIn te (tVar i)) (mDIn i true a) := fun Y σ H ρ Q o e w =>
  ha.seq o e w (fun _ _ h => h) fun d y H1 e1 o1 r1 hy w2 => by
    obtain ⟨kvs, hi, w1⟩ := dkAt_wp ((M.wp_bind _).mp w2)
    obtain ⟨k, hk, w3⟩ := M.wp_ofO ((M.wp_bind _).mp w1)
    obtain ⟨l, vs, h1, h2, h3⟩ := r1.2.2.2 i kvs hi
    have := key_v hy hk
    subst this
    exact ⟨.ref l, h1, l, _, rfl, DGet.k (mask_le _ _ h2), by rw [val_is h3]; exact w3 _ H1 e1 (by simpa using Cc.Dn.bl _)⟩
theorem gs_dput {i : Nat} {tk te : TE} {mk m : Env → M D} (hk : GE W E tk mk) (h : GE W E te m) : GS W E (sDPut (tVar i) tk te) (sDPutM i mk m) := fun Y B σ H ρ Dn ⟨L, s⟩ w => by
  unfold sDPutM at w
  split at w
  case h_2 => exact w.elim
  rename_i kvs hi
  refine h.runB s w fun d v H1 s1 hv w1 => ?_
  obtain ⟨l, vs, h1, h2, h3, h4⟩ := s1.sl i _ hi
  refine ⟨.ref l, h1, hk.seq s1.ok s1.envB w1 (fun _ _ h => h.at' s1) fun y u H2 e2 o2 r2 hu w2 => ?_⟩
  have s2 := s1.up e2
  obtain ⟨k, hkk, w3⟩ := M.wp_ofO ((M.wp_bind _).mp w2)
  split at w3
  case isFalse => exact w3.elim
  rename_i ko
  obtain ⟨l', vs', g1, g2, g3, g4⟩ := s2.sl i _ hi
  rw [h1] at g1
  cases g1
  have ek := key_v hu hkk
  subst ek
  have hv2 := ok1_see s2 (hv.up s1.ok e2) ko.1
  obtain ⟨ws, p1, p2⟩ := put_is (k := k) hv2 g4
  have hl := dk_len g4
  refine ⟨l, _, rfl, DPut.k g3 (by rw [hl, sizeLine_eq]; omega), w3 σ _ ⟨L, s2.putO g2 g3 rfl rfl ⟨l, ws, h1, g2, by rw [upd_same, p1], ?_⟩⟩⟩
  unfold Dms
  rw [mask_off (YL_l g2)]
  exact p2
/-- a new dict in a slot -/
theorem SR.ownK {Y : Addr → Bool} {B : Bases} {σ : L2.St} {H H' : Hp} {ρ : Env} {L : List (Nat × Addr)} (s : SR W Y B σ H ρ L) (i : Nat) {p : Addr} {vs : List V} {kvs : DK} (e : Ext W H H') (hp : H p = none) (hx : H' p = some (.dK (zipD kvs vs))) (hd : Dms W (also (YL Y L) p) H' vs (kvs.map (·.2))) : SR W Y B (σ.set i (some (.ref p))) H' (ρ.set i (.dk kvs)) ((i, p) :: L) where
  ok := s.ok.ext e
  bs := fun k hk => ⟨(s.bs k hk).1, (s.bs k hk).2.trans (.ext e (s.bs k hk).1)⟩
  len := by simp [s.len]
  fre := fun q hq => by
    rcases List.mem_cons.mp hq with rfl | hq
    · refine ⟨fun k hk => ?_, W.new s.ok.1 hp, s.ok.fresh hp, _, hx, rfl⟩
      cases z : k.2 p with
      | true => exact .inr rfl
      | false =>
        refine .inl ?_
        cases y : k.1 p with
        | none => rfl
        | some o => rw [(s.bs k hk).2 p o y z] at hp; cases hp
    · obtain ⟨h1, h2, h3, ys, hy, ho⟩ := s.fre q hq
      exact ⟨h1, h2, h3, ys, e.1 _ _ hy (s.lx hq), ho⟩
  nd := by
    rw [List.map_cons, List.nodup_cons]
    refine ⟨fun z => ?_, s.nd⟩
    obtain ⟨q, hq, e⟩ := List.mem_map.mp z
    obtain ⟨_, _, _, ys, hy, _⟩ := s.fre q hq
    rw [show q.2 = p from e, hp] at hy
    cases hy
  sl := fun j t ht => by
    rw [YL_also]
    have hs : Same (mask W (YL Y L) H) (mask W (also (YL Y L) p) H') := mask_go (.ext e s.okL.2.1) fun a ha => by
      by_cases ea : a = p
      · subst ea; exact .inr hp
      · exact .inl (by simpa [also, ea] using ha)
    rcases getElem?_set' ht with ⟨rfl, hl, rfl⟩ | ⟨hne, h⟩
    · exact ⟨p, vs, by simp [s.len, hl], by simp, hx, hd⟩
    · have q := s.sl j t h
      have e' : (σ.set i (some (.ref p)))[j]? = σ[j]? := by simp [List.getElem?_set, hne]
      cases t with
      | no => trivial
      | dat d' => obtain ⟨w, h1, h2⟩ := q; exact ⟨w, by rw [e']; exact h1, Dn.up h2 hs⟩
      | own ds => obtain ⟨l, ys, h1, h2, h3, h4⟩ := q; exact ⟨l, ys, by rw [e']; exact h1, List.mem_cons_of_mem _ h2, e.1 _ _ h3 (s.lx h2), Dns.up h4 hs⟩
      | dk ds => obtain ⟨l, ys, h1, h2, h3, h4⟩ := q; exact ⟨l, ys, by rw [e']; exact h1, List.mem_cons_of_mem _ h2, e.1 _ _ h3 (s.lx h2), Dns.up h4 hs⟩
      | dkR _ => exact q.elim
      | slf k C ns ds => obtain ⟨x2, dx, fs, h1, hS, h2, h3, h4, h5, h6⟩ := q; exact ⟨x2, dx, fs, by rw [e']; exact h1, hS, List.mem_cons_of_mem _ h2, e.1 _ _ h3 (s.lx h2), h4, h5, Dns.up h6 hs⟩
      | row => exact e'.trans q
/-- i = {} -/
theorem gs_dnew {i : Nat} : GS W E (tAsg tDNewK (gName i)) (sDNew i) := fun Y B σ H ρ Dn ⟨L, s⟩ w p hp =>
  w _ _ ⟨_, s.ownK i (kvs := []) (vs := []) (.of s.ok.1 (Same.new hp)) hp upd_same .nil⟩
def RetPk (W : Wd K) (Y : Addr → Bool) (H : Hp) (Q : VK) : DK → Prop := fun kvs => ∀ p vs H', Ext W H H' → H p = none → H' p = some (.dK (zipD kvs vs)) → Dms W (also Y p) H' vs (kvs.map (·.2)) → Q (.ref p) H'
def GNK (W : Wd K) (E : XK) (te : TE) (m : Env → M DK) : Prop := ∀ Y σ H ρ Q, Ok W Y H → EnvR W (mask W Y H) σ ρ → (m ρ).wp (RetPk W Y H Q) (ErrP W E H) → te σ H Q
theorem gs_ownK {i : Nat} {te : TE} {m : Env → M DK} (h : GNK W E te m) : GS W E (tAsg te (gName i)) (sOwnK i m) := fun Y B σ H ρ Dn ⟨L, s⟩ w =>
  h _ σ H ρ _ s.okL s.envA (M.wp_mono (fun kvs (hd : FlP W Y B Dn (.nx (ρ.set i (.dk kvs)))) (p : Addr) (vs : List V) H' e hp hx hds => hd _ H' ⟨_, s.ownK i (p := p) e hp hx hds⟩) (fun _ _ h => h.at' s) _ ((M.wp_bind _).mp w))
theorem gk_dc {wi : TI} {g : TG} {tt : TT} {tk tv : TE} {vs is : List Nat} {mi : Env → M (List D)} {p : Pat} {c : Env → M Bool} {ek ev : Env → M D} (hi : GI W E wi mi) (hp : GP K g p is) (hc : GT W E tt c) (hk : GE W E tk ek) (he : GE W E tv ev) (hv : ∀ i ∈ is, i ∈ vs := by decide) : GNK W E (tDc wi g tt tk tv vs) (mDc mi p c ek ev vs) := fun Y σ H ρ Q o r w =>
  hi.seq o r w (fun _ _ h => h) fun ds w1 J G Yw H2 e2 wk hG hY Dl hD => by
    have o2 := o.ext e2
    have eD : Same H2 (upd H2 Dl (.dK [])) := Same.new hD
    have frD := W.new o2.1 hD
    have YD : Y Dl = false := o2.fresh hD
    have XDl : W.X Dl = false := o2.x YD
    have oD : Ok W (also Y Dl) (upd H2 Dl (.dK [])) := ⟨W.up o2.1 eD, fun a h => also_r a (o2.2.1 a h), fun a h => by
      by_cases ea : a = Dl
      · subst ea; exact ⟨_, upd_same, rfl⟩
      · obtain ⟨u, hu, iu⟩ := o2.2.2 a (by simpa [Mi.also, ea] using h)
        exact ⟨u, by rw [upd_ne ea]; exact hu, iu⟩⟩
    have mnew : Same (mask W Y H2) (mask W (also Y Dl) (upd H2 Dl (.dK []))) := mask_go (fun a o h _ => eD a o h) fun a ha => by
      by_cases ea : a = Dl
      · subst ea; exact .inr hD
      · exact .inl (by simpa [Mi.also, ea] using ha)
    have rr : EnvR W (mask W (also Y Dl) (upd H2 Dl (.dK []))) (wipe σ vs) (wipeE ρ vs) := env_wipe ((r.up o e2).same mnew) vs
    let Pv : Nat → Hp → Prop := fun i H' => Ext W H2 H' ∧ Ok W (also Y Dl) H' ∧ EnvR W (mask W (also Y Dl) H') (wipe σ vs) (wipeE ρ vs) ∧ ∃ acc xs, H' Dl = some (.dK (zipD acc xs)) ∧ Dms W (also Y Dl) H' xs (acc.map (·.2)) ∧ (dcGo p c ek ev (wipeE ρ vs) (ds.drop i) acc).wp (RetPk W Y H Q) (ErrP W E H)
    have hG' : ∀ i H', Pv i H' → G H' := fun i H' q => hG H' (.ext q.1 o2.2.1)
    refine ⟨fun i m H' => m = ds.length - i ∧ i ≤ ds.length ∧ Pv i H', ⟨ds.length, by simp, Nat.zero_le _, .of o2.1 eD, oD, rr, [], [], upd_same, .nil, by simpa using w1⟩, ?_⟩
    rintro i m Ha ⟨rfl, hile, q⟩
    by_cases hlt : i < ds.length
    · refine .inr ⟨wk.goes i Ha hlt (hG' i Ha q), Pv (i + 1), fun H' p' => ⟨ds.length - (i + 1), by omega, rfl, hlt, p'⟩, fun x Hb y => ?_⟩
      have y := wk.yields i Ha x Hb hlt (hG' i Ha q) y
      obtain ⟨q1, q2, q3, acc, xs, q4, q6, q7⟩ := q
      obtain ⟨eb, d, hd, hx⟩ := hY i Ha x Hb (also Y Dl) hlt (.ext q1 o2.2.1) q2 (fun a h => by
        by_cases ea : a = Dl
        · subst ea; exact .inr hD
        · exact .inl (by simpa [Mi.also, ea] using h)) y
      have eb' : Ext W Ha Hb := .of q2.1 eb
      have ob := q2.ext eb'
      have e2b := q1.trans eb'
      have rb := q3.up q2 eb'
      have hdr : ds.drop i = d :: ds.drop (i + 1) := by
        obtain ⟨hl, hg⟩ := List.getElem?_eq_some_iff.mp hd
        rw [List.drop_eq_getElem_cons hl, hg]
      rw [hdr] at q7
      unfold dcGo at q7
      cases hpd : p d (wipeE ρ vs) with
      | none => rw [hpd] at q7; exact q7.elim
      | some ρ1 =>
        rw [hpd] at q7
        refine hp _ Hb x d (wipe σ vs) (wipeE ρ vs) ρ1 _ (mask_le (W := W) (Y := also Y Dl) (H := Hb)) hx hpd fun σ1 s1 => ⟨wipe_setR s1 hv |>.trans (wipe_wipe σ vs), ?_⟩
        have r1 := rb.sets s1
        have eHb := e2.trans e2b
        refine hc.seq (Er := ErrP W E H) ob r1 q7 (fun _ _ h => h.up eHb) fun k H3 e3 o3 r3 w3 => ?_
        have l3 : H3 Dl = some (.dK (zipD acc xs)) := e3.1 _ _ (eb _ _ q4) XDl
        have d3 := (q6.up q2 eb').up ob e3
        have rb3 := rb.up ob e3
        cases k with
        | false =>
          refine (if_neg Bool.false_ne_true).mpr ⟨e2b.trans e3, o3, rb3, acc, xs, l3, d3, ?_⟩
          simpa using w3
        | true =>
          refine (if_pos rfl).mpr (hk.seq (Er := ErrP W E H) o3 r3 (by simpa using w3) (fun _ _ h => h.up (eHb.trans e3)) fun dy y' H4 e4 o4 r4 hy w4 => he.seq (Er := ErrP W E H) o4 r4 w4 (fun _ _ h => h.up ((eHb.trans e3).trans e4)) fun dz z' H5 e5 o5 r5 hz w5 => ?_)
          obtain ⟨k, hkk, w6⟩ := M.wp_ofO ((M.wp_bind _).mp w5)
          split at w6
          case isFalse => exact w6.elim
          rename_i hlen
          have ekk := key_v hy hkk
          subst ekk
          have l5 : H5 Dl = some (.dK (zipD acc xs)) := e5.1 _ _ (e4.1 _ _ l3 XDl) XDl
          have d5 := (d3.up o3 e4).up o4 e5
          obtain ⟨ws, p1, p2⟩ := put_is (k := k) hz d5
          have hl := dk_len d5
          refine ⟨_, k, rfl, l5, by rw [hl, sizeLine_eq]; omega, ?_⟩
          have mo : mask W (also Y Dl) (upd H5 Dl (.dK (putK (zipD acc xs) k z'))) = mask W (also Y Dl) H5 := mask_off (by simp [Mi.also])
          have I5 : W.I (upd H5 Dl (.dK (putK (zipD acc xs) k z'))) := W.off o5.1 frD l5 rfl
          have e25 := ((e2b.trans e3).trans e4).trans e5
          refine ⟨⟨fun b u hb hx => ?_, I5⟩, ⟨I5, o5.2.1, fun a ha => ?_⟩, by rw [mo]; exact (rb3.up o3 e4).up o4 e5, putD acc k dz, ws, by rw [upd_same, p1], by unfold Dms; rw [mo]; exact p2, w6⟩
          · rw [upd_ne (ne_of_none hb hD)]; exact e25.1 b u hb hx
          · by_cases ea : a = Dl
            · subst ea; exact ⟨_, upd_same, rfl⟩
            · rw [upd_ne ea]; exact o5.2.2 a ha
    · have ei : i = ds.length := by omega
      subst ei
      refine .inl ⟨wk.stops Ha (hG' _ Ha q), ?_⟩
      obtain ⟨q1, q2, q3, acc, xs, q4, q6, q7⟩ := q
      rw [List.drop_length] at q7
      have q7' : RetPk W Y H Q acc := q7
      exact q7' Dl xs Ha (e2.trans q1) (e2.free o.1 hD) q4 q6
end
end Mi

/-! a list comprehension out of which a call's error may go -/
namespace Cc
open PySem PySem.Spec L2 PyProof.Rows
/-- a call's error in the air of X -/
def XEb (X : Cx) (W : WX) (u : Value) (s' : Shared) : Prop :=
  ∃ (a : Addr) (B : Heap) (sI : Shared) (pins : List (Addr × Obj)) (σ : L2.St) (H : Hp) (cls : Value) (d : Option Addr),
    u = .ref a ∧ Inv X pins σ H sI ∧ (∀ b o, sI.heap.get? b = some o → b ∉ frs X.stack → B.get? b = some o) ∧ sI.heap.UpToSlots s'.heap ∧
      HandSPX.FlyingZ B X.stack a (Zc cls d) s'.heap ∧ H a = none ∧ s'.os = sI.os ∧ AllBare s'.gens ∧ W cls d σ H
section
variable {X : Cx} {pins : List (Addr × Obj)} {σ : L2.St} {H : Hp} {s s' : Shared} {W : WX} {E : XK}
theorem XEb.of_call (I : Inv X pins σ H s) (hW : ∀ cls d H', E cls d H' → W cls d σ H') {u : Value} (c : L2.CX X.prog X.w X.stack H s E u s') : XEb X W u s' := by
  obtain ⟨a, B, H', cls, d, rfl, fl, hok, ub, na, os, ag, hE⟩ := c
  obtain ⟨G, g1, g2⟩ := restrict s'.heap fun b => (B.get? b).isSome || decide (b ∈ frs X.stack)
  have st : B.StaysIn s'.heap := fl.1
  have gB : ∀ b o, B.get? b = some o → G.get? b = some o := fun b o e => by
    rw [g1 b (by simp [e])]
    exact st b o e
  have gF : ∀ b, b ∈ frs X.stack → G.get? b = s'.heap.get? b := fun b hb => g1 b (by simp [hb])
  have og : ∀ b o, G.get? b = some o → s'.heap.get? b = some o ∧ ((B.get? b).isSome = true ∨ b ∈ frs X.stack) := fun b o e => by
    cases q : ((B.get? b).isSome || decide (b ∈ frs X.stack)) with
    | false => rw [g2 b q] at e; cases e
    | true =>
      rw [g1 b q] at e
      exact ⟨e, by simpa [Bool.or_eq_true] using q⟩
  refine ⟨a, B, { s with heap := G, gens := s'.gens, drawn := s'.drawn, toks := s'.toks }, pins, σ, H', cls, d, rfl, ?_, fun b o e hb => ?_, Heap.UpToSlots.of_keeps fun b o e => (og b o e).1, fl, na, os, ag, hW _ _ _ hE⟩
  · refine I.call (ch := []) ⟨fun b o e n hb _ => gB b o (ub.keep b o e n hb), fun b o e n hb _ => ?_, fun b o e n _ => ub.free b o e n, fun b o e _ => ?_, ub.tups, ub.frzs, ub.tbls⟩ (hok.kept gB) ag (fun _ z => nomatch z)
    · obtain ⟨sl, q⟩ := ub.slot b o e hb
      exact ⟨sl, by rw [gF b hb]; exact q⟩
    · by_cases hb : b ∈ frs X.stack
      · obtain ⟨sl, q⟩ := ub.slot b o e hb
        exact ⟨_, by rw [gF b hb]; exact q⟩
      · obtain ⟨o', q⟩ := ub.there b o e hb
        exact ⟨o', gB b o' q⟩
  · obtain ⟨e', h⟩ := og b o e
    rcases h with h | h
    · obtain ⟨o', q⟩ := Option.isSome_iff_exists.mp h
      have z := st b o' q
      rw [e'] at z; cases z
      exact q
    · exact absurd h hb
/-- the block's context: a call's error may leave, as W wants it -/
abbrev blkX (X : Cx) (W : WX) (s : Shared) (H : Hp) (scope : Scope) (cenv : Env) (fp : List Addr) : Cx := { X.blk s H scope cenv fp with xe := XEb (X.blk s H scope cenv fp) W }
theorem XEb.unwish {E0 : Value → Shared → Prop} {u : Value} (h : XEb { X with xe := E0 } W u s') : XEb X W u s' := by
  obtain ⟨a, B, sI, pins, σ, H, cls, d, e, I, r⟩ := h
  exact ⟨a, B, sI, pins, σ, H, cls, d, e, ⟨⟨I.ok.mod, I.ok.kind, I.ok.glob, I.ok.blt, I.ok.above, I.ok.inj, I.ok.has, I.ok.cab, I.ok.hd, I.ok.frames, I.ok.stk, I.ok.exf, I.ok.bs, I.ok.bsz, I.ok.noex, I.ok.exfs, I.ok.funs, I.ok.frf⟩, I.os, I.bare, I.base, I.loc, I.cell, I.free, I.freeC, I.pin, I.hok, I.len⟩, r⟩
/-- what a callee may let out is taken -/
theorem passB {s0 : Shared} {H0 : Hp} {scope : Scope} {ce : Env} {fp : List Addr} (hW : ∀ cls d σ H, E cls d H → W cls d σ H) : Passes (L2.CX X.prog X.w) (blkX X W s0 H0 scope ce fp) E := fun _ σ _ _ _ _ I c =>
  (XEb.of_call I (fun cls d H' h => hW cls d σ H' h) c).unwish
theorem passBS {s0 : Shared} {H0 : Hp} {scope : Scope} {ce : Env} {fp : List Addr} (σ : L2.St) : PassesAt (L2.CX X.prog X.w) (blkX X W s0 H0 scope ce fp) σ (WE W σ) := fun _ _ _ _ _ I c =>
  (XEb.of_call I (fun cls d H' h => h) c).unwish
end
/-- a call of a def within such a block -/
theorem pe_calB {X Y : Cx} {n m : Nat} {x : Str} {ps : List Str} {sp : Sp} {e : Expr} {es : List Expr} {t : TA} {p pos : Pos} {W : WX} (K0 : Cal Y.prog Y.w Y.K Y.mg Y.base (L2.CX Y.prog Y.w) n x ps sp) (hr : Room m Y.A) (hx : ∀ σ, PassesAt (L2.CX Y.prog Y.w) Y σ (WE W σ)) (ha : PA Y (e :: es) t) (hg : Gl Y x := by rfl) (hn : n ≤ m := by decide)
    (hdb : (x == ("__debug__" : Str)) = false := by decide) (he : starEach (e :: es) Y.env = (false, eval e Y.env) :: starEach es Y.env := by rfl) (hpl : (backTo pos (starEach es Y.env)).any (·.1) = false := by rfl) : PE Y (.Call (.Name x p) (e :: es) [] pos) (tCallS sp (WE W) t) := by
  obtain ⟨f, fd, F, hm, hk, hb⟩ := K0
  exact pe_callS F (hr.mono hn) hg hm hk hb hx ha hdb he hpl
section
variable {X : Cx} {W : WX}
/-- the error goes out of the block and on in the def -/
theorem leaves_block {pins : List (Addr × Obj)} {s3 s' : Shared} {σ : L2.St} {H3 : Hp} {scope : Scope} {ce : Env} {fp : List Addr} {u : Value} {R : Result → Shared → Prop}
    (hs : X.stack = X.env :: X.outer) (hf : X.env.frame = some X.env.locals) (tk : Takes X (fun c d _ H => W c d σ H)) (I3 : Inv X pins σ H3 s3) (hW : ∀ c d σ' H, W c d σ' H → W c d σ H) (hce : ce.frame = X.env.frame) (hL : ce.locals = s3.heap.objs.size)
    (f3 : ∀ b ∈ fp, FpOk X pins H3 b ∧ b < s3.heap.objs.size) (x : XEb (X.blk s3 H3 scope ce fp) W u s')
    (hR : ∀ e s'', CompFails (model X.prog X.w) X.A X.xe ce e s'' → R (.error e) s'') :
    notedBy (model X.prog X.w) X.A ce (fun e s' => R (.error e) s') u s' := by
  obtain ⟨a, B, sI, pinsB, σB, H, cls, d, rfl, IB, nb, up, fl, na, os, ag, w⟩ := x
  have hfr : X.A.frames = some (X.env :: X.outer) := by rw [I3.ok.frames, hs]
  generalize hC : ce.locals = C at hL
  -- the ground without the block's names
  obtain ⟨B', b1, b2⟩ := restrict B fun b => decide (b ≠ C)
  obtain ⟨G, g1, g2⟩ := restrict sI.heap fun b => decide (b ≠ C)
  have b1 : ∀ b, b ≠ C → B'.get? b = B.get? b := fun b h => b1 b (by simpa using h)
  have b2 : B'.get? C = none := b2 C (by simp)
  have g1 : ∀ b, b ≠ C → G.get? b = sI.heap.get? b := fun b h => g1 b (by simpa using h)
  have g2 : G.get? C = none := g2 C (by simp)
  have bB : ∀ b o, B'.get? b = some o → B.get? b = some o ∧ b ≠ C := fun b o e => by
    by_cases h : b = C
    · rw [h, b2] at e; cases e
    · exact ⟨by rw [← b1 b h]; exact e, h⟩
  have gG : ∀ b o, G.get? b = some o → sI.heap.get? b = some o ∧ b ≠ C := fun b o e => by
    by_cases h : b = C
    · rw [h, g2] at e; cases e
    · exact ⟨by rw [← g1 b h]; exact e, h⟩
  have nC : H C = none := by
    have z : H ce.locals = none := IB.free
    rw [hC] at z; exact z
  have I7 : Inv X pins σ H sI := I3.call' (ch := fp) IB.os IB.base IB.hok IB.bare fun b hb => ⟨(f3 b hb).1.2.2.2.1, (f3 b hb).1.2.1, (f3 b hb).1.2.2.2.2.1, (f3 b hb).1.2.2.2.2.2⟩
  have fC : FpOk X pins H C := I3.fpOk (Nat.le_of_eq hL.symm) nC
  obtain ⟨f0, f1, f2, f3', f4, f5⟩ := fC
  have J : Inv X pins σ H { sI with heap := G, toks := sI.toks } := I7.turned (fun b o hb e => (g1 b hb).trans e) f0 f1 f3' f4 f5
  obtain ⟨m, hn, _⟩ := IB.loc
  have hn : sI.heap.Ns ce.locals m := hn
  have hn' : s'.heap.Ns ce.locals m := hn.upToSlots fun b o e hnf => up b o e hnf
  have flB : HandSPX.FlyingZ B' (X.env :: X.outer) a (Zc cls d) s'.heap := by
    have fl' : HandSPX.FlyingZ B (X.env :: X.outer) a (Zc cls d) s'.heap := by rw [← hs]; exact fl
    obtain ⟨x1, x2, x3, x4⟩ := fl'
    have no : ∀ b, B.get? b = none → B'.get? b = none := fun b h => by
      cases e : B'.get? b with
      | none => rfl
      | some o => rw [(bB b o e).1] at h; cases h
    refine ⟨fun b o e => x1 b o (bB b o e).1, no a x2, ?_, ?_⟩
    · have go : ∀ l : List Env, s'.heap.FunFrames B l → s'.heap.FunFrames B' l := by
        intro l
        induction l with
        | nil => exact fun _ => trivial
        | cons e l ih =>
          rintro ⟨hk, ⟨L', o, h1, h2, h3⟩, hr⟩
          exact ⟨hk, ⟨L', o, h1, no _ h2, h3⟩, ih hr⟩
      exact go _ x3
    · obtain ⟨oe, vs, T, oT, ts, he, hz, hd, h1, hnT, r⟩ := x4
      exact ⟨oe, vs, T, oT, ts, he, hz, hd, h1, no T hnT, r⟩
  show wpAny _ _ (noteFrame (.ref a) ce) _ _ _
  rw [noteFrame_env _ hce]
  refine HandSPX.looks_onZ Zc.steady hfr hf flB fun h1 hh1 up1 => hR _ _ ?_
  have hn1 : h1.Ns ce.locals m := hn'.upToSlots fun b o e hnf => up1 b o e hnf
  refine ⟨m, hn1, fun h2 m2 hn2 hs2 => ?_⟩
  obtain ⟨y1, y2, y3, y4⟩ := hh1
  obtain ⟨oe, vs, T, oT, ts, he, hz, hd, h1', hnT, hTe, hT, hdT, h3⟩ := y4
  have nCd : ∀ {b : Addr} {o : Obj} {vs : Array Value}, h1.get? b = some o → o.data = .fields vs → b ≠ ce.locals := fun {b o vs} e hd z => by
    obtain ⟨o', es, ep, ho', hd', _⟩ := hn1
    rw [z, ho'] at e; cases e
    rw [hd'] at hd; cases hd
  have he2 := (hs2.2 a (nCd he hd)).trans he
  have hT2 := (hs2.2 T (nCd hT hdT)).trans hT
  have hh2 : HandSPX.HeldZ B' (X.env :: X.outer) a (Zc cls d) X.env.locals h2 := by
    refine ⟨fun b o e => (hs2.2 b (by rw [hC]; exact (bB b o e).2)).trans (y1 b o e), y2, Heap.FunFrames.sameBut hs2 hn2 y3, oe, vs, T, oT, ts, he2, hz, hd, h1', hnT, hTe, hT2, hdT, h3⟩
  unfold PySem.passOn
  refine wpAny_bind (wpAny_field he2 hd h1' ?_)
  rw [if_neg (show ¬ ((Value.ref T == Value.none) = true) from by simp)]
  rw [hce, hf]
  refine wpAny_bind (HandSPX.setFlight_onZ hh2 fun h4 hh4 up4 => ?_)
  refine wpAny_throw (tk _ _ ⟨a, B', _, pins, σ, H, cls, d, rfl, J, fun b o e hb => ?_, ?_, ?_, na, os, ag, hW _ _ _ _ w⟩)
  · obtain ⟨q1, q2⟩ := gG b o e
    rw [b1 b q2]; exact nb b o q1 hb
  · refine Heap.UpToSlots.trans (h₂ := h2) (fun b o e hnf => ?_) up4
    obtain ⟨q1, q2⟩ := gG b o e
    obtain ⟨sl, z⟩ := (up.trans up1) b o q1 hnf
    exact ⟨sl, (hs2.2 b (by rw [hC]; exact q2)).trans z⟩
  · rw [hs]; exact .inr (.inr hh4)
theorem lc_coreX {pins : List (Addr × Obj)} {s : Shared} {σ : L2.St} {H : Hp} {Q : VK} {elt tg iter : Expr} {ifs : List Expr} {scope : Scope} {own : List (Str × Nat)} {pos pos' : Pos} {wi : TI} {g : TG} {tt : TT} {te : TE} {use : Option (Value → Sem Unit)} {Qf : Value → Shared → Prop}
    (hs0 : X.stack = X.env :: X.outer) (hf : X.env.frame = some X.env.locals) (tk : Takes X (fun c d _ H => W c d σ H)) (hW : ∀ c d σ' H, W c d σ' H → W c d σ H)
    (hc : X.calm = true) (hN : X.N.Nodup) (I : Inv X pins σ H s) (hi : PI X tg iter wi) (ok : BlkOk X.N X.env.scope scope own)
    (hg : ∀ (s : Shared) (H : Hp) (C : Addr) (cl : List (Str × Addr)) (fp : List Addr), PG (blkX X W s H scope (compEnvC scope cl C X.env) fp) tg g) (ht : ∀ (s : Shared) (H : Hp) (C : Addr) (cl : List (Str × Addr)) (fp : List Addr), PTs (blkX X W s H scope (compEnvC scope cl C X.env) fp) ifs tt)
    (he : ∀ (s : Shared) (H : Hp) (C : Addr) (cl : List (Str × Addr)) (fp : List Addr), PE (blkX X W s H scope (compEnvC scope cl C X.env) fp) elt te) (hs : ∀ x, foldedSetIterable iter X.env x = pure x)
    (h : tLc wi g tt te (own.map (·.2)) σ H Q)
    (hRR : ∀ D cenv s' m H', Inv X pins σ H' s' → Q (.ref D) H' → s'.heap.Ns cenv.locals m → FpOk X pins H' cenv.locals → compEnds (model X.prog X.w) X.A X.xe use Qf (.ref D) cenv (.ok .next) s') :
    wpAny (model X.prog X.w) X.A (comprehension (.ListComp elt [⟨tg, iter, ifs, 0⟩] scope pos) scope X.env pos' (newList []) false (eval iter X.env) use) Qf X.xe s := by
  have hfree : ∀ y ∈ scope.names, y.2 = .free → ∃ c, X.env.cells.lookup y.1 = some c := fun y hy e => by
    rcases ok.free y hy e with k | k
    · exact I.ok.has _ (.inl k)
    · exact I.ok.has _ (.inr k)
  refine comprehension_at (use := use) rfl hs (closure_ok hfree) ok.kind (fun y hy e => by rw [ok.uniq y hy, e])
    (thn (hi.run pins s σ H _ I h) fun xv s1 hx => thn hx fun itv s2 h2 => ?_)
  obtain ⟨it, fp, tn, J, H2, e, I2, T, st2, f2, q⟩ := h2
  subst e
  refine wpAny_newObj_type (newEnv_comp ?_) (by show 0 ≤ sizeLine; decide)
  generalize hD : s2.heap.objs.size = D
  have hDn : H2 D = none := I2.hok.fresh (Nat.le_of_eq hD)
  obtain ⟨W', ⟨m0, w0⟩, turn⟩ := q D hDn
  -- the new list
  generalize hs3 : ({ s2 with heap := s2.heap.push { cls := .type "list", data := .seq ([] : List Value).toArray } } : Shared) = s3
  have I3 : Inv X pins σ (upd H2 D (.lst [])) s3 := by
    rw [← hs3]
    refine I2.laid (t' := s2.toks) (fun b o e => Heap.get?_push_of_some _ e) (Nat.le_of_eq hD) ⟨Nat.zero_le _, [], 0, .nil, ?_⟩
    rw [← hD]
    exact Heap.get?_push_size _ rfl
  have h3 : s3.heap = s2.heap.push { cls := .type "list", data := .seq ([] : List Value).toArray } := by rw [← hs3]
  have sz : ∀ b ∈ fp, b < s2.heap.objs.size := fun b hb => by
    obtain ⟨o, e, _⟩ := T.obj _ _ st2 b hb
    exact Heap.lt_size e
  have f3 : ∀ b ∈ fp, FpOk X pins (upd H2 D (.lst [])) b ∧ b < s3.heap.objs.size := fun b hb => by
    have hlt := sz b hb
    refine ⟨⟨?_, (f2 b hb).2⟩, by rw [h3, Heap.size_push]; exact Nat.lt_succ_of_lt hlt⟩
    rw [upd_ne (by rw [← hD]; exact Nat.ne_of_lt hlt)]
    exact (f2 b hb).1
  have st3 : tn 0 s3.heap := T.keep _ _ _ st2 fun b _ o e => by rw [h3]; exact Heap.get?_push_of_some _ e
  have I4 := block_start I3 ok hN f3
  have pg := hg s3 (upd H2 D (.lst [])) s3.heap.objs.size (cellsFrom (s3.heap.objs.size + 1) scope.names (cloFrom X.env.cells scope.names [])) fp
  have pt := ht s3 (upd H2 D (.lst [])) s3.heap.objs.size (cellsFrom (s3.heap.objs.size + 1) scope.names (cloFrom X.env.cells scope.names [])) fp
  have pe := he s3 (upd H2 D (.lst [])) s3.heap.objs.size (cellsFrom (s3.heap.objs.size + 1) scope.names (cloFrom X.env.cells scope.names [])) fp
  show codeAny _ _ (.compStart (.ListComp elt [⟨tg, iter, ifs, 0⟩] scope pos) 0 (.ref it) (.ref D) (compEnvC scope (cellsFrom (s3.heap.objs.size + 1) scope.names (cloFrom X.env.cells scope.names [])) s3.heap.objs.size X.env)) (compEnds (model X.prog X.w) X.A X.xe use Qf (.ref D) (compEnvC scope (cellsFrom (s3.heap.objs.size + 1) scope.names (cloFrom X.env.cells scope.names [])) s3.heap.objs.size X.env)) { s3 with heap := pushCells (s3.heap.push { cls := .type "dict", data := .dict #[] }) scope.names }
  have nfp : ∀ b ∈ fp, (upd H2 D (.lst [])) b = none := fun b hb => (f3 b hb).1.1
  generalize hce : compEnvC scope (cellsFrom (s3.heap.objs.size + 1) scope.names (cloFrom X.env.cells scope.names [])) s3.heap.objs.size X.env = ce at I4 pg pt pe ⊢
  have cL : ce.locals = s3.heap.objs.size := by subst hce; rfl
  have cF : ce.frame = X.env.frame := by subst hce; rfl
  generalize hH3 : upd H2 D (.lst []) = H3 at I3 I4 pg pt pe w0 nfp f3
  generalize hs4 : ({ s3 with heap := pushCells (s3.heap.push { cls := .type "dict", data := .dict #[] }) scope.names } : Shared) = s4 at I4 ⊢
  have I4 : Inv (blkX X W s3 H3 scope ce fp) [] (wipe σ (own.map (·.2))) H3 s4 := I4.wish _
  have st4 : tn 0 s4.heap := T.keep _ _ _ st3 fun b _ o e => by rw [← hs4]; exact pushCells_keeps _ _ _ _ (Heap.get?_push_of_some _ e)
  have stat : ∀ {σ' : L2.St} {H' : Hp} {s' : Shared}, Inv (blkX X W s3 H3 scope ce fp) [] σ' H' s' → (∀ b ∈ fp, H' b = none) → ∀ b ∈ fp, FpOk (blkX X W s3 H3 scope ce fp) [] H' b := fun {σ' H' s'} I' hn b hb =>
    ⟨hn b hb, (I'.ok.exf b hb).1, I'.ok.exfs b hb, .inl hb, fun x c e => (I'.ok.exf b hb).2 x c e, fun p hp => absurd (show p ∈ ([] : List (Addr × Obj)) ++ [] from hp) (by simp)⟩
  have esc : ∀ u s', XEb (X.blk s3 H3 scope ce fp) W u s' → notedBy (model X.prog X.w) X.A ce (fun e s' => compEnds (model X.prog X.w) X.A X.xe use Qf (.ref D) ce (.error e) s') u s' := fun u s' x =>
    leaves_block (R := compEnds (model X.prog X.w) X.A X.xe use Qf (.ref D) ce) hs0 hf tk I3 hW cF cL f3 x fun e s'' h => by cases use <;> exact h
  have loop : codeAny (model X.prog X.w) X.A (.compLoop (.ListComp elt [⟨tg, iter, ifs, 0⟩] scope pos) 0 (.ref it) (.ref D) ce) (compEnds (model X.prog X.w) X.A X.xe use Qf (.ref D) ce) s4 := by
    refine compLoop_any (fun n s' => ∃ i H', Inv (blkX X W s3 H3 scope ce fp) [] (wipe σ (own.map (·.2))) H' s' ∧ tn i s'.heap ∧ (∀ b ∈ fp, H' b = none) ∧ W' i n H') ?_ m0 ⟨0, H3, I4, st4, nfp, w0⟩
    rintro n s5 ⟨i, H5, I5, st5, n5, w5⟩
    rcases turn i n H5 w5 with ⟨stop, qq⟩ | ⟨go, Nx, hNx, step⟩
    · have td := T.done (blkX X W s3 H3 scope ce fp) rfl rfl rfl hc i [] s5 _ H5 (fun _ _ => False) I5 (stat I5 n5) st5 stop
      refine thnF td fun r s6 ⟨hr, I6⟩ => ?_
      subst hr
      -- back in the def's context
      have I7 : Inv X pins σ H5 s6 := I3.call' (ch := fp) I6.os I6.base I6.hok I6.bare fun b hb => ⟨(f3 b hb).1.2.2.2.1, (f3 b hb).1.2.1, (f3 b hb).1.2.2.2.2.1, (f3 b hb).1.2.2.2.2.2⟩
      have nC : H5 s3.heap.objs.size = none := by
        have z : H5 ce.locals = none := I6.free
        rw [cL] at z
        exact z
      obtain ⟨m, hn, _⟩ := I6.loc
      have hn : s6.heap.Ns ce.locals m := hn
      exact hRR D ce s6 m H5 I7 qq hn (by rw [cL]; exact I3.fpOk (Nat.le_refl _) nC)
    · have ti := T.item (blkX X W s3 H3 scope ce fp) rfl rfl rfl hc i [] s5 _ H5 (fun _ _ => False) I5 (stat I5 n5) st5 go
      refine thnF ti fun r s6 ⟨u, hr, h6⟩ => ?_
      subst hr
      refine thnF h6 fun _ s7 ⟨x, H7, I7, r7, y7, st7, n7⟩ => ?_
      have I7' := I7.pinned (stat I7 n7) (T.obj _ _ st7)
      refine wpAny_mono (pg.run _ s7 _ H7 x u _ I7' r7 (step x H7 y7)) (fun _ s8 ⟨σ8, H8, I8, hw8, q8⟩ => ?_) esc
      refine wpAny_mono (pt.run _ s8 σ8 H8 _ I8 q8) (fun b s9 ⟨H9, I9, q9⟩ => ?_) esc
      -- the turn's end
      have fin : ∀ {s' : Shared} {H' : Hp}, Inv (blkX X W s3 H3 scope ce fp) ([] ++ pinsAt fp s7.heap) σ8 H' s' → Nx H' → ∃ m, m < n ∧ ∃ i H', Inv (blkX X W s3 H3 scope ce fp) [] (wipe σ (own.map (·.2))) H' s' ∧ tn i s'.heap ∧ (∀ b ∈ fp, H' b = none) ∧ W' i m H' := fun {s' H'} I' nx => by
        obtain ⟨m', hm, w'⟩ := hNx H' nx
        have pin' : ∀ b ∈ fp, ∀ o, s7.heap.get? b = some o → s'.heap.get? b = some o ∧ H' b = none := fun b hb o e =>
          let z := I'.pin (b, o) (List.mem_append_right _ (List.mem_append_right _ (mem_pinsAt hb e)))
          ⟨z.1, z.2.1⟩
        have hl : (wipe σ (own.map (·.2))).length = σ8.length := by rw [← hw8, wipe_length]
        refine ⟨m', hm, i + 1, H', (I'.unpinned (pins := [])).weak hl (fun j v e => ?_), T.keep _ _ _ st7 fun b hb o e => (pin' b hb o e).1, fun b hb => ?_, w'⟩
        · rw [← hw8] at e
          exact (wipe_some e).1
        · obtain ⟨o, e, _⟩ := T.obj _ _ st7 b hb
          exact (pin' b hb o e).2
      cases b with
      | false =>
        simp only [Bool.false_eq_true, if_false] at q9 ⊢
        exact fin I9 q9
      | true =>
        simp only [if_true] at q9 ⊢
        refine wpAny_mono (pe.run _ s9 σ8 H9 _ I9 q9) (fun z s10 ⟨yv, H10, I10, r10, acc, hD10, hz10, nx⟩ => ?_) esc
        exact app_ok (X := blkX X W s3 H3 scope ce fp) I10 hD10 hz10 r10 fun s11 I11 => fin I11 nx
  exact codeAny_compStart_list loop (T.self X.A 0 _ _ _ st4 loop)
/-- as a value -/
theorem pe_lcX {E : XK} {elt tg iter : Expr} {ifs : List Expr} {scope : Scope} {own : List (Str × Nat)} {pos : Pos} {wi : TI} {g : TG} {tt : TT} {te : TE} (tk : Takes X (fun c d _ H => E c d H)) (hs0 : X.stack = X.env :: X.outer) (hf : X.env.frame = some X.env.locals) (hc : X.calm = true) (hN : X.N.Nodup) (hi : PI X tg iter wi) (ok : BlkOk X.N X.env.scope scope own)
    (hg : ∀ (s : Shared) (H : Hp) (C : Addr) (cl : List (Str × Addr)) (fp : List Addr), PG (blkX X (fun c d _ H => E c d H) s H scope (compEnvC scope cl C X.env) fp) tg g) (ht : ∀ (s : Shared) (H : Hp) (C : Addr) (cl : List (Str × Addr)) (fp : List Addr), PTs (blkX X (fun c d _ H => E c d H) s H scope (compEnvC scope cl C X.env) fp) ifs tt)
    (he : ∀ (s : Shared) (H : Hp) (C : Addr) (cl : List (Str × Addr)) (fp : List Addr), PE (blkX X (fun c d _ H => E c d H) s H scope (compEnvC scope cl C X.env) fp) elt te) (hs : ∀ x, foldedSetIterable iter X.env x = pure x := by intro _; rfl) :
    PE X (.ListComp elt [⟨tg, iter, ifs, 0⟩] scope pos) (tLc wi g tt te (own.map (·.2))) := by
  refine ⟨fun pins s σ H Q I h => ?_⟩
  rw [eval_ListComp]
  refine lc_coreX hs0 hf tk (fun _ _ _ _ h => h) hc hN I hi ok hg ht he hs h fun D cenv s' m H' I' q hn f => ⟨m, hn, fun h'' sb => ?_⟩
  obtain ⟨f0, f1, f2, f3, f4, f5⟩ := f
  exact ⟨.ref D, H', I'.turned (t' := s'.toks) (fun b o hb e => (sb.2 b hb).trans e) f0 f1 f3 f4 f5, rfl, q⟩
/-- name = [..] on one line, the name a local -/
theorem ps_setLcX {E : XK} {i : Nat} {y : Str} {py : Pos} {elt tg iter : Expr} {ifs : List Expr} {scope : Scope} {own : List (Str × Nat)} {pos spos : Pos} {wi : TI} {g : TG} {tt : TT} {te : TE} (tk : Takes X (fun c d _ H => E c d H)) (hs0 : X.stack = X.env :: X.outer) (hf : X.env.frame = some X.env.locals) (hc : X.calm = true) (hN : X.N.Nodup) (hy : X.N[i]? = some y) (hyl : X.env.scope.names.lookup y = some .local)
    (hsw : swapsWith (.ListComp elt [⟨tg, iter, ifs, 0⟩] scope pos) (some (.Name y py)) spos.line X.env = pure true) (hi : PI X tg iter wi) (ok : BlkOk X.N X.env.scope scope own)
    (hg : ∀ (s : Shared) (H : Hp) (C : Addr) (cl : List (Str × Addr)) (fp : List Addr), PG (blkX X (fun c d _ H => E c d H) s H scope (compEnvC scope cl C X.env) fp) tg g) (ht : ∀ (s : Shared) (H : Hp) (C : Addr) (cl : List (Str × Addr)) (fp : List Addr), PTs (blkX X (fun c d _ H => E c d H) s H scope (compEnvC scope cl C X.env) fp) ifs tt)
    (he : ∀ (s : Shared) (H : Hp) (C : Addr) (cl : List (Str × Addr)) (fp : List Addr), PE (blkX X (fun c d _ H => E c d H) s H scope (compEnvC scope cl C X.env) fp) elt te) (hs : ∀ x, foldedSetIterable iter X.env x = pure x := by intro _; rfl) :
    PS X (.Assign [.Name y py] (.ListComp elt [⟨tg, iter, ifs, 0⟩] scope pos) spos) (tAsg (tLc wi g tt te (own.map (·.2))) (gName i)) := by
  refine ⟨fun pins s σ H D I h => ?_⟩
  rw [exec_Assign_Name_used _ _ _ _ hsw]
  refine wpAny_bind (wpAny_standAt (wpAny_bind ?_))
  show wpAny _ X.A (do let _ ← comprehension (.ListComp elt [⟨tg, iter, ifs, 0⟩] scope pos) scope X.env (firstIterPos [⟨tg, iter, ifs, 0⟩] pos) (newList []) false (eval iter X.env) (some (assign (.Name y py) X.env))) _ _ s
  have h : tLc wi g tt te (own.map (·.2)) σ H (fun x H1 => gName i x σ H1 D.nx) := h
  refine wpAny_bind (thn (lc_coreX (Qf := fun _ s' => SP X pins D .next s') hs0 hf tk (fun _ _ _ _ h => h) hc hN I hi ok hg ht he hs h fun L cenv s' m H' I' q hn f => ?_) fun _ s' hq => wpAny_pure (wpAny_pure hq))
  show wpAny _ _ (assign (.Name y py) X.env (.ref L)) _ _ _
  refine wpAny_assign_Name (store_ok2 (v := V.ref L) I' hN hy (.inl hyl) rfl (fun s2 I2 ⟨a, sb, ha⟩ => ?_) (.inr hyl))
  obtain ⟨f0, f1, f2, f3, f4, f5⟩ := f
  have haC : cenv.locals ≠ a := by
    rcases ha with z | z
    · rw [z]; exact f1
    · exact fun e => f4 y a z e.symm
  refine ⟨m, hn.sameBut sb haC, fun h3 sb3 => ?_⟩
  exact ⟨_, H', I2.turned (t' := s2.toks) (fun b o hb e => (sb3.2 b hb).trans e) f0 f1 f3 f4 f5, q⟩
end
end Cc

namespace My
open PySem L2 Cc
abbrev topS (i : Nat) : Stmt := PySem.Challenge.pw_coldcrates_k47_codes_rejected.main.body.getD i (.Pass ⟨0, 0, 0, 0⟩)
abbrev s__wall : Stmt := topS 0
abbrev s_is_number : Stmt := topS 8
theorem sc_is_number : FnScope ["value", "low", "high"] ["value", "low", "high"] (defScope s_is_number) := ⟨rfl, rfl, rfl, by decide +kernel, rfl, by decide +kernel, by decide +kernel⟩
abbrev s_is_word : Stmt := topS 9
theorem sc_is_word : FnScope ["value", "letter"] ["value"] (defScope s_is_word) := ⟨rfl, rfl, rfl, by decide +kernel, rfl, by decide +kernel, by decide +kernel⟩
abbrev s_doors_fit : Stmt := topS 17
theorem sc_doors_fit : FnScope ["doors", "door"] ["doors"] (defScope s_doors_fit) := ⟨rfl, rfl, rfl, by decide +kernel, rfl, by decide +kernel, by decide +kernel⟩
abbrev s_is_door : Stmt := topS 18
theorem sc_is_door : FnScope ["value"] ["value"] (defScope s_is_door) := ⟨rfl, rfl, rfl, by decide +kernel, rfl, by decide +kernel, by decide +kernel⟩
abbrev s_crates_fit : Stmt := topS 19
theorem sc_crates_fit : FnScope ["crates", "size", "one", "other", "name"] ["crates", "size"] (defScope s_crates_fit) := ⟨rfl, rfl, rfl, by decide +kernel, rfl, by decide +kernel, by decide +kernel⟩
abbrev s_places_behind : Stmt := topS 20
theorem sc_places_behind : FnScope ["doors", "found", "begin", "door", "end"] ["doors"] (defScope s_places_behind) := ⟨rfl, rfl, rfl, by decide +kernel, rfl, by decide +kernel, by decide +kernel⟩
abbrev s_encode_store : Stmt := topS 26
theorem sc_encode_store : FnScope ["store", "values", "warmth", "places", "name", "letter"] ["store"] (defScope s_encode_store) := ⟨rfl, rfl, rfl, by decide +kernel, rfl, by decide +kernel, by decide +kernel⟩
abbrev s_checksum_of : Stmt := topS 27
theorem sc_checksum_of : FnScope ["values", "checksum", "value"] ["values"] (defScope s_checksum_of) := ⟨rfl, rfl, rfl, by decide +kernel, rfl, by decide +kernel, by decide +kernel⟩
abbrev s_decode_store : Stmt := topS 29
theorem sc_decode_store : FnScope ["values", "reader", "doors", "door_count", "_", "warmth", "names", "crate_count"] ["values"] (defScope s_decode_store) := ⟨rfl, rfl, rfl, by decide +kernel, rfl, by decide +kernel, by decide +kernel⟩
abbrev s_read_word : Stmt := topS 30
theorem sc_read_word : FnScope ["reader", "count", "_"] ["reader"] (defScope s_read_word) := ⟨rfl, rfl, rfl, by decide +kernel, rfl, by decide +kernel, by decide +kernel⟩
abbrev s__law_taken : Stmt := topS 32
theorem sc__law_taken : FnScope ["_law_row", "_law_many", "_law_found", "_law_cell"] ["_law_row", "_law_many"] (defScope s__law_taken) := ⟨rfl, rfl, rfl, by decide +kernel, rfl, by decide +kernel, by decide +kernel⟩
abbrev s__law_store : Stmt := topS 33
theorem sc__law_store : FnScope ["_law_row", "_law_rows", "_law_many", "_law_k", "_law_places", "_law_one"] ["_law_row"] (defScope s__law_store) := ⟨rfl, rfl, rfl, by decide +kernel, rfl, by decide +kernel, by decide +kernel⟩
abbrev s__law_checked : Stmt := topS 34
theorem sc__law_checked : FnScope ["_law_items", "_law_check", "_law_item"] ["_law_items"] (defScope s__law_checked) := ⟨rfl, rfl, rfl, by decide +kernel, rfl, by decide +kernel, by decide +kernel⟩
abbrev s__law_offset : Stmt := topS 35
theorem sc__law_offset : FnScope ["_law_values", "e"] ["_law_values"] (defScope s__law_offset) := ⟨rfl, rfl, rfl, by decide +kernel, rfl, by decide +kernel, by decide +kernel⟩
abbrev s_law : Stmt := topS 36
theorem sc_law : FnScope ["_law_script", "_law_row", "_law_turn", "_law_values", "_law_k", "_law_last", "_law_bad", "_law_base", "_law_pairs", "_law_item", "_law_at"] ["_law_script"] (defScope s_law) := ⟨rfl, rfl, rfl, by decide +kernel, rfl, by decide +kernel, by decide +kernel⟩
abbrev s_InvalidStore___init__ : Stmt := inClass (topS 3) 0
abbrev s_DecodeError___init__ : Stmt := inClass (topS 4) 0
abbrev s_Store___init__ : Stmt := inClass (topS 16) 0
theorem sc_Store___init__ : FnScope ["self", "doors", "crates", "places"] ["self", "doors", "crates"] (defScope s_Store___init__) := ⟨rfl, rfl, rfl, by decide +kernel, rfl, by decide +kernel, by decide +kernel⟩
abbrev s_Store___eq__ : Stmt := inClass (topS 16) 1
theorem sc_Store___eq__ : FnScope ["self", "other"] ["self", "other"] (defScope s_Store___eq__) := ⟨rfl, rfl, rfl, by decide +kernel, rfl, by decide +kernel, by decide +kernel⟩
abbrev s_Store___len__ : Stmt := inClass (topS 16) 2
theorem sc_Store___len__ : FnScope ["self"] ["self"] (defScope s_Store___len__) := ⟨rfl, rfl, rfl, by decide +kernel, rfl, by decide +kernel, by decide +kernel⟩
abbrev s_Store_doors : Stmt := inClass (topS 16) 3
theorem sc_Store_doors : FnScope ["self"] ["self"] (defScope s_Store_doors) := ⟨rfl, rfl, rfl, by decide +kernel, rfl, by decide +kernel, by decide +kernel⟩
abbrev s_Store_crates : Stmt := inClass (topS 16) 4
theorem sc_Store_crates : FnScope ["self"] ["self"] (defScope s_Store_crates) := ⟨rfl, rfl, rfl, by decide +kernel, rfl, by decide +kernel, by decide +kernel⟩
abbrev s_Store_size : Stmt := inClass (topS 16) 5
theorem sc_Store_size : FnScope ["self"] ["self"] (defScope s_Store_size) := ⟨rfl, rfl, rfl, by decide +kernel, rfl, by decide +kernel, by decide +kernel⟩
abbrev s_Store_door_of : Stmt := inClass (topS 16) 6
theorem sc_Store_door_of : FnScope ["self", "place"] ["self", "place"] (defScope s_Store_door_of) := ⟨rfl, rfl, rfl, by decide +kernel, rfl, by decide +kernel, by decide +kernel⟩
abbrev s_Store_places_of : Stmt := inClass (topS 16) 7
theorem sc_Store_places_of : FnScope ["self", "door"] ["self", "door"] (defScope s_Store_places_of) := ⟨rfl, rfl, rfl, by decide +kernel, rfl, by decide +kernel, by decide +kernel⟩
abbrev s_Reader___init__ : Stmt := inClass (topS 28) 0
theorem sc_Reader___init__ : FnScope ["self", "values"] ["self", "values"] (defScope s_Reader___init__) := ⟨rfl, rfl, rfl, by decide +kernel, rfl, by decide +kernel, by decide +kernel⟩
abbrev s_Reader_read : Stmt := inClass (topS 28) 1
theorem sc_Reader_read : FnScope ["self", "low", "high"] ["self", "low", "high"] (defScope s_Reader_read) := ⟨rfl, rfl, rfl, by decide +kernel, rfl, by decide +kernel, by decide +kernel⟩
abbrev s_Reader_read_end : Stmt := inClass (topS 28) 2
theorem sc_Reader_read_end : FnScope ["self", "checksum"] ["self"] (defScope s_Reader_read_end) := ⟨rfl, rfl, rfl, by decide +kernel, rfl, by decide +kernel, by decide +kernel⟩
end My

namespace My
open PySem L2 RZ Cc Mi
def errNames : List Str := ["DecodeError", "InvalidStore"]
abbrev storeNs : List Str := ["_places", "_size", "_doors", "_crates"]
def stP (ns : List Str) : Bool := !ns.isEmpty && ns.isPrefixOf storeNs
abbrev Ns_Reader : List Str := ["_values", "_at"]
def P_Reader (ns : List Str) : Bool := !ns.isEmpty && ns.isPrefixOf Ns_Reader
/-- what the top says: the class Store at C, the errors by ea, their inits by fI -/
structure Tx (P : Program) (w : World) (K : Fg) (mg : Str → Option Value) (C : Addr) (W : Wd K) (ea fI : Str → Addr) : Prop where
  b_all : mg "all" = none
  b_bool : mg "bool" = none
  b_int : mg "int" = none
  b_isinstance : mg "isinstance" = none
  b_len : mg "len" = none
  b_min : mg "min" = none
  b_range : mg "range" = none
  b_str : mg "str" = none
  b_sum : mg "sum" = none
  b_tuple : mg "tuple" = none
  b_zip : mg "zip" = none
  m_CHECKSUM_AT_FIRST : Cst mg "CHECKSUM_AT_FIRST" (.int 4)
  m_CHECKSUM_FACTOR : Cst mg "CHECKSUM_FACTOR" (.int 11)
  m_CHECKSUM_MODULUS : Cst mg "CHECKSUM_MODULUS" (.int 251)
  m_LETTERS : Cst mg "LETTERS" (.str "abcdefghijklmnopqrstuvwxyz")
  m_LONGEST_WORD : Cst mg "LONGEST_WORD" (.int 8)
  m_MARK : Cst mg "MARK" (.int 71)
  m_MOST_BEHIND : Cst mg "MOST_BEHIND" (.int 4)
  m_MOST_CRATES : Cst mg "MOST_CRATES" (.int 5)
  m_MOST_DOORS : Cst mg "MOST_DOORS" (.int 4)
  m_MOST_PLACES : Cst mg "MOST_PLACES" (.int 6)
  m_MOST_WARMTH : Cst mg "MOST_WARMTH" (.int 99)
  cls : Cls K C
  hp : ∀ ns C', stP ns = true → W.ct ns = some C' → C' = C
  hcp : ∀ ns, stP ns = true → W.ct ns = some C
  cls0 : W.cls 0 = C
  cls_Reader : Cls K (ea "Reader")
  hp_Reader : ∀ ns C', P_Reader ns = true → W.ct ns = some C' → C' = ea "Reader"
  hcp_Reader : ∀ ns, P_Reader ns = true → W.ct ns = some (ea "Reader")
  clsk_Reader : W.cls 1 = ea "Reader"
  n_Reader_values : NoAttr K (ea "Reader") "_values"
  n_Reader_at : NoAttr K (ea "Reader") "_at"
  g_Store : Cst mg "Store" (.ref C)
  isi : IsiC K C
  n_places : NoAttr K C "_places"
  n_size : NoAttr K C "_size"
  n_doors : NoAttr K C "_doors"
  n_crates : NoAttr K C "_crates"
  x_DecodeError : ErrF P w K mg "DecodeError" (ea "DecodeError") (fI "DecodeError") "offset"
  ea_DecodeError : W.ea "DecodeError" = some (ea "DecodeError")
  ef_DecodeError : W.ef "DecodeError" = (["offset"] : List Str)
  x_InvalidStore : ErrF P w K mg "InvalidStore" (ea "InvalidStore") (fI "InvalidStore") "part"
  ea_InvalidStore : W.ea "InvalidStore" = some (ea "InvalidStore")
  ef_InvalidStore : W.ef "InvalidStore" = (["part"] : List Str)
  h_DecodeError : mg "DecodeError" = some (.ref (ea "DecodeError"))
  xm_DecodeError : ∀ c ∈ errNames, ∀ A, W.ea c = some A → PySem.W.exmOne K (.ref A) (.ref (ea "DecodeError")) = some (hitC "DecodeError" c)
  xr_DecodeError : XfC K (ea "DecodeError")
  xn_DecodeError_offset : PySem.W.findIn K (.ref (ea "DecodeError")) "offset" = some none
  h_InvalidStore : mg "InvalidStore" = some (.ref (ea "InvalidStore"))
  xm_InvalidStore : ∀ c ∈ errNames, ∀ A, W.ea c = some A → PySem.W.exmOne K (.ref A) (.ref (ea "InvalidStore")) = some (hitC "InvalidStore" c)
  xr_InvalidStore : XfC K (ea "InvalidStore")
  xn_InvalidStore_part : PySem.W.findIn K (.ref (ea "InvalidStore")) "part" = some none
section
variable {P : Program} {w : World} {K : Fg} {mg : Str → Option Value} {base : Heap} {C : Addr} {W : Wd K} {ea fI : Str → Addr}
def m_Store___eq__ : List D → M D := defM 2 2
    (sRet (mAnd (mIsO stP (mVar 1)) (mAnd (mOp fEq (mFld stP "_doors" (mVar 0)) (mFld stP "_doors" (mVar 1))) (mOp fEq (mFld stP "_crates" (mVar 0)) (mFld stP "_crates" (mVar 1))))))
theorem ok_Store___eq__ {f : Addr} {fd : FuncData} (F : Fun K "__eq__" "Store.__eq__" s_Store___eq__ f fd) (T : Tx P w K mg C W ea fI)  : FnOk P w K mg base CX0 1 f fd ["self", "other"] (spC W m_Store___eq__) :=
  ok_defC F sc_Store___eq__ (by decide) fun cdv A outer s H E hr => ⟨_, (pss_one (ps_ret (pe_and (pe_callB (isiK K) (by rfl) T.b_isinstance (by decide +kernel) (pa_cons (pv 1) (pa_cons (pe_gc T.g_Store) pa_nil))) (pe_and (pe_cmpR (eqK K hr.units) (pe_fK K (pv 0)) (pe_fK K (pv 1)) (nomark _)) (pe_one (pe_cmpR (eqK K hr.units) (pe_fK K (pv 0)) (pe_fK K (pv 1)) (nomark _))))))),
    (gs_ret (ge_and (ge_isO T.hp T.cls T.isi ge_var) (ge_and (ge_op (ge_fld T.hp T.cls T.n_doors ge_var) (ge_fld T.hp T.cls T.n_doors ge_var) r2_eq) (ge_op (ge_fld T.hp T.cls T.n_crates ge_var) (ge_fld T.hp T.cls T.n_crates ge_var) r2_eq))))⟩
def m_is_number : List D → M D := defM 3 3
    (sRet (mAnd (mIsT "int" (mVar 0)) (mAnd (mNot (mIsT "bool" (mVar 0))) (mChain fLe fLe (mVar 1) (mVar 0) (mVar 2)))))
theorem ok_is_number {f : Addr} {fd : FuncData} (F : Fun K "is_number" "is_number" s_is_number f fd) (T : Tx P w K mg C W ea fI)  : FnOk P w K mg base CX0 1 f fd ["value", "low", "high"] (spC W m_is_number) :=
  ok_defC F sc_is_number (by decide) fun cdv A outer s H E hr => ⟨_, (pss_one (ps_ret (pe_and (pe_callB (isiK K) (by rfl) T.b_isinstance (by decide +kernel) (pa_cons (pv 0) (pa_cons (pe_ty (T := "int") T.b_int) pa_nil))) (pe_and (pe_not (pe_callB (isiK K) (by rfl) T.b_isinstance (by decide +kernel) (pa_cons (pv 0) (pa_cons (pe_ty (T := "bool") T.b_bool) pa_nil)))) (pe_one (pe_chain op_le op_le (pv 1) (pv 0) (pv 2))))))),
    (gs_ret (ge_and (ge_isT ge_var) (ge_and (ge_not (ge_isT ge_var)) (ge_chain ge_var ge_var r2_B ge_var r2_B))))⟩
def m_Store___len__ : List D → M D := defM 1 1
    (sRet (mCB fLen (mCons (mFld stP "_doors" (mVar 0)) mNil)))
theorem ok_Store___len__ {f : Addr} {fd : FuncData} (F : Fun K "__len__" "Store.__len__" s_Store___len__ f fd) (T : Tx P w K mg C W ea fI)  : FnOk P w K mg base CX0 1 f fd ["self"] (spC W m_Store___len__) :=
  ok_defC F sc_Store___len__ (by decide) fun cdv A outer s H E hr => ⟨_, (pss_one (ps_ret (pe_callB (lenK K) (by rfl) T.b_len (by decide +kernel) (pa_cons (pe_fK K (pv 0)) pa_nil)))),
    (gs_ret (ge_cb (ga_cons (ge_fld T.hp T.cls T.n_doors ge_var) ga_nil) rc_len))⟩
def m_is_word : List D → M D := defM 2 1
    (sSeq (sIf (cOr (cNot (cOf (mIsT "str" (mVar 0)))) (cNot (cOf (mChain fLe fLe (mC (.int 1)) (mCB fLen (mCons (mVar 0) mNil)) (mC (.int 8)))))) (sRet (mC (.bl false))) sNext)
    (sRet (mCB fAll (mCons (mNew (mLc (iS (mVar 0)) (pName 1) cYes (mOp (fInS false) (mVar 1) (mC (.str "abcdefghijklmnopqrstuvwxyz"))) [1])) mNil))))
theorem ok_is_word {f : Addr} {fd : FuncData} (F : Fun K "is_word" "is_word" s_is_word f fd) (T : Tx P w K mg C W ea fI)  : FnOk P w K mg base CX0 1 f fd ["value"] (spC W m_is_word) :=
  ok_defC F sc_is_word (by decide) fun cdv A outer s H E hr => ⟨_, (pss_cons (ps_if (PW.pt (pw_or (pt_not (pt_val (pe_callB (isiK K) (by rfl) T.b_isinstance (by decide +kernel) (pa_cons (pv 0) (pa_cons (pe_ty (T := "str") T.b_str) pa_nil))))) (pw_or1 (pt_not (pt_chain op_le op_le pe_int (pe_callB (lenK K) (by rfl) T.b_len (by decide +kernel) (pa_cons (pv 0) pa_nil)) (pe_gc T.m_LONGEST_WORD)))))) (pss_one (ps_ret pe_bl)) pss_nil)
      (pss_one (ps_ret (pe_callB (allK K) (by rfl) T.b_all (by decide +kernel) (pa_cons (pe_lc (own := [("letter", 1)]) (g := gName 1) rfl sc_is_word.nd (pi_str (pv 0)) (blkOk_by (own := [("letter", 1)]) (N := ["value", "letter"]) (sc := defScope s_is_word) (by decide +kernel)) (fun _ _ _ _ _ => (pg_name (i := 1) sc_is_word.nd rfl (Or.inl rfl))) (fun _ _ _ _ _ => pts_nil) (fun _ _ _ _ _ => (pe_cmpR op_in_sign (pv 1) (pe_gc T.m_LETTERS) rfl))) pa_nil))))),
    (gs_seq (gs_if (gt_or (gt_not (gt_ofB (ge_isT ge_var))) (gt_not (gt_of (ge_chain ge_int (ge_cb (ga_cons ge_var ga_nil) rc_len) r2_B ge_int r2_B)))) (gs_ret ge_bl) gs_next)
      (gs_ret (ge_cb (ga_cons (GN.ge (gn_lc (gi_str ge_var) gp_name gt_yes (ge_op ge_var ge_str r2_inS))) ga_nil) rc_all)))⟩
def m_is_door : List D → M D := defM 1 1
    (sSeq (sIf (cOr (cNot (cOf (mIsT "tuple" (mVar 0)))) (cOf (mOp fNe (mCB fLen (mCons (mVar 0) mNil)) (mC (.int 2))))) (sRet (mC (.bl false))) sNext)
    (sRet (mAnd (mCall (fun ds => (m_is_number ds).calm) (mCons (mOp fIx (mVar 0) (mC (.int 0))) (mCons (mC (.int 1)) (mCons (mC (.int 99)) mNil)))) (mCall (fun ds => (m_is_number ds).calm) (mCons (mOp fIx (mVar 0) (mC (.int 1))) (mCons (mC (.int 1)) (mCons (mC (.int 4)) mNil)))))))
theorem ok_is_door {f : Addr} {fd : FuncData} (F : Fun K "is_door" "is_door" s_is_door f fd) (T : Tx P w K mg C W ea fI) (C_is_number : Cal P w K mg base CX0 1 "is_number" ["value", "low", "high"] (spC W m_is_number)) : FnOk P w K mg base CX0 2 f fd ["value"] (spC W m_is_door) :=
  ok_defC F sc_is_door (by decide) fun cdv A outer s H E hr => ⟨_, (pss_cons (ps_if (PW.pt (pw_or (pt_not (pt_val (pe_callB (isiK K) (by rfl) T.b_isinstance (by decide +kernel) (pa_cons (pv 0) (pa_cons (pe_ty (T := "tuple") T.b_tuple) pa_nil))))) (pw_or1 (pt_cmpR (neK K hr.units) (pe_callB (lenK K) (by rfl) T.b_len (by decide +kernel) (pa_cons (pv 0) pa_nil)) pe_int (nomark _))))) (pss_one (ps_ret pe_bl)) pss_nil)
      (pss_one (ps_ret (pe_and (pe_cal (E := Cc.E0) C_is_number hr pass0 (pa_cons (pe_ix (ixA K) (pv 0) pe_int (fun _ _ => rfl)) (pa_cons pe_int (pa_cons (pe_gc T.m_MOST_WARMTH) pa_nil)))) (pe_one (pe_cal (E := Cc.E0) C_is_number hr pass0 (pa_cons (pe_ix (ixA K) (pv 0) pe_int (fun _ _ => rfl)) (pa_cons pe_int (pa_cons (pe_gc T.m_MOST_BEHIND) pa_nil))))))))),
    (gs_seq (gs_if (gt_or (gt_not (gt_ofB (ge_isT ge_var))) (gt_of (ge_op (ge_cb (ga_cons ge_var ga_nil) rc_len) ge_int r2_ne))) (gs_ret ge_bl) gs_next)
      (gs_ret (ge_and (ge_call (ga_cons (ge_op ge_var ge_int r2_ix) (ga_cons ge_int (ga_cons ge_int ga_nil)))) (ge_call (ga_cons (ge_op ge_var ge_int r2_ix) (ga_cons ge_int (ga_cons ge_int ga_nil)))))))⟩
def m_doors_fit : List D → M D := defM 2 1
    (sSeq (sIf (cOr (cNot (cOf (mIsT "tuple" (mVar 0)))) (cNot (cOf (mChain fLe fLe (mC (.int 1)) (mCB fLen (mCons (mVar 0) mNil)) (mC (.int 4)))))) (sRet (mC (.bl false))) sNext)
    (sSeq (sIf (cNot (cOf (mCB fAll (mCons (mNew (mLc (iT (mVar 0)) (pName 1) cYes (mCall (fun ds => (m_is_door ds).calm) (mCons (mVar 1) mNil)) [1])) mNil)))) (sRet (mC (.bl false))) sNext)
    (sRet (mOp fLe (mCB fSum (mCons (mNew (mLc (iT (mVar 0)) (pName 1) cYes (mOp fIx (mVar 1) (mC (.int 1))) [1])) mNil)) (mC (.int 6))))))
theorem ok_doors_fit {f : Addr} {fd : FuncData} (F : Fun K "doors_fit" "doors_fit" s_doors_fit f fd) (T : Tx P w K mg C W ea fI) (C_is_door : Cal P w K mg base CX0 2 "is_door" ["value"] (spC W m_is_door)) : FnOk P w K mg base CX0 3 f fd ["doors"] (spC W m_doors_fit) :=
  ok_defC F sc_doors_fit (by decide) fun cdv A outer s H E hr => ⟨_, (pss_cons (ps_if (PW.pt (pw_or (pt_not (pt_val (pe_callB (isiK K) (by rfl) T.b_isinstance (by decide +kernel) (pa_cons (pv 0) (pa_cons (pe_ty (T := "tuple") T.b_tuple) pa_nil))))) (pw_or1 (pt_not (pt_chain op_le op_le pe_int (pe_callB (lenK K) (by rfl) T.b_len (by decide +kernel) (pa_cons (pv 0) pa_nil)) (pe_gc T.m_MOST_DOORS)))))) (pss_one (ps_ret pe_bl)) pss_nil)
      (pss_cons (ps_if (pt_not (pt_val (pe_callB (allK K) (by rfl) T.b_all (by decide +kernel) (pa_cons (pe_lc (own := [("door", 1)]) (g := gName 1) rfl sc_doors_fit.nd (pi_tK K (pv 0)) (blkOk_by (own := [("door", 1)]) (N := ["doors", "door"]) (sc := defScope s_doors_fit) (by decide +kernel)) (fun _ _ _ _ _ => (pg_name (i := 1) sc_doors_fit.nd rfl (Or.inl rfl))) (fun _ _ _ _ _ => pts_nil) (fun _ _ _ _ _ => (pe_cal (E := Cc.E0) C_is_door hr pass0 (pa_cons (pv 1) pa_nil)))) pa_nil)))) (pss_one (ps_ret pe_bl)) pss_nil)
      (pss_one (ps_ret (pe_cmpR op_le (pe_callB (sumK K) (by rfl) T.b_sum (by decide +kernel) (pa_cons (pe_lc (own := [("door", 1)]) (g := gName 1) rfl sc_doors_fit.nd (pi_tK K (pv 0)) (blkOk_by (own := [("door", 1)]) (N := ["doors", "door"]) (sc := defScope s_doors_fit) (by decide +kernel)) (fun _ _ _ _ _ => (pg_name (i := 1) sc_doors_fit.nd rfl (Or.inl rfl))) (fun _ _ _ _ _ => pts_nil) (fun _ _ _ _ _ => (pe_ix (ixA K) (pv 1) pe_int (fun _ _ => rfl)))) pa_nil)) (pe_gc T.m_MOST_PLACES) (nomark _)))))),
    (gs_seq (gs_if (gt_or (gt_not (gt_ofB (ge_isT ge_var))) (gt_not (gt_of (ge_chain ge_int (ge_cb (ga_cons ge_var ga_nil) rc_len) r2_B ge_int r2_B)))) (gs_ret ge_bl) gs_next)
      (gs_seq (gs_if (gt_not (gt_ofB (ge_cb (ga_cons (GN.ge (gn_lc (gi_tup ge_var) gp_name gt_yes (ge_call (ga_cons ge_var ga_nil)))) ga_nil) rc_all))) (gs_ret ge_bl) gs_next)
      (gs_ret (ge_op (ge_cb (ga_cons (GN.ge (gn_lc (gi_tup ge_var) gp_name gt_yes (ge_op ge_var ge_int r2_ix))) ga_nil) rc_sum) ge_int r2_B))))⟩
def m_crates_fit : List D → M D := defM 5 2
    (sSeq (sIf (cOr (cNot (cOf (mIsT "tuple" (mVar 0)))) (cNot (cOf (mChain fLe fLe (mC (.int 1)) (mCB fLen (mCons (mVar 0) mNil)) (mCB fMin2 (mCons (mC (.int 5)) (mCons (mVar 1) mNil))))))) (sRet (mC (.bl false))) sNext)
    (sSeq (sIf (cNot (cOf (mCB fAll (mCons (mNew (mLc (iT (mVar 0)) (pName 4) cYes (mCall (fun ds => (m_is_word ds).calm) (mCons (mVar 4) mNil)) [4])) mNil)))) (sRet (mC (.bl false))) sNext)
    (sRet (mCB fAll (mCons (mNew (mLc (iZp (mVar 0) (mSlT (mVar 0) (oSome (mC (.int 1))) oNone)) (pTup [(pName 2), (pName 3)]) cYes (mOp fLtS (mVar 2) (mVar 3)) [2, 3])) mNil)))))
theorem ok_crates_fit {f : Addr} {fd : FuncData} (F : Fun K "crates_fit" "crates_fit" s_crates_fit f fd) (T : Tx P w K mg C W ea fI) (C_is_word : Cal P w K mg base CX0 1 "is_word" ["value"] (spC W m_is_word)) : FnOk P w K mg base CX0 2 f fd ["crates", "size"] (spC W m_crates_fit) :=
  ok_defC F sc_crates_fit (by decide) fun cdv A outer s H E hr => ⟨_, (pss_cons (ps_if (PW.pt (pw_or (pt_not (pt_val (pe_callB (isiK K) (by rfl) T.b_isinstance (by decide +kernel) (pa_cons (pv 0) (pa_cons (pe_ty (T := "tuple") T.b_tuple) pa_nil))))) (pw_or1 (pt_not (pt_chain op_le op_le pe_int (pe_callB (lenK K) (by rfl) T.b_len (by decide +kernel) (pa_cons (pv 0) pa_nil)) (pe_callB (call_min2 rfl) (by rfl) T.b_min (by decide +kernel) (pa_cons (pe_gc T.m_MOST_CRATES) (pa_cons (pv 1) pa_nil)))))))) (pss_one (ps_ret pe_bl)) pss_nil)
      (pss_cons (ps_if (pt_not (pt_val (pe_callB (allK K) (by rfl) T.b_all (by decide +kernel) (pa_cons (pe_lc (own := [("name", 4)]) (g := gName 4) rfl sc_crates_fit.nd (pi_tK K (pv 0)) (blkOk_by (own := [("name", 4)]) (N := ["crates", "size", "one", "other", "name"]) (sc := defScope s_crates_fit) (by decide +kernel)) (fun _ _ _ _ _ => (pg_name (i := 4) sc_crates_fit.nd rfl (Or.inl rfl))) (fun _ _ _ _ _ => pts_nil) (fun _ _ _ _ _ => (pe_cal (E := Cc.E0) C_is_word hr pass0 (pa_cons (pv 4) pa_nil)))) pa_nil)))) (pss_one (ps_ret pe_bl)) pss_nil)
      (pss_one (ps_ret (pe_callB (allK K) (by rfl) T.b_all (by decide +kernel) (pa_cons (pe_lc (own := [("one", 2), ("other", 3)]) rfl sc_crates_fit.nd (pi_zK K T.b_zip (pa_cons (pv 0) (pa_cons (pe_slice sl_tupP (pv 0) (po_some pe_int) po_none) pa_nil))) (blkOk_by (own := [("one", 2), ("other", 3)]) (N := ["crates", "size", "one", "other", "name"]) (sc := defScope s_crates_fit) (by decide +kernel)) (fun _ _ _ _ _ => (pg_tK K (n := 2) rfl (pgs_cons (pg_name (i := 2) sc_crates_fit.nd rfl (Or.inl rfl)) (pgs_cons (pg_name (i := 3) sc_crates_fit.nd rfl (Or.inl rfl)) pgs_nil)))) (fun _ _ _ _ _ => pts_nil) (fun _ _ _ _ _ => (pe_cmpR op_lt_str (pv 2) (pv 3) (nomark _)))) pa_nil)))))),
    (gs_seq (gs_if (gt_or (gt_not (gt_ofB (ge_isT ge_var))) (gt_not (gt_of (ge_chain ge_int (ge_cb (ga_cons ge_var ga_nil) rc_len) r2_B (ge_cb (ga_cons ge_int (ga_cons ge_var ga_nil)) rc_min2) r2_B)))) (gs_ret ge_bl) gs_next)
      (gs_seq (gs_if (gt_not (gt_ofB (ge_cb (ga_cons (GN.ge (gn_lc (gi_tup ge_var) gp_name gt_yes (ge_call (ga_cons ge_var ga_nil)))) ga_nil) rc_all))) (gs_ret ge_bl) gs_next)
      (gs_ret (ge_cb (ga_cons (GN.ge (gn_lc (gi_zip ge_var (ge_slT ge_var (go_some ge_int) go_none)) (gp_tup (gps_cons gp_name (gps_cons gp_name gps_nil))) gt_yes (ge_op ge_var ge_var r2_S))) ga_nil) rc_all))))⟩
def m_places_behind : List D → M D := defM 5 1
    (sSeq (sOwn 1 (mLst mNil))
    (sSeq (sAsg 2 (mC (.int 0)))
    (sSeq (sFor (iT (mVar 0)) (pName 3) (sSeq (sAsg 4 (mOp fAdd (mVar 2) (mOp fIx (mVar 3) (mC (.int 1)))))
    (sSeq (sApp 1 (mPt (rg2 (mVar 2) (mVar 4))))
    (sAsg 2 (mVar 4)))))
    (sRet (mCB fTup (mCons (mVar 1) mNil))))))
theorem ok_places_behind {f : Addr} {fd : FuncData} (F : Fun K "places_behind" "places_behind" s_places_behind f fd) (T : Tx P w K mg C W ea fI)  : FnOk P w K mg base CX0 1 f fd ["doors"] (spC W m_places_behind) :=
  ok_defC F sc_places_behind (by decide) fun cdv A outer s H E hr => ⟨_, (pss_cons (ps_set (i := 1) sc_places_behind.nd rfl (Or.inl rfl) (pe_lst pa_nil))
      (pss_cons (ps_set (i := 2) sc_places_behind.nd rfl (Or.inl rfl) pe_int)
      (pss_cons (ps_for PassesOwn.never rfl (pi_tK K (pv 0)) (pg_name (i := 3) sc_places_behind.nd rfl (Or.inl rfl)) (pss_cons (ps_set (i := 4) sc_places_behind.nd rfl (Or.inl rfl) (pe_op op_add (pv 2) (pe_ix (ixA K) (pv 3) pe_int (fun _ _ => rfl))))
      (pss_cons (ps_expr (pe_bm PySem.F.plainAttrs_list PySem.F.slot_list_append PySem.F.type_list_append mt_append (pv 1) (pa_cons (pe_tupRgP rfl (by rfl) T.b_tuple (prg_2 (by rfl) T.b_range (pv 2) (pv 4))) pa_nil)))
      (pss_one (ps_set (i := 2) sc_places_behind.nd rfl (Or.inl rfl) (pv 4))))))
      (pss_one (ps_ret (pe_callTy (tupPK K) (by rfl) T.b_tuple (by decide +kernel) (pa_cons (pv 1) pa_nil))))))),
    (gs_seq (gs_own (gn_lst ga_nil))
      (gs_seq (gs_asg ge_int)
      (gs_seq (gs_for (gi_tup ge_var) gp_name (gs_seq (gs_asg (ge_op ge_var (ge_op ge_var ge_int r2_ix) r2_add))
      (gs_seq (gs_app (ge_tupRg2 ge_var ge_var))
      (gs_asg ge_var))))
      (gs_ret (ge_cb (ga_cons ge_var ga_nil) rc_tup)))))⟩
def m_Store_crates : List D → M D := defM 1 1
    (sRet (mFld stP "_crates" (mVar 0)))
theorem ok_Store_crates {f : Addr} {fd : FuncData} (F : Fun K "crates" "Store.crates" s_Store_crates f fd) (T : Tx P w K mg C W ea fI)  : FnOk P w K mg base CX0 1 f fd ["self"] (spC W m_Store_crates) :=
  ok_defC F sc_Store_crates (by decide) fun cdv A outer s H E hr => ⟨_, (pss_one (ps_ret (pe_fK K (pv 0)))),
    (gs_ret (ge_fld T.hp T.cls T.n_crates ge_var))⟩
def m_Store_doors : List D → M D := defM 1 1
    (sRet (mFld stP "_doors" (mVar 0)))
theorem ok_Store_doors {f : Addr} {fd : FuncData} (F : Fun K "doors" "Store.doors" s_Store_doors f fd) (T : Tx P w K mg C W ea fI)  : FnOk P w K mg base CX0 1 f fd ["self"] (spC W m_Store_doors) :=
  ok_defC F sc_Store_doors (by decide) fun cdv A outer s H E hr => ⟨_, (pss_one (ps_ret (pe_fK K (pv 0)))),
    (gs_ret (ge_fld T.hp T.cls T.n_doors ge_var))⟩
def m_checksum_of : List D → M D := defM 3 1
    (sSeq (sAsg 1 (mC (.int 4)))
    (sSeq (sFor (iL (mVar 0)) (pName 2) (sAsg 1 (mOp fMod (mOp fAdd (mOp fMul (mC (.int 11)) (mVar 1)) (mVar 2)) (mC (.int 251)))))
    (sRet (mVar 1))))
theorem ok_checksum_of {f : Addr} {fd : FuncData} (F : Fun K "checksum_of" "checksum_of" s_checksum_of f fd) (T : Tx P w K mg C W ea fI)  : FnOk P w K mg base CX0 1 f fd ["values"] (spC W m_checksum_of) :=
  ok_defC F sc_checksum_of (by decide) fun cdv A outer s H E hr => ⟨_, (pss_cons (ps_set (i := 1) sc_checksum_of.nd rfl (Or.inl rfl) (pe_gc T.m_CHECKSUM_AT_FIRST))
      (pss_cons (ps_for PassesOwn.never rfl (pi_lK K (pv 0)) (pg_name (i := 2) sc_checksum_of.nd rfl (Or.inl rfl)) (pss_one (ps_set (i := 1) sc_checksum_of.nd rfl (Or.inl rfl) (pe_op op_mod (pe_op op_add (pe_op op_mul (pe_gc T.m_CHECKSUM_FACTOR) (pv 1)) (pv 2)) (pe_gc T.m_CHECKSUM_MODULUS)))))
      (pss_one (ps_ret (pv 1))))),
    (gs_seq (gs_asg ge_int)
      (gs_seq (gs_for (gi_list ge_var) gp_name (gs_asg (ge_op (ge_op (ge_op ge_int ge_var r2_mul) ge_var r2_add) ge_int r2_mod)))
      (gs_ret ge_var)))⟩
def m_encode_store : List D → M D := defM 6 1
    (sSeq (sOwn 1 (mLst (mCons (mC (.int 71)) (mCons (mLenI stP m_Store___len__ (mVar 0)) mNil))))
    (sSeq (sFor (iT (mProp stP m_Store_doors (mVar 0))) (pTup [(pName 2), (pName 3)]) (sExt 1 (mNew (mLst (mCons (mVar 2) (mCons (mVar 3) mNil))))))
    (sSeq (sApp 1 (mCB fLen (mCons (mProp stP m_Store_crates (mVar 0)) mNil)))
    (sSeq (sFor (iT (mProp stP m_Store_crates (mVar 0))) (pName 4) (sSeq (sApp 1 (mCB fLen (mCons (mVar 4) mNil)))
    (sExt 1 (mNew (mLc (iS (mVar 4)) (pName 5) cYes (mOp fAdd (mMt fSIdx (mC (.str "abcdefghijklmnopqrstuvwxyz")) (mCons (mVar 5) mNil)) (mC (.int 1))) [5])))))
    (sSeq (sAppB 1 (mCall (fun ds => (m_checksum_of ds).calm) (mCons (mVar 1) mNil)))
    (sRet (mVar 1)))))))
theorem ok_encode_store {f : Addr} {fd : FuncData} (F : Fun K "encode_store" "encode_store" s_encode_store f fd) (T : Tx P w K mg C W ea fI) (L_Store : LenC P w K mg base 1 C (spC W m_Store___len__)) (M_crates : CPrp P w K mg base CX0 1 C "crates" (spC W m_Store_crates)) (M_doors : CPrp P w K mg base CX0 1 C "doors" (spC W m_Store_doors)) (C_checksum_of : Cal P w K mg base CX0 1 "checksum_of" ["values"] (spC W m_checksum_of)) : FnOk P w K mg base CX0 3 f fd ["store"] (spC W m_encode_store) :=
  ok_defC F sc_encode_store (by decide) fun cdv A outer s H E hr => ⟨_, (pss_cons (ps_set (i := 1) sc_encode_store.nd rfl (Or.inl rfl) (pe_lst (pa_cons (pe_gc T.m_MARK) (pa_cons (pe_callB (call_lenI L_Store hr) (by rfl) T.b_len PySem.boot_len (pa_cons (pv 0) pa_nil)) pa_nil))))
      (pss_cons (ps_for PassesOwn.never rfl (pi_tK K (pe_prp (E := Cc.E0) M_doors hr pass0 (pv 0))) (pg_tK K (n := 2) rfl (pgs_cons (pg_name (i := 2) sc_encode_store.nd rfl (Or.inl rfl)) (pgs_cons (pg_name (i := 3) sc_encode_store.nd rfl (Or.inl rfl)) pgs_nil))) (pss_one (ps_expr (pe_bm PySem.F.plainAttrs_list PySem.F.slot_list_extend PySem.F.type_list_extend mt_extend (pv 1) (pa_cons (pe_lst (pa_cons (pv 2) (pa_cons (pv 3) pa_nil))) pa_nil)))))
      (pss_cons (ps_expr (pe_bm PySem.F.plainAttrs_list PySem.F.slot_list_append PySem.F.type_list_append mt_append (pv 1) (pa_cons (pe_callB (lenK K) (by rfl) T.b_len (by decide +kernel) (pa_cons (pe_prp (E := Cc.E0) M_crates hr pass0 (pv 0)) pa_nil)) pa_nil)))
      (pss_cons (ps_for PassesOwn.never rfl (pi_tK K (pe_prp (E := Cc.E0) M_crates hr pass0 (pv 0))) (pg_name (i := 4) sc_encode_store.nd rfl (Or.inl rfl)) (pss_cons (ps_expr (pe_bm PySem.F.plainAttrs_list PySem.F.slot_list_append PySem.F.type_list_append mt_append (pv 1) (pa_cons (pe_callB (lenK K) (by rfl) T.b_len (by decide +kernel) (pa_cons (pv 4) pa_nil)) pa_nil)))
      (pss_one (ps_expr (pe_bm PySem.F.plainAttrs_list PySem.F.slot_list_extend PySem.F.type_list_extend mt_extend (pv 1) (pa_cons (pe_lc (own := [("letter", 5)]) (g := gName 5) rfl sc_encode_store.nd (pi_str (pv 4)) (blkOk_by (own := [("letter", 5)]) (N := ["store", "values", "warmth", "places", "name", "letter"]) (sc := defScope s_encode_store) (by decide +kernel)) (fun _ _ _ _ _ => (pg_name (i := 5) sc_encode_store.nd rfl (Or.inl rfl))) (fun _ _ _ _ _ => pts_nil) (fun _ _ _ _ _ => (pe_op op_add (pe_bm PySem.F.plainAttrs_str PySem.F.slot_str_index PySem.F.type_str_index mt_sindex (pe_gc T.m_LETTERS) (pa_cons (pv 5) pa_nil)) pe_int))) pa_nil))))))
      (pss_cons (ps_expr (pe_bm PySem.F.plainAttrs_list PySem.F.slot_list_append PySem.F.type_list_append mt_append (pv 1) (pa_cons (pe_cal (E := Cc.E0) C_checksum_of hr pass0 (pa_cons (pv 1) pa_nil)) pa_nil)))
      (pss_one (ps_ret (pv 1)))))))),
    (gs_seq (gs_own (gn_lst (ga_cons ge_int (ga_cons (ge_lenI T.hp ge_var) ga_nil))))
      (gs_seq (gs_for (gi_tup (ge_prop T.hp ge_var)) (gp_tup (gps_cons gp_name (gps_cons gp_name gps_nil))) (gs_ext (GN.ge (gn_lst (ga_cons ge_var (ga_cons ge_var ga_nil))))))
      (gs_seq (gs_app (ge_cb (ga_cons (ge_prop T.hp ge_var) ga_nil) rc_len))
      (gs_seq (gs_for (gi_tup (ge_prop T.hp ge_var)) gp_name (gs_seq (gs_app (ge_cb (ga_cons ge_var ga_nil) rc_len))
      (gs_ext (GN.ge (gn_lc (gi_str ge_var) gp_name gt_yes (ge_op (ge_mtS ge_str (ga_cons ge_var ga_nil) rm_sidx) ge_int r2_add))))))
      (gs_seq (gs_appB (ge_call (ga_cons ge_var ga_nil)))
      (gs_ret ge_var))))))⟩
def m_Reader___init__ (A_Reader : Addr) : List D → M D := defI 1 A_Reader 2 2
    (sSeq (sFldA 1 0 P_Reader "_values" (mVar 1))
    (sFldA 1 0 P_Reader "_at" (mC (.int 0))))
theorem ok_Reader___init__ {f : Addr} {fd : FuncData} (F : Fun K "__init__" "Reader.__init__" s_Reader___init__ f fd) (T : Tx P w K mg C W ea fI)  : FnOk P w K mg base (L2.CX P w) 1 f fd ["self", "values"] (spI W (ea "Reader") (m_Reader___init__ (ea "Reader"))) :=
  ok_defI F sc_Reader___init__ (by decide) T.clsk_Reader fun cdv A outer s H E hr => ⟨_, (pss_cons (ps_fld (pv 0) (pv 1) rfl)
      (pss_one (ps_fld (pv 0) pe_int rfl))),
    (gs_seq (gs_fldA T.hcp_Reader T.clsk_Reader T.cls_Reader T.n_Reader_values ge_var)
      (gs_fldA T.hcp_Reader T.clsk_Reader T.cls_Reader T.n_Reader_at ge_int))⟩
def m_Reader_read (A_Reader : Addr) : List D → List D → M (D × List D) := defJ 1 A_Reader Ns_Reader 3 3
    (sSeq (sIf (cOr (cOf (mOp fEq (mFld P_Reader "_at" (mVar 0)) (mCB fLen (mCons (mFld P_Reader "_values" (mVar 0)) mNil)))) (cNot (cOf (mCall (fun ds => (m_is_number ds).calm) (mCons (mOp fIx (mFld P_Reader "_values" (mVar 0)) (mFld P_Reader "_at" (mVar 0))) (mCons (mVar 1) (mCons (mVar 2) mNil))))))) (sErrF "DecodeError" (mFld P_Reader "_at" (mVar 0))) sNext)
    (sSeq (sFldAugJ 1 0 "_at" (mC (.int 1)))
    (sRetJ (mOp fIx (mFld P_Reader "_values" (mVar 0)) (mOp fSub (mFld P_Reader "_at" (mVar 0)) (mC (.int 1)))))))
theorem ok_Reader_read {f : Addr} {fd : FuncData} (F : Fun K "read" "Reader.read" s_Reader_read f fd) (T : Tx P w K mg C W ea fI) (C_is_number : Cal P w K mg base CX0 1 "is_number" ["value", "low", "high"] (spC W m_is_number)) : FnOk P w K mg base (L2.CX P w) 2 f fd ["self", "low", "high"] (spJ W 1 Ns_Reader (m_Reader_read (ea "Reader"))) :=
  ok_defJ F sc_Reader_read (by decide) T.clsk_Reader fun cdv A outer s H E hr => ⟨_, (pss_cons (ps_if (PW.pt (pw_or (pt_cmpR (eqK K hr.units) (pe_fK K (pv 0)) (pe_callB (lenK K) (by rfl) T.b_len (by decide +kernel) (pa_cons (pe_fK K (pv 0)) pa_nil)) (nomark _)) (pw_or1 (pt_not (pt_val (pe_cal (E := Cc.E0) C_is_number hr pass0 (pa_cons (pe_ix (ixA K) (pe_fK K (pv 0)) (pe_fK K (pv 0)) (fun _ _ => rfl)) (pa_cons (pv 1) (pa_cons (pv 2) pa_nil))))))))) (pss_one (ps_raiseF rfl (takes_of rfl rfl rfl rfl) T.x_DecodeError hr (by decide) (pa_cons (pe_fK K (pv 0)) pa_nil))) pss_nil)
      (pss_cons (ps_fldaug (pv 0) pe_int in_add)
      (pss_one (ps_ret (pe_ix (ixA K) (pe_fK K (pv 0)) (pe_op op_sub (pe_fK K (pv 0)) pe_int) (fun _ _ => rfl)))))),
    (gs_seq (gs_if (gt_or (gt_of (ge_op (ge_fld T.hp_Reader T.cls_Reader T.n_Reader_at ge_var) (ge_cb (ga_cons (ge_fld T.hp_Reader T.cls_Reader T.n_Reader_values ge_var) ga_nil) rc_len) r2_eq)) (gt_not (gt_ofB (ge_call (ga_cons (ge_op (ge_fld T.hp_Reader T.cls_Reader T.n_Reader_values ge_var) (ge_fld T.hp_Reader T.cls_Reader T.n_Reader_at ge_var) r2_ix) (ga_cons ge_var (ga_cons ge_var ga_nil))))))) (gs_errF T.ea_DecodeError T.ef_DecodeError (fun _ _ _ _ h => h) (ge_fld T.hp_Reader T.cls_Reader T.n_Reader_at ge_var)) gs_next)
      (gs_seq (gs_fldAugJ T.clsk_Reader T.cls_Reader T.n_Reader_at ge_int)
      (gs_retJ (ge_op (ge_fld T.hp_Reader T.cls_Reader T.n_Reader_values ge_var) (ge_op (ge_fld T.hp_Reader T.cls_Reader T.n_Reader_at ge_var) ge_int r2_sub) r2_ix))))⟩
def m_Reader_read_end (A_Reader : Addr) : List D → List D → M (D × List D) := defJ 1 A_Reader Ns_Reader 2 1
    (sSeq (sAsgB 1 (mCall (fun ds => (m_checksum_of ds).calm) (mCons (mNew (mSlL (mFld P_Reader "_values" (mVar 0)) oNone (oSome (mFld P_Reader "_at" (mVar 0))))) mNil)))
    (sSeq (sExprX (mCallJ 0 1 Ns_Reader (m_Reader_read A_Reader) (mCons (mVar 1) (mCons (mVar 1) mNil))))
    (sIf (cOf (mOp fLt (mFld P_Reader "_at" (mVar 0)) (mCB fLen (mCons (mFld P_Reader "_values" (mVar 0)) mNil)))) (sErrF "DecodeError" (mFld P_Reader "_at" (mVar 0))) sNext)))
theorem ok_Reader_read_end {f : Addr} {fd : FuncData} (F : Fun K "read_end" "Reader.read_end" s_Reader_read_end f fd) (T : Tx P w K mg C W ea fI) (M_read : CMet P w K mg base (L2.CX P w) 2 (ea "Reader") "read" ["self", "low", "high"] (spJ W 1 Ns_Reader (m_Reader_read (ea "Reader")))) (C_checksum_of : Cal P w K mg base CX0 1 "checksum_of" ["values"] (spC W m_checksum_of)) : FnOk P w K mg base (L2.CX P w) 3 f fd ["self"] (spJ W 1 Ns_Reader (m_Reader_read_end (ea "Reader"))) :=
  ok_defJ F sc_Reader_read_end (by decide) T.clsk_Reader fun cdv A outer s H E hr => ⟨_, (pss_cons (ps_set (i := 1) sc_Reader_read_end.nd rfl (Or.inl rfl) (pe_cal (E := Cc.E0) C_checksum_of hr pass0 (pa_cons (pe_slice (slL K) (pe_fK K (pv 0)) po_none (po_some (pe_fK K (pv 0)))) pa_nil)))
      (pss_cons (ps_expr (pe_met M_read hr (passes_call (takes_of rfl rfl rfl rfl) fun _ _ _ _ h => h) (pv 0) (pa_cons (pv 1) (pa_cons (pv 1) pa_nil))))
      (pss_one (ps_if (pt_cmpR op_lt (pe_fK K (pv 0)) (pe_callB (lenK K) (by rfl) T.b_len (by decide +kernel) (pa_cons (pe_fK K (pv 0)) pa_nil)) (nomark _)) (pss_one (ps_raiseF rfl (takes_of rfl rfl rfl rfl) T.x_DecodeError hr (by decide) (pa_cons (pe_fK K (pv 0)) pa_nil))) pss_nil)))),
    (gs_seq (gs_asgB (ge_call (ga_cons (GN.ge (gn_slL (ge_fld T.hp_Reader T.cls_Reader T.n_Reader_values ge_var) go_none (go_some (ge_fld T.hp_Reader T.cls_Reader T.n_Reader_at ge_var)))) ga_nil)))
      (gs_seq (gs_exprX (gx_methJ T.clsk_Reader (ga_cons ge_var (ga_cons ge_var ga_nil))))
      (gs_if (gt_of (ge_op (ge_fld T.hp_Reader T.cls_Reader T.n_Reader_at ge_var) (ge_cb (ga_cons (ge_fld T.hp_Reader T.cls_Reader T.n_Reader_values ge_var) ga_nil) rc_len) r2_B)) (gs_errF T.ea_DecodeError T.ef_DecodeError (fun _ _ _ _ h => h) (ge_fld T.hp_Reader T.cls_Reader T.n_Reader_at ge_var)) gs_next)))⟩
def m_Store___init__ (C : Addr) : List D → M D := defI 0 C 4 3
    (sSeq (sIf (cNot (cOf (mCall (fun ds => (m_doors_fit ds).calm) (mCons (mVar 1) mNil)))) (sErrF "InvalidStore" (mC (.str "doors"))) sNext)
    (sSeq (sFldS 0 0 stP "_places" (mCall (fun ds => (m_places_behind ds).calm) (mCons (mVar 1) mNil)))
    (sSeq (sFldS 0 0 stP "_size" (mCB fSum (mCons (mNew (mLc (iT (mFld stP "_places" (mVar 0))) (pName 3) cYes (mCB fLen (mCons (mVar 3) mNil)) [3])) mNil)))
    (sSeq (sIf (cNot (cOf (mCall (fun ds => (m_crates_fit ds).calm) (mCons (mVar 2) (mCons (mFld stP "_size" (mVar 0)) mNil))))) (sErrF "InvalidStore" (mC (.str "crates"))) sNext)
    (sSeq (sFldS 0 0 stP "_doors" (mVar 1))
    (sFldS 0 0 stP "_crates" (mVar 2)))))))
theorem ok_Store___init__ {f : Addr} {fd : FuncData} (F : Fun K "__init__" "Store.__init__" s_Store___init__ f fd) (T : Tx P w K mg C W ea fI) (C_crates_fit : Cal P w K mg base CX0 2 "crates_fit" ["crates", "size"] (spC W m_crates_fit)) (C_doors_fit : Cal P w K mg base CX0 3 "doors_fit" ["doors"] (spC W m_doors_fit)) (C_places_behind : Cal P w K mg base CX0 1 "places_behind" ["doors"] (spC W m_places_behind)) : FnOk P w K mg base (L2.CX P w) 4 f fd ["self", "doors", "crates"] (spI W C (m_Store___init__ C)) :=
  ok_defI F sc_Store___init__ (by decide) T.cls0 fun cdv A outer s H E hr => ⟨_, (pss_cons (ps_if (pt_not (pt_val (pe_cal (E := Cc.E0) C_doors_fit hr pass0 (pa_cons (pv 1) pa_nil)))) (pss_one (ps_raiseF rfl (takes_of rfl rfl rfl rfl) T.x_InvalidStore hr (by decide) (pa_cons pe_str pa_nil))) pss_nil)
      (pss_cons (ps_fld (pv 0) (pe_cal (E := Cc.E0) C_places_behind hr pass0 (pa_cons (pv 1) pa_nil)) rfl)
      (pss_cons (ps_fld (pv 0) (pe_callB (sumK K) (by rfl) T.b_sum (by decide +kernel) (pa_cons (pe_lc (own := [("places", 3)]) (g := gName 3) rfl sc_Store___init__.nd (pi_tK K (pe_fK K (pv 0))) (blkOk_by (own := [("places", 3)]) (N := ["self", "doors", "crates", "places"]) (sc := defScope s_Store___init__) (by decide +kernel)) (fun _ _ _ _ _ => (pg_name (i := 3) sc_Store___init__.nd rfl (Or.inl rfl))) (fun _ _ _ _ _ => pts_nil) (fun _ _ _ _ _ => (pe_callB (lenK K) (by rfl) T.b_len (by decide +kernel) (pa_cons (pv 3) pa_nil)))) pa_nil)) rfl)
      (pss_cons (ps_if (pt_not (pt_val (pe_cal (E := Cc.E0) C_crates_fit hr pass0 (pa_cons (pv 2) (pa_cons (pe_fK K (pv 0)) pa_nil))))) (pss_one (ps_raiseF rfl (takes_of rfl rfl rfl rfl) T.x_InvalidStore hr (by decide) (pa_cons pe_str pa_nil))) pss_nil)
      (pss_cons (ps_fld (pv 0) (pv 1) rfl)
      (pss_one (ps_fld (pv 0) (pv 2) rfl))))))),
    (gs_seq (gs_if (gt_not (gt_ofB (ge_call (ga_cons ge_var ga_nil)))) (gs_errF T.ea_InvalidStore T.ef_InvalidStore (fun _ _ _ _ h => h) ge_str) gs_next)
      (gs_seq (gs_fld T.hcp T.cls0 T.cls T.n_places (ge_call (ga_cons ge_var ga_nil)))
      (gs_seq (gs_fld T.hcp T.cls0 T.cls T.n_size (ge_cb (ga_cons (GN.ge (gn_lc (gi_tup (ge_fld T.hp T.cls T.n_places ge_var)) gp_name gt_yes (ge_cb (ga_cons ge_var ga_nil) rc_len))) ga_nil) rc_sum))
      (gs_seq (gs_if (gt_not (gt_ofB (ge_call (ga_cons ge_var (ga_cons (ge_fld T.hp T.cls T.n_size ge_var) ga_nil))))) (gs_errF T.ea_InvalidStore T.ef_InvalidStore (fun _ _ _ _ h => h) ge_str) gs_next)
      (gs_seq (gs_fld T.hcp T.cls0 T.cls T.n_doors ge_var)
      (gs_fld T.hcp T.cls0 T.cls T.n_crates ge_var))))))⟩
def m_read_word (A_Reader : Addr) : List D → List D → M (D × List D) := defJ 1 A_Reader Ns_Reader 3 1
    (sSeq (sAsgX 1 (mCallJ 0 1 Ns_Reader (m_Reader_read A_Reader) (mCons (mC (.int 1)) (mCons (mC (.int 8)) mNil))))
    (sRetX (xMt fJoin (xOf (mC (.str ""))) (xCons (xNew (xLc (rg1 (mVar 1)) (pName 2) (xOp fIx (xOf (mC (.str "abcdefghijklmnopqrstuvwxyz"))) (xOp fSub (mCallJ 0 1 Ns_Reader (m_Reader_read A_Reader) (mCons (mC (.int 1)) (mCons (mCB fLen (mCons (mC (.str "abcdefghijklmnopqrstuvwxyz")) mNil)) mNil))) (xOf (mC (.int 1))))) [2])) xNil))))
theorem ok_read_word {f : Addr} {fd : FuncData} (F : Fun K "read_word" "read_word" s_read_word f fd) (T : Tx P w K mg C W ea fI) (M_read : CMet P w K mg base (L2.CX P w) 2 (ea "Reader") "read" ["self", "low", "high"] (spJ W 1 Ns_Reader (m_Reader_read (ea "Reader")))) : FnOk P w K mg base (L2.CX P w) 3 f fd ["reader"] (spJ W 1 Ns_Reader (m_read_word (ea "Reader"))) :=
  ok_defJ F sc_read_word (by decide) T.clsk_Reader fun cdv A outer s H E hr => ⟨_, (pss_cons (ps_set (i := 1) sc_read_word.nd rfl (Or.inl rfl) (pe_met M_read hr (passes_call (takes_of rfl rfl rfl rfl) fun _ _ _ _ h => h) (pv 0) (pa_cons pe_int (pa_cons (pe_gc T.m_LONGEST_WORD) pa_nil))))
      (pss_one (ps_ret (pe_bmK (K := K) PySem.F.plainAttrs_str PySem.F.slot_str_join PySem.F.type_str_join (mt_joinK K) pe_str (pa_cons (pe_lcX (own := [("_", 2)]) (g := gName 2) (takes_of rfl rfl rfl rfl) rfl rfl rfl sc_read_word.nd (pi_range1 (by rfl) T.b_range (pa_cons (pv 1) pa_nil)) (blkOk_by (own := [("_", 2)]) (N := ["reader", "count", "_"]) (sc := defScope s_read_word) (by decide +kernel)) (fun _ _ _ _ _ => (pg_name (i := 2) sc_read_word.nd rfl (Or.inl rfl))) (fun _ _ _ _ _ => pts_nil) (fun _ _ _ _ _ => (pe_ix (ixA K) (pe_gc T.m_LETTERS) (pe_op op_sub (pe_met M_read hr (passB fun _ _ _ _ h => h) (pv 0) (pa_cons pe_int (pa_cons (pe_callB (lenK K) (by rfl) T.b_len (by decide +kernel) (pa_cons (pe_gc T.m_LETTERS) pa_nil)) pa_nil))) pe_int) (fun _ _ => rfl)))) pa_nil))))),
    (gs_seq (gs_asgX (gx_methJ T.clsk_Reader (ga_cons ge_int (ga_cons ge_int ga_nil))))
      (gs_retX (gx_mtS (gx_ge ge_str) (gxa_cons (JXN.gx (jxn_lc (gi_range1 ge_var) gp_name (gx_op (gx_ge ge_str) (gx_op (gx_methJ T.clsk_Reader (ga_cons ge_int (ga_cons (ge_cb (ga_cons ge_str ga_nil) rc_len) ga_nil))) (gx_ge ge_int) r2_sub) r2_ix))) gxa_nil) rm_join)))⟩
def m_decode_store (C : Addr) (A_Reader : Addr) : List D → M D := defM 8 1
    (sSeq (sMkJ 1 1 (m_Reader___init__ A_Reader) (mCons (mVar 0) mNil))
    (sSeq (sExprX (mCallJ 1 1 Ns_Reader (m_Reader_read A_Reader) (mCons (mC (.int 71)) (mCons (mC (.int 71)) mNil))))
    (sSeq (sOwn 2 (mLst mNil))
    (sSeq (sAsgX 3 (mCallJ 1 1 Ns_Reader (m_Reader_read A_Reader) (mCons (mC (.int 1)) (mCons (mC (.int 4)) mNil))))
    (sSeq (sFor (rg1 (mVar 3)) (pName 4) (sSeq (sAsgX 5 (mCallJ 1 1 Ns_Reader (m_Reader_read A_Reader) (mCons (mC (.int 1)) (mCons (mC (.int 99)) mNil))))
    (sAppX 2 (xTup (xCons (xOf (mVar 5)) (xCons (mCallJ 1 1 Ns_Reader (m_Reader_read A_Reader) (mCons (mC (.int 1)) (mCons (mC (.int 4)) mNil))) xNil))))))
    (sSeq (sOwn 6 (mLst mNil))
    (sSeq (sAsgX 7 (mCallJ 1 1 Ns_Reader (m_Reader_read A_Reader) (mCons (mC (.int 1)) (mCons (mC (.int 5)) mNil))))
    (sSeq (sFor (rg1 (mVar 7)) (pName 4) (sAppX 6 (mCallJ 1 1 Ns_Reader (m_read_word A_Reader) mNil)))
    (sSeq (sExprX (mCallJ 1 1 Ns_Reader (m_Reader_read_end A_Reader) mNil))
    (sRet (mCall (m_Store___init__ C) (mCons (mCB fTup (mCons (mVar 2) mNil)) (mCons (mCB fTup (mCons (mVar 6) mNil)) mNil)))))))))))))
theorem ok_decode_store {f : Addr} {fd : FuncData} (F : Fun K "decode_store" "decode_store" s_decode_store f fd) (T : Tx P w K mg C W ea fI) (C_Reader : CMk P w K mg base (L2.CX P w) 1 "Reader" (ea "Reader") ["self", "values"] (spI W (ea "Reader") (m_Reader___init__ (ea "Reader")))) (M_read : CMet P w K mg base (L2.CX P w) 2 (ea "Reader") "read" ["self", "low", "high"] (spJ W 1 Ns_Reader (m_Reader_read (ea "Reader")))) (M_read_end : CMet P w K mg base (L2.CX P w) 3 (ea "Reader") "read_end" ["self"] (spJ W 1 Ns_Reader (m_Reader_read_end (ea "Reader")))) (C_Store : CMk P w K mg base (L2.CX P w) 4 "Store" C ["self", "doors", "crates"] (spI W C (m_Store___init__ C))) (C_read_word : Cal P w K mg base (L2.CX P w) 3 "read_word" ["reader"] (spJ W 1 Ns_Reader (m_read_word (ea "Reader")))) : FnOk P w K mg base (L2.CX P w) 6 f fd ["values"] (spM W (m_decode_store C (ea "Reader"))) :=
  ok_defM F sc_decode_store (by decide) fun cdv A outer s H E hr => ⟨_, (pss_cons (ps_set (i := 1) sc_decode_store.nd rfl (Or.inl rfl) (pe_mk C_Reader hr (passes_call (takes_of rfl rfl rfl rfl) fun _ _ _ _ h => h) (pa_cons (pv 0) pa_nil)))
      (pss_cons (ps_expr (pe_met M_read hr (passes_call (takes_of rfl rfl rfl rfl) fun _ _ _ _ h => h) (pv 1) (pa_cons (pe_gc T.m_MARK) (pa_cons (pe_gc T.m_MARK) pa_nil))))
      (pss_cons (ps_set (i := 2) sc_decode_store.nd rfl (Or.inl rfl) (pe_lst pa_nil))
      (pss_cons (ps_set (i := 3) sc_decode_store.nd rfl (Or.inl rfl) (pe_met M_read hr (passes_call (takes_of rfl rfl rfl rfl) fun _ _ _ _ h => h) (pv 1) (pa_cons pe_int (pa_cons (pe_gc T.m_MOST_DOORS) pa_nil))))
      (pss_cons (ps_for (passes_of rfl) rfl (pi_range1 (by rfl) T.b_range (pa_cons (pv 3) pa_nil)) (pg_name (i := 4) sc_decode_store.nd rfl (Or.inl rfl)) (pss_cons (ps_set (i := 5) sc_decode_store.nd rfl (Or.inl rfl) (pe_met M_read hr (passes_call (takes_of rfl rfl rfl rfl) fun _ _ _ _ h => h) (pv 1) (pa_cons pe_int (pa_cons (pe_gc T.m_MOST_WARMTH) pa_nil))))
      (pss_one (ps_expr (pe_bm PySem.F.plainAttrs_list PySem.F.slot_list_append PySem.F.type_list_append mt_append (pv 2) (pa_cons (pe_tupP (pa_cons (pv 5) (pa_cons (pe_met M_read hr (passes_call (takes_of rfl rfl rfl rfl) fun _ _ _ _ h => h) (pv 1) (pa_cons pe_int (pa_cons (pe_gc T.m_MOST_BEHIND) pa_nil))) pa_nil))) pa_nil))))))
      (pss_cons (ps_set (i := 6) sc_decode_store.nd rfl (Or.inl rfl) (pe_lst pa_nil))
      (pss_cons (ps_set (i := 7) sc_decode_store.nd rfl (Or.inl rfl) (pe_met M_read hr (passes_call (takes_of rfl rfl rfl rfl) fun _ _ _ _ h => h) (pv 1) (pa_cons pe_int (pa_cons (pe_gc T.m_MOST_CRATES) pa_nil))))
      (pss_cons (ps_for (passes_of rfl) rfl (pi_range1 (by rfl) T.b_range (pa_cons (pv 7) pa_nil)) (pg_name (i := 4) sc_decode_store.nd rfl (Or.inl rfl)) (pss_one (ps_expr (pe_bm PySem.F.plainAttrs_list PySem.F.slot_list_append PySem.F.type_list_append mt_append (pv 6) (pa_cons (pe_calS C_read_word hr (takes_of rfl rfl rfl rfl) (pa_cons (pv 1) pa_nil)) pa_nil)))))
      (pss_cons (ps_expr (pe_met0 M_read_end hr (passes_call (takes_of rfl rfl rfl rfl) fun _ _ _ _ h => h) (pv 1)))
      (pss_one (ps_ret (pe_mk C_Store hr (passes_call (takes_of rfl rfl rfl rfl) fun _ _ _ _ h => h) (pa_cons (pe_callTy (tupPK K) (by rfl) T.b_tuple (by decide +kernel) (pa_cons (pv 2) pa_nil)) (pa_cons (pe_callTy (tupPK K) (by rfl) T.b_tuple (by decide +kernel) (pa_cons (pv 6) pa_nil)) pa_nil)))))))))))))),
    (gs_seq (gs_mkJ T.clsk_Reader (ga_cons ge_var ga_nil))
      (gs_seq (gs_exprX (gx_methJ T.clsk_Reader (ga_cons ge_int (ga_cons ge_int ga_nil))))
      (gs_seq (gs_own (gn_lst ga_nil))
      (gs_seq (gs_asgX (gx_methJ T.clsk_Reader (ga_cons ge_int (ga_cons ge_int ga_nil))))
      (gs_seq (gs_for (gi_range1 ge_var) gp_name (gs_seq (gs_asgX (gx_methJ T.clsk_Reader (ga_cons ge_int (ga_cons ge_int ga_nil))))
      (gs_appX (gx_tup (gxa_cons (gx_ge ge_var) (gxa_cons (gx_methJ T.clsk_Reader (ga_cons ge_int (ga_cons ge_int ga_nil))) gxa_nil))))))
      (gs_seq (gs_own (gn_lst ga_nil))
      (gs_seq (gs_asgX (gx_methJ T.clsk_Reader (ga_cons ge_int (ga_cons ge_int ga_nil))))
      (gs_seq (gs_for (gi_range1 ge_var) gp_name (gs_appX (gx_calSJ (fun _ => rfl) ga_nil)))
      (gs_seq (gs_exprX (gx_methJ T.clsk_Reader ga_nil))
      (gs_ret (ge_make (ga_cons (ge_cb (ga_cons ge_var ga_nil) rc_tup) (ga_cons (ge_cb (ga_cons ge_var ga_nil) rc_tup) ga_nil)))))))))))))⟩
def m_Store_size : List D → M D := defM 1 1
    (sRet (mFld stP "_size" (mVar 0)))
theorem ok_Store_size {f : Addr} {fd : FuncData} (F : Fun K "size" "Store.size" s_Store_size f fd) (T : Tx P w K mg C W ea fI)  : FnOk P w K mg base CX0 1 f fd ["self"] (spC W m_Store_size) :=
  ok_defC F sc_Store_size (by decide) fun cdv A outer s H E hr => ⟨_, (pss_one (ps_ret (pe_fK K (pv 0)))),
    (gs_ret (ge_fld T.hp T.cls T.n_size ge_var))⟩
end
end My

namespace My
open PySem L2 RZ Cc Mi
section
variable {P : Program} {w : World} {K : Fg} {mg : Str → Option Value} {base : Heap} {C : Addr} {W : Wd K} {ea fI : Str → Addr}
def m__law_store (C : Addr) : List D → M D := defR 6 1
    (sSeq (sParX 1 2 [.n (mLst mNil), .d (mOp fAdd (mC (.int 1)) (mDraw 0 (mC (.int 3))))])
    (sSeq (sFor (rg1 (mVar 2)) (pName 3) (sApp 1 (mTup (mCons (mOp fAdd (mC (.int 1)) (mDraw 0 (mC (.int 9)))) (mCons (mIf (cOf (mOp fLt (mVar 2) (mC (.int 3)))) (mOp fAdd (mC (.int 1)) (mDraw 0 (mC (.int 2)))) (mOp fAdd (mC (.int 1)) (mCB fInt (mCons (mOp fEq (mVar 3) (mC (.int 1))) mNil)))) mNil)))))
    (sSeq (sAsgB 4 (mCB fSum (mCons (mNew (mLc (iL (mVar 1)) (pName 5) cYes (mOp fIx (mVar 5) (mC (.int 1))) [5])) mNil)))
    (sRet (mCall (m_Store___init__ C) (mCons (mCB fTup (mCons (mVar 1) mNil)) (mCons (mSlT (mTup (mCons (mC (.str "fig")) (mCons (mC (.str "kiwi")) (mCons (mC (.str "plum")) mNil)))) oNone (oSome (mOp fAdd (mC (.int 1)) (mDraw 0 (mCB fMin2 (mCons (mC (.int 3)) (mCons (mVar 4) mNil))))))) mNil)))))))
theorem ok__law_store {f : Addr} {fd : FuncData} (F : Fun K "_law_store" "_law_store" s__law_store f fd) (T : Tx P w K mg C W ea fI) (R : RowOk W) (C_Store : CMk P w K mg base (L2.CX P w) 4 "Store" C ["self", "doors", "crates"] (spI W C (m_Store___init__ C))) (C__law_taken : Cal P w K mg base CX0 1 "_law_taken" ["_law_row", "_law_many"] (spTaken K)) : FnOk P w K mg base CX0 6 f fd ["_law_row"] (spR W (m__law_store C)) :=
  ok_defR F sc__law_store (by decide) fun cdv A outer s H E hr => ⟨_, (pss_cons (ps_par (i := 1) (j := 2) rfl sc__law_store.nd rfl rfl (by decide) rfl rfl (pa_cons (pe_lst pa_nil) (pa_cons (pe_op op_add pe_int (pe_cal (E := Cc.E0) C__law_taken hr pass0 (pa_cons (pv 0) (pa_cons pe_int pa_nil)))) pa_nil)) (by rfl))
      (pss_cons (ps_for PassesOwn.never rfl (pi_range1 (by rfl) T.b_range (pa_cons (pv 2) pa_nil)) (pg_name (i := 3) sc__law_store.nd rfl (Or.inl rfl)) (pss_one (ps_expr (pe_bm PySem.F.plainAttrs_list PySem.F.slot_list_append PySem.F.type_list_append mt_append (pv 1) (pa_cons (pe_tupP (pa_cons (pe_op op_add pe_int (pe_cal (E := Cc.E0) C__law_taken hr pass0 (pa_cons (pv 0) (pa_cons pe_int pa_nil)))) (pa_cons (pe_ifExp (pt_cmpR op_lt (pv 2) pe_int (nomark _)) (pe_op op_add pe_int (pe_cal (E := Cc.E0) C__law_taken hr pass0 (pa_cons (pv 0) (pa_cons pe_int pa_nil)))) (pe_op op_add pe_int (pe_callTy call_int1 (by rfl) T.b_int (by decide +kernel) (pa_cons (pe_cmpR (eqK K hr.units) (pv 3) pe_int (nomark _)) pa_nil)))) pa_nil))) pa_nil)))))
      (pss_cons (ps_set (i := 4) sc__law_store.nd rfl (Or.inl rfl) (pe_callB (sumK K) (by rfl) T.b_sum (by decide +kernel) (pa_cons (pe_lc (own := [("_law_one", 5)]) (g := gName 5) rfl sc__law_store.nd (pi_lK K (pv 1)) (blkOk_by (own := [("_law_one", 5)]) (N := ["_law_row", "_law_rows", "_law_many", "_law_k", "_law_places", "_law_one"]) (sc := defScope s__law_store) (by decide +kernel)) (fun _ _ _ _ _ => (pg_name (i := 5) sc__law_store.nd rfl (Or.inl rfl))) (fun _ _ _ _ _ => pts_nil) (fun _ _ _ _ _ => (pe_ix (ixA K) (pv 5) pe_int (fun _ _ => rfl)))) pa_nil)))
      (pss_one (ps_ret (pe_mk C_Store hr (passes_call LamX.takes0 fun _ _ _ _ h => h) (pa_cons (pe_callTy (tupPK K) (by rfl) T.b_tuple (by decide +kernel) (pa_cons (pv 1) pa_nil)) (pa_cons (pe_slice sl_tupP (pe_tupP (pa_cons pe_str (pa_cons pe_str (pa_cons pe_str pa_nil)))) po_none (po_some (pe_op op_add pe_int (pe_cal (E := Cc.E0) C__law_taken hr pass0 (pa_cons (pv 0) (pa_cons (pe_callB (call_min2 rfl) (by rfl) T.b_min (by decide +kernel) (pa_cons pe_int (pa_cons (pv 4) pa_nil))) pa_nil)))))) pa_nil)))))))),
    (gs_seq (gs_parX (GX.n (gn_lst ga_nil) (GX.d (ge_op ge_int (ge_draw R ge_int) r2_add) GX.nil)))
      (gs_seq (gs_for (gi_range1 ge_var) gp_name (gs_app (ge_tup (ga_cons (ge_op ge_int (ge_draw R ge_int) r2_add) (ga_cons (ge_if (gt_of (ge_op ge_var ge_int r2_B)) (ge_op ge_int (ge_draw R ge_int) r2_add) (ge_op ge_int (ge_cb (ga_cons (ge_op ge_var ge_int r2_eq) ga_nil) rc_int) r2_add)) ga_nil)))))
      (gs_seq (gs_asgB (ge_cb (ga_cons (GN.ge (gn_lc (gi_list ge_var) gp_name gt_yes (ge_op ge_var ge_int r2_ix))) ga_nil) rc_sum))
      (gs_ret (ge_make (ga_cons (ge_cb (ga_cons ge_var ga_nil) rc_tup) (ga_cons (ge_slT (ge_tup (ga_cons ge_str (ga_cons ge_str (ga_cons ge_str ga_nil)))) go_none (go_some (ge_op ge_int (ge_draw R (ge_cb (ga_cons ge_int (ga_cons ge_var ga_nil)) rc_min2)) r2_add))) ga_nil)))))))⟩
def m__law_checked : List D → M D := defM 3 1
    (sSeq (sAsg 1 (mC (.int 4)))
    (sSeq (sFor (iL (mVar 0)) (pName 2) (sAsg 1 (mOp fMod (mCB fInt (mCons (mOp fAdd (mOp fMul (mC (.int 11)) (mVar 1)) (mVar 2)) mNil)) (mC (.int 251)))))
    (sRet (mNew (mOpN fCatL (mVar 0) (mNew (mLst (mCons (mVar 1) mNil))))))))
theorem ok__law_checked {f : Addr} {fd : FuncData} (F : Fun K "_law_checked" "_law_checked" s__law_checked f fd) (T : Tx P w K mg C W ea fI)  : FnOk P w K mg base CX0 1 f fd ["_law_items"] (spC W m__law_checked) :=
  ok_defC F sc__law_checked (by decide) fun cdv A outer s H E hr => ⟨_, (pss_cons (ps_set (i := 1) sc__law_checked.nd rfl (Or.inl rfl) pe_int)
      (pss_cons (ps_for PassesOwn.never rfl (pi_lK K (pv 0)) (pg_name (i := 2) sc__law_checked.nd rfl (Or.inl rfl)) (pss_one (ps_set (i := 1) sc__law_checked.nd rfl (Or.inl rfl) (pe_op op_mod (pe_callTy call_int1 (by rfl) T.b_int (by decide +kernel) (pa_cons (pe_op op_add (pe_op op_mul pe_int (pv 1)) (pv 2)) pa_nil)) pe_int))))
      (pss_one (ps_ret (pe_op op_cat (pv 0) (pe_lst (pa_cons (pv 1) pa_nil))))))),
    (gs_seq (gs_asg ge_int)
      (gs_seq (gs_for (gi_list ge_var) gp_name (gs_asg (ge_op (ge_cb (ga_cons (ge_op (ge_op ge_int ge_var r2_mul) ge_var r2_add) ga_nil) rc_int) ge_int r2_mod)))
      (gs_ret (GN.ge (gn_opN ge_var (GN.ge (gn_lst (ga_cons ge_var ga_nil))) r2_catL)))))⟩
def m__law_offset (C : Addr) (A_Reader : Addr) : List D → M D := defM 2 1
    (sSeq (sTry 2 errNames (sExpr (mCall (m_decode_store C A_Reader) (mCons (mVar 0) mNil))) [("DecodeError", (some 1), fun p => (sRet (mXf 1 0 p))), ("InvalidStore", (some 1), fun p => (sRet (mTup (mCons (mC (.str "store")) (mCons (mXf 1 0 p) mNil)))))])
    (sRet (mC .non)))
theorem ok__law_offset {f : Addr} {fd : FuncData} (F : Fun K "_law_offset" "_law_offset" s__law_offset f fd) (T : Tx P w K mg C W ea fI) (C_decode_store : Cal P w K mg base (L2.CX P w) 6 "decode_store" ["values"] (spM W (m_decode_store C (ea "Reader")))) : FnOk P w K mg base CX0 7 f fd ["_law_values"] (spC W (m__law_offset C (ea "Reader"))) :=
  ok_defC F sc__law_offset (by decide) fun cdv A outer s H E hr => ⟨_, (pss_cons (ps_tryN rfl rfl LamX.takes0 (fun E pn xe tk => (pss_one (ps_expr (pe_calS C_decode_store hr tk (pa_cons (pv 0) pa_nil))))) (ClausesOk.named (i := 1) ⟨rfl, by decide, .inl T.h_DecodeError⟩ sc__law_offset.nd rfl rfl (fun a oe cls d pn hz hf => (pss_one (ps_ret (pe_xg hz hf (pv 1))))) (ClausesOk.named (i := 1) ⟨rfl, by decide, .inl T.h_InvalidStore⟩ sc__law_offset.nd rfl rfl (fun a oe cls d pn hz hf => (pss_one (ps_ret (pe_tupP (pa_cons pe_str (pa_cons (pe_xg hz hf (pv 1)) pa_nil)))))) ClausesOk.nil)))
      (pss_one (ps_ret pe_non))),
    (gs_seq (gs_try (fun _ _ _ _ h => h) (fun E' => (gs_expr (ge_calS (fun _ => rfl) (ga_cons ge_var ga_nil)))) (ClR.cons T.xm_DecodeError (fun a A c' o p vs hE hc => (gs_ret (ge_xg (j := 0) hE hc T.ea_DecodeError T.ef_DecodeError T.xr_DecodeError T.xn_DecodeError_offset))) (ClR.cons T.xm_InvalidStore (fun a A c' o p vs hE hc => (gs_ret (ge_tup (ga_cons ge_str (ga_cons (ge_xg (j := 0) hE hc T.ea_InvalidStore T.ef_InvalidStore T.xr_InvalidStore T.xn_InvalidStore_part) ga_nil))))) ClR.nil)))
      (gs_ret ge_non))⟩
def b_law (C : Addr) (A_Reader : Addr) : Mi.Env → M Fl :=
    (sSeq (sFor (rg1 (mC (.int 3))) (pName 2) (sSeq (sAsg 3 (mCall (fun ds => (m_encode_store ds).calm) (mCons (mCallR 1 (m__law_store C) mNil) mNil)))
    (sSeq (sPar 4 5 (mCons (mDraw 1 (mCB fLen (mCons (mVar 3) mNil))) (mCons (mOp fSub (mCB fLen (mCons (mVar 3) mNil)) (mC (.int 1))) mNil)))
    (sSeq (sIf (cOr (cOf (mOp fNe (mCall (fun ds => ((m__law_offset C A_Reader) ds).calm) (mCons (mNew (mSlL (mVar 3) oNone (oSome (mVar 4)))) mNil)) (mVar 4))) (cOf (mOp fNe (mCall (fun ds => ((m__law_offset C A_Reader) ds).calm) (mCons (mNew (mOpN fCatL (mVar 3) (mNew (mLst (mCons (mDraw 1 (mC (.int 256))) mNil))))) mNil)) (mCB fLen (mCons (mVar 3) mNil))))) (sRet (mC (.bl false))) sNext)
    (sSeq (sAsg 6 (mOp fIx (mNew (mLst (mCons (mC (.int 256)) (mCons (mOp fSub (mC (.int 0)) (mC (.int 1))) (mCons (mC (.bl true)) (mCons (mC (.bl false)) mNil)))))) (mDraw 1 (mC (.int 4)))))
    (sSeq (sIf (cOf (mOp fNe (mCall (fun ds => ((m__law_offset C A_Reader) ds).calm) (mCons (mNew (mOpN fCatL (mNew (mOpN fCatL (mNew (mSlL (mVar 3) oNone (oSome (mVar 4)))) (mNew (mLst (mCons (mVar 6) mNil))))) (mNew (mSlL (mVar 3) (oSome (mOp fAdd (mVar 4) (mC (.int 1)))) oNone)))) mNil)) (mVar 4))) (sRet (mC (.bl false))) sNext)
    (sIf (cOf (mOp fNe (mCall (fun ds => ((m__law_offset C A_Reader) ds).calm) (mCons (mNew (mOpN fCatL (mNew (mSlL (mVar 3) oNone (oSome (mVar 5)))) (mNew (mLst (mCons (mOp fMod (mCB fInt (mCons (mOp fAdd (mOp fAdd (mOp fIx (mVar 3) (mVar 5)) (mC (.int 1))) (mDraw 1 (mC (.int 250)))) mNil)) (mC (.int 251))) mNil))))) mNil)) (mVar 5))) (sRet (mC (.bl false))) sNext)))))))
    (sSeq (sAsg 7 (mNew (mLst (mCons (mC (.int 71)) (mCons (mC (.int 2)) (mCons (mC (.int 9)) (mCons (mC (.int 2)) (mCons (mC (.int 5)) (mCons (mC (.int 1)) (mCons (mC (.int 2)) (mCons (mC (.int 1)) (mCons (mC (.int 3)) (mCons (mC (.int 2)) (mCons (mC (.int 4)) (mCons (mC (.int 5)) mNil)))))))))))))))
    (sSeq (sIf (cOf (mOp fNotN (mCall (fun ds => ((m__law_offset C A_Reader) ds).calm) (mCons (mCall (fun ds => (m__law_checked ds).calm) (mCons (mVar 7) mNil)) mNil)) (mC .non))) (sRet (mC (.bl false))) sNext)
    (sSeq (sOwn 8 (mLst (mCons (mTup (mCons (mC (.int 70)) (mCons (mC (.int 0)) mNil))) (mCons (mTup (mCons (mC (.int 0)) (mCons (mC (.int 1)) mNil))) (mCons (mTup (mCons (mC (.int 5)) (mCons (mC (.int 1)) mNil))) (mCons (mTup (mCons (mC (.int 0)) (mCons (mC (.int 2)) mNil))) (mCons (mTup (mCons (mC (.int 100)) (mCons (mC (.int 2)) mNil))) (mCons (mTup (mCons (mC (.int 0)) (mCons (mC (.int 3)) mNil))) (mCons (mTup (mCons (mC (.int 5)) (mCons (mC (.int 3)) mNil))) (mCons (mTup (mCons (mC (.int 0)) (mCons (mC (.int 4)) mNil))) (mCons (mTup (mCons (mC (.int 100)) (mCons (mC (.int 4)) mNil))) (mCons (mTup (mCons (mC (.int 0)) (mCons (mC (.int 5)) mNil))) (mCons (mTup (mCons (mC (.int 5)) (mCons (mC (.int 5)) mNil))) (mCons (mTup (mCons (mC (.int 0)) (mCons (mC (.int 6)) mNil))) mNil))))))))))))))
    (sSeq (sApp 8 (mTup (mCons (mC (.int 6)) (mCons (mC (.int 6)) mNil))))
    (sSeq (sFz 8 (sFor (iL (mNew (mOpN fCatL (mVar 8) (mNew (mLst (mCons (mTup (mCons (mC (.int 0)) (mCons (mC (.int 7)) mNil))) (mCons (mTup (mCons (mC (.int 9)) (mCons (mC (.int 7)) mNil))) (mCons (mTup (mCons (mC (.int 0)) (mCons (mC (.int 8)) mNil))) (mCons (mTup (mCons (mC (.int 27)) (mCons (mC (.int 8)) mNil))) (mCons (mTup (mCons (mC (.int 0)) (mCons (mC (.int 9)) mNil))) (mCons (mTup (mCons (mC (.int 9)) (mCons (mC (.int 9)) mNil))) (mCons (mTup (mCons (mC (.int 0)) (mCons (mC (.int 10)) mNil))) (mCons (mTup (mCons (mC (.int 27)) (mCons (mC (.int 11)) mNil))) mNil))))))))))))) (pTup [(pName 9), (pName 10)]) (sIf (cOf (mOp fNe (mCall (fun ds => ((m__law_offset C A_Reader) ds).calm) (mCons (mCall (fun ds => (m__law_checked ds).calm) (mCons (mNew (mOpN fCatL (mNew (mOpN fCatL (mNew (mOpN fCatL (mNew (mSlL (mVar 7) oNone (oSome (mVar 10)))) (mNew (mLst (mCons (mVar 9) mNil))))) (mNew (mSlL (mVar 7) (oSome (mOp fAdd (mVar 10) (mC (.int 1)))) oNone)))) (mNew (mLst (mCons (mC (.int 0)) mNil))))) mNil)) mNil)) (mVar 10))) (sRet (mC (.bl false))) sNext)))
    (sSeq (sIf (cOf (mOp fNe (mCall (fun ds => ((m__law_offset C A_Reader) ds).calm) (mCons (mCall (fun ds => (m__law_checked ds).calm) (mCons (mNew (mLst (mCons (mC (.int 71)) (mCons (mC (.int 1)) (mCons (mC (.int 9)) (mCons (mC (.int 1)) (mCons (mC (.int 2)) (mCons (mC (.int 1)) (mCons (mC (.int 1)) (mCons (mC (.int 1)) (mCons (mC (.int 2)) mNil))))))))))) mNil)) mNil)) (mTup (mCons (mC (.str "store")) (mCons (mC (.str "crates")) mNil))))) (sRet (mC (.bl false))) sNext)
    (sRet (mOp fEq (mCall (fun ds => ((m__law_offset C A_Reader) ds).calm) (mCons (mCall (fun ds => (m__law_checked ds).calm) (mCons (mNew (mLst (mCons (mC (.int 71)) (mCons (mC (.int 2)) (mCons (mC (.int 9)) (mCons (mC (.int 4)) (mCons (mC (.int 9)) (mCons (mC (.int 4)) (mCons (mC (.int 1)) (mCons (mC (.int 1)) (mCons (mC (.int 1)) mNil))))))))))) mNil)) mNil)) (mTup (mCons (mC (.str "store")) (mCons (mC (.str "doors")) mNil))))))))))))
def m_law (C : Addr) (A_Reader : Addr) : M D := lawM 11 (b_law C A_Reader)
theorem ok_law {ct : List Str → Option Addr} {cls : Nat → Addr} {ea' : Str → Option Addr} {ef : Str → List Str} {f : Addr} {fd : FuncData} (F : Fun K "law" "law" s_law f fd) (T : ∀ (S : Addr × List Int) (r : Addr), Tx P w K mg C (rowW K ct cls ea' ef S r) ea fI) (C__law_checked : ∀ (S : Addr × List Int) (r : Addr), Cal P w K mg base CX0 1 "_law_checked" ["_law_items"] (spC (rowW K ct cls ea' ef S r) m__law_checked)) (C__law_offset : ∀ (S : Addr × List Int) (r : Addr), Cal P w K mg base CX0 7 "_law_offset" ["_law_values"] (spC (rowW K ct cls ea' ef S r) (m__law_offset C (ea "Reader")))) (C__law_store : ∀ (S : Addr × List Int) (r : Addr), Cal P w K mg base CX0 6 "_law_store" ["_law_row"] (spR (rowW K ct cls ea' ef S r) (m__law_store C))) (C__law_taken : ∀ (S : Addr × List Int) (r : Addr), Cal P w K mg base CX0 1 "_law_taken" ["_law_row", "_law_many"] (spTaken K)) (C_encode_store : ∀ (S : Addr × List Int) (r : Addr), Cal P w K mg base CX0 3 "encode_store" ["store"] (spC (rowW K ct cls ea' ef S r) m_encode_store)) (hw : Wp (m_law C (ea "Reader")) (fun d => d = .bl true) (fun _ _ => False)) : FnOk P w K mg base CX0 8 f fd ["_law_script"] (spLaw K) :=
  Mi.ok_law (ct := ct) (cls := cls) (ea := ea') (ef := ef) F sc_law (by decide) (fun cdv A outer s H E hr => ⟨_, pss_cons (ps_set (i := 1) sc_law.nd rfl (Or.inl rfl) (pe_lst (pa_cons (pv 0) (pa_cons pe_int (pa_cons pe_int (pa_cons pe_int pa_nil)))))) (pss_any fun i => (pss_cons (ps_for PassesOwn.never rfl (pi_range1 (by rfl) (T i.1 i.2).b_range (pa_cons pe_int pa_nil)) (pg_name (i := 2) sc_law.nd rfl (Or.inl rfl)) (pss_cons (ps_set (i := 3) sc_law.nd rfl (Or.inl rfl) (pe_cal (E := Cc.E0) (C_encode_store i.1 i.2) hr pass0 (pa_cons (pe_cal (E := Cc.E0) (C__law_store i.1 i.2) hr pass0 (pa_cons (pv 1) pa_nil)) pa_nil)))
      (pss_cons (ps_par (i := 4) (j := 5) rfl sc_law.nd rfl rfl (by decide) rfl rfl (pa_cons (pe_cal (E := Cc.E0) (C__law_taken i.1 i.2) hr pass0 (pa_cons (pv 1) (pa_cons (pe_callB (lenK K) (by rfl) (T i.1 i.2).b_len (by decide +kernel) (pa_cons (pv 3) pa_nil)) pa_nil))) (pa_cons (pe_op op_sub (pe_callB (lenK K) (by rfl) (T i.1 i.2).b_len (by decide +kernel) (pa_cons (pv 3) pa_nil)) pe_int) pa_nil)) (by rfl))
      (pss_cons (ps_if (PW.pt (pw_or (pt_cmpR (neK K hr.units) (pe_cal (E := Cc.E0) (C__law_offset i.1 i.2) hr pass0 (pa_cons (pe_slice (slL K) (pv 3) po_none (po_some (pv 4))) pa_nil)) (pv 4) (nomark _)) (pw_or1 (pt_cmpR (neK K hr.units) (pe_cal (E := Cc.E0) (C__law_offset i.1 i.2) hr pass0 (pa_cons (pe_op op_cat (pv 3) (pe_lst (pa_cons (pe_cal (E := Cc.E0) (C__law_taken i.1 i.2) hr pass0 (pa_cons (pv 1) (pa_cons pe_int pa_nil))) pa_nil))) pa_nil)) (pe_callB (lenK K) (by rfl) (T i.1 i.2).b_len (by decide +kernel) (pa_cons (pv 3) pa_nil)) (nomark _))))) (pss_one (ps_ret pe_bl)) pss_nil)
      (pss_cons (ps_set (i := 6) sc_law.nd rfl (Or.inl rfl) (pe_ix (ixA K) (pe_lst (pa_cons pe_int (pa_cons (pe_op op_sub pe_int pe_int) (pa_cons pe_bl (pa_cons pe_bl pa_nil))))) (pe_cal (E := Cc.E0) (C__law_taken i.1 i.2) hr pass0 (pa_cons (pv 1) (pa_cons pe_int pa_nil))) (fun _ _ => rfl)))
      (pss_cons (ps_if (pt_cmpR (neK K hr.units) (pe_cal (E := Cc.E0) (C__law_offset i.1 i.2) hr pass0 (pa_cons (pe_op op_cat (pe_op op_cat (pe_slice (slL K) (pv 3) po_none (po_some (pv 4))) (pe_lst (pa_cons (pv 6) pa_nil))) (pe_slice (slL K) (pv 3) (po_some (pe_op op_add (pv 4) pe_int)) po_none)) pa_nil)) (pv 4) (nomark _)) (pss_one (ps_ret pe_bl)) pss_nil)
      (pss_one (ps_if (pt_cmpR (neK K hr.units) (pe_cal (E := Cc.E0) (C__law_offset i.1 i.2) hr pass0 (pa_cons (pe_op op_cat (pe_slice (slL K) (pv 3) po_none (po_some (pv 5))) (pe_lst (pa_cons (pe_op op_mod (pe_callTy call_int1 (by rfl) (T i.1 i.2).b_int (by decide +kernel) (pa_cons (pe_op op_add (pe_op op_add (pe_ix (ixA K) (pv 3) (pv 5) (fun _ _ => rfl)) pe_int) (pe_cal (E := Cc.E0) (C__law_taken i.1 i.2) hr pass0 (pa_cons (pv 1) (pa_cons pe_int pa_nil)))) pa_nil)) pe_int) pa_nil))) pa_nil)) (pv 5) (nomark _)) (pss_one (ps_ret pe_bl)) pss_nil))))))))
      (pss_cons (ps_set (i := 7) sc_law.nd rfl (Or.inl rfl) (pe_lst (pa_cons pe_int (pa_cons pe_int (pa_cons pe_int (pa_cons pe_int (pa_cons pe_int (pa_cons pe_int (pa_cons pe_int (pa_cons pe_int (pa_cons pe_int (pa_cons pe_int (pa_cons pe_int (pa_cons pe_int pa_nil))))))))))))))
      (pss_cons (ps_if (pt_cmpR op_notN (pe_cal (E := Cc.E0) (C__law_offset i.1 i.2) hr pass0 (pa_cons (pe_cal (E := Cc.E0) (C__law_checked i.1 i.2) hr pass0 (pa_cons (pv 7) pa_nil)) pa_nil)) pe_non (nomark _)) (pss_one (ps_ret pe_bl)) pss_nil)
      (pss_cons (ps_set (i := 8) sc_law.nd rfl (Or.inl rfl) (pe_lst (pa_cons (pe_tupP (pa_cons pe_int (pa_cons pe_int pa_nil))) (pa_cons (pe_tupP (pa_cons pe_int (pa_cons pe_int pa_nil))) (pa_cons (pe_tupP (pa_cons pe_int (pa_cons pe_int pa_nil))) (pa_cons (pe_tupP (pa_cons pe_int (pa_cons pe_int pa_nil))) (pa_cons (pe_tupP (pa_cons pe_int (pa_cons pe_int pa_nil))) (pa_cons (pe_tupP (pa_cons pe_int (pa_cons pe_int pa_nil))) (pa_cons (pe_tupP (pa_cons pe_int (pa_cons pe_int pa_nil))) (pa_cons (pe_tupP (pa_cons pe_int (pa_cons pe_int pa_nil))) (pa_cons (pe_tupP (pa_cons pe_int (pa_cons pe_int pa_nil))) (pa_cons (pe_tupP (pa_cons pe_int (pa_cons pe_int pa_nil))) (pa_cons (pe_tupP (pa_cons pe_int (pa_cons pe_int pa_nil))) (pa_cons (pe_tupP (pa_cons pe_int (pa_cons pe_int pa_nil))) pa_nil))))))))))))))
      (pss_cons (ps_expr (pe_bm PySem.F.plainAttrs_list PySem.F.slot_list_append PySem.F.type_list_append mt_append (pv 8) (pa_cons (pe_tupP (pa_cons pe_int (pa_cons pe_int pa_nil))) pa_nil)))
      (pss_cons (ps_for PassesOwn.never rfl (pi_lK K (pe_op op_cat (pv 8) (pe_lst (pa_cons (pe_tupP (pa_cons pe_int (pa_cons pe_int pa_nil))) (pa_cons (pe_tupP (pa_cons pe_int (pa_cons pe_int pa_nil))) (pa_cons (pe_tupP (pa_cons pe_int (pa_cons pe_int pa_nil))) (pa_cons (pe_tupP (pa_cons pe_int (pa_cons pe_int pa_nil))) (pa_cons (pe_tupP (pa_cons pe_int (pa_cons pe_int pa_nil))) (pa_cons (pe_tupP (pa_cons pe_int (pa_cons pe_int pa_nil))) (pa_cons (pe_tupP (pa_cons pe_int (pa_cons pe_int pa_nil))) (pa_cons (pe_tupP (pa_cons pe_int (pa_cons pe_int pa_nil))) pa_nil))))))))))) (pg_tK K (n := 2) rfl (pgs_cons (pg_name (i := 9) sc_law.nd rfl (Or.inl rfl)) (pgs_cons (pg_name (i := 10) sc_law.nd rfl (Or.inl rfl)) pgs_nil))) (pss_one (ps_if (pt_cmpR (neK K hr.units) (pe_cal (E := Cc.E0) (C__law_offset i.1 i.2) hr pass0 (pa_cons (pe_cal (E := Cc.E0) (C__law_checked i.1 i.2) hr pass0 (pa_cons (pe_op op_cat (pe_op op_cat (pe_op op_cat (pe_slice (slL K) (pv 7) po_none (po_some (pv 10))) (pe_lst (pa_cons (pv 9) pa_nil))) (pe_slice (slL K) (pv 7) (po_some (pe_op op_add (pv 10) pe_int)) po_none)) (pe_lst (pa_cons pe_int pa_nil))) pa_nil)) pa_nil)) (pv 10) (nomark _)) (pss_one (ps_ret pe_bl)) pss_nil)))
      (pss_cons (ps_if (pt_cmpR (neK K hr.units) (pe_cal (E := Cc.E0) (C__law_offset i.1 i.2) hr pass0 (pa_cons (pe_cal (E := Cc.E0) (C__law_checked i.1 i.2) hr pass0 (pa_cons (pe_lst (pa_cons pe_int (pa_cons pe_int (pa_cons pe_int (pa_cons pe_int (pa_cons pe_int (pa_cons pe_int (pa_cons pe_int (pa_cons pe_int (pa_cons pe_int pa_nil)))))))))) pa_nil)) pa_nil)) (pe_tupP (pa_cons pe_str (pa_cons pe_str pa_nil))) (nomark _)) (pss_one (ps_ret pe_bl)) pss_nil)
      (pss_one (ps_ret (pe_cmpR (eqK K hr.units) (pe_cal (E := Cc.E0) (C__law_offset i.1 i.2) hr pass0 (pa_cons (pe_cal (E := Cc.E0) (C__law_checked i.1 i.2) hr pass0 (pa_cons (pe_lst (pa_cons pe_int (pa_cons pe_int (pa_cons pe_int (pa_cons pe_int (pa_cons pe_int (pa_cons pe_int (pa_cons pe_int (pa_cons pe_int (pa_cons pe_int pa_nil)))))))))) pa_nil)) pa_nil)) (pe_tupP (pa_cons pe_str (pa_cons pe_str pa_nil))) (nomark _)))))))))))),
    fun i => (gs_seq (gs_for (gi_range1 ge_int) gp_name (gs_seq (gs_asg (ge_call (ga_cons (ge_callR ga_nil) ga_nil)))
      (gs_seq (gs_par (ga_cons (ge_draw rowW_ok (ge_cb (ga_cons ge_var ga_nil) rc_len)) (ga_cons (ge_op (ge_cb (ga_cons ge_var ga_nil) rc_len) ge_int r2_sub) ga_nil)))
      (gs_seq (gs_if (gt_or (gt_of (ge_op (ge_call (ga_cons (GN.ge (gn_slL ge_var go_none (go_some ge_var))) ga_nil)) ge_var r2_ne)) (gt_of (ge_op (ge_call (ga_cons (GN.ge (gn_opN ge_var (GN.ge (gn_lst (ga_cons (ge_draw rowW_ok ge_int) ga_nil))) r2_catL)) ga_nil)) (ge_cb (ga_cons ge_var ga_nil) rc_len) r2_ne))) (gs_ret ge_bl) gs_next)
      (gs_seq (gs_asg (ge_op (GN.ge (gn_lst (ga_cons ge_int (ga_cons (ge_op ge_int ge_int r2_sub) (ga_cons ge_bl (ga_cons ge_bl ga_nil)))))) (ge_draw rowW_ok ge_int) r2_ix))
      (gs_seq (gs_if (gt_of (ge_op (ge_call (ga_cons (GN.ge (gn_opN (GN.ge (gn_opN (GN.ge (gn_slL ge_var go_none (go_some ge_var))) (GN.ge (gn_lst (ga_cons ge_var ga_nil))) r2_catL)) (GN.ge (gn_slL ge_var (go_some (ge_op ge_var ge_int r2_add)) go_none)) r2_catL)) ga_nil)) ge_var r2_ne)) (gs_ret ge_bl) gs_next)
      (gs_if (gt_of (ge_op (ge_call (ga_cons (GN.ge (gn_opN (GN.ge (gn_slL ge_var go_none (go_some ge_var))) (GN.ge (gn_lst (ga_cons (ge_op (ge_cb (ga_cons (ge_op (ge_op (ge_op ge_var ge_var r2_ix) ge_int r2_add) (ge_draw rowW_ok ge_int) r2_add) ga_nil) rc_int) ge_int r2_mod) ga_nil))) r2_catL)) ga_nil)) ge_var r2_ne)) (gs_ret ge_bl) gs_next)))))))
      (gs_seq (gs_asg (GN.ge (gn_lst (ga_cons ge_int (ga_cons ge_int (ga_cons ge_int (ga_cons ge_int (ga_cons ge_int (ga_cons ge_int (ga_cons ge_int (ga_cons ge_int (ga_cons ge_int (ga_cons ge_int (ga_cons ge_int (ga_cons ge_int ga_nil)))))))))))))))
      (gs_seq (gs_if (gt_of (ge_op (ge_call (ga_cons (ge_call (ga_cons ge_var ga_nil)) ga_nil)) ge_non r2_notN)) (gs_ret ge_bl) gs_next)
      (gs_seq (gs_own (gn_lst (ga_cons (ge_tup (ga_cons ge_int (ga_cons ge_int ga_nil))) (ga_cons (ge_tup (ga_cons ge_int (ga_cons ge_int ga_nil))) (ga_cons (ge_tup (ga_cons ge_int (ga_cons ge_int ga_nil))) (ga_cons (ge_tup (ga_cons ge_int (ga_cons ge_int ga_nil))) (ga_cons (ge_tup (ga_cons ge_int (ga_cons ge_int ga_nil))) (ga_cons (ge_tup (ga_cons ge_int (ga_cons ge_int ga_nil))) (ga_cons (ge_tup (ga_cons ge_int (ga_cons ge_int ga_nil))) (ga_cons (ge_tup (ga_cons ge_int (ga_cons ge_int ga_nil))) (ga_cons (ge_tup (ga_cons ge_int (ga_cons ge_int ga_nil))) (ga_cons (ge_tup (ga_cons ge_int (ga_cons ge_int ga_nil))) (ga_cons (ge_tup (ga_cons ge_int (ga_cons ge_int ga_nil))) (ga_cons (ge_tup (ga_cons ge_int (ga_cons ge_int ga_nil))) ga_nil))))))))))))))
      (gs_seq (gs_app (ge_tup (ga_cons ge_int (ga_cons ge_int ga_nil))))
      (gs_seq (gs_fz (i := 8) (gs_for (gi_list (GN.ge (gn_opN ge_var (GN.ge (gn_lst (ga_cons (ge_tup (ga_cons ge_int (ga_cons ge_int ga_nil))) (ga_cons (ge_tup (ga_cons ge_int (ga_cons ge_int ga_nil))) (ga_cons (ge_tup (ga_cons ge_int (ga_cons ge_int ga_nil))) (ga_cons (ge_tup (ga_cons ge_int (ga_cons ge_int ga_nil))) (ga_cons (ge_tup (ga_cons ge_int (ga_cons ge_int ga_nil))) (ga_cons (ge_tup (ga_cons ge_int (ga_cons ge_int ga_nil))) (ga_cons (ge_tup (ga_cons ge_int (ga_cons ge_int ga_nil))) (ga_cons (ge_tup (ga_cons ge_int (ga_cons ge_int ga_nil))) ga_nil)))))))))) r2_catL))) (gp_tup (gps_cons gp_name (gps_cons gp_name gps_nil))) (gs_if (gt_of (ge_op (ge_call (ga_cons (ge_call (ga_cons (GN.ge (gn_opN (GN.ge (gn_opN (GN.ge (gn_opN (GN.ge (gn_slL ge_var go_none (go_some ge_var))) (GN.ge (gn_lst (ga_cons ge_var ga_nil))) r2_catL)) (GN.ge (gn_slL ge_var (go_some (ge_op ge_var ge_int r2_add)) go_none)) r2_catL)) (GN.ge (gn_lst (ga_cons ge_int ga_nil))) r2_catL)) ga_nil)) ga_nil)) ge_var r2_ne)) (gs_ret ge_bl) gs_next)))
      (gs_seq (gs_if (gt_of (ge_op (ge_call (ga_cons (ge_call (ga_cons (GN.ge (gn_lst (ga_cons ge_int (ga_cons ge_int (ga_cons ge_int (ga_cons ge_int (ga_cons ge_int (ga_cons ge_int (ga_cons ge_int (ga_cons ge_int (ga_cons ge_int ga_nil))))))))))) ga_nil)) ga_nil)) (ge_tup (ga_cons ge_str (ga_cons ge_str ga_nil))) r2_ne)) (gs_ret ge_bl) gs_next)
      (gs_ret (ge_op (ge_call (ga_cons (ge_call (ga_cons (GN.ge (gn_lst (ga_cons ge_int (ga_cons ge_int (ga_cons ge_int (ga_cons ge_int (ga_cons ge_int (ga_cons ge_int (ga_cons ge_int (ga_cons ge_int (ga_cons ge_int ga_nil))))))))))) ga_nil)) ga_nil)) (ge_tup (ga_cons ge_str (ga_cons ge_str ga_nil))) r2_eq)))))))))⟩) hw.out
end
end My

namespace My
open PySem L2 Cc Mi
def v5 (C : Addr) (A_Reader : Addr) : Mi.Env → M Fl := (sIf (cOf (mOp fNe (mCall (fun ds => ((m__law_offset C A_Reader) ds).calm) (mCons (mNew (mOpN fCatL (mNew (mSlL (mVar 3) oNone (oSome (mVar 5)))) (mNew (mLst (mCons (mOp fMod (mCB fInt (mCons (mOp fAdd (mOp fAdd (mOp fIx (mVar 3) (mVar 5)) (mC (.int 1))) (mDraw 1 (mC (.int 250)))) mNil)) (mC (.int 251))) mNil))))) mNil)) (mVar 5))) (sRet (mC (.bl false))) sNext)
def v4 (C : Addr) (A_Reader : Addr) : Mi.Env → M Fl := sSeq (sIf (cOf (mOp fNe (mCall (fun ds => ((m__law_offset C A_Reader) ds).calm) (mCons (mNew (mOpN fCatL (mNew (mOpN fCatL (mNew (mSlL (mVar 3) oNone (oSome (mVar 4)))) (mNew (mLst (mCons (mVar 6) mNil))))) (mNew (mSlL (mVar 3) (oSome (mOp fAdd (mVar 4) (mC (.int 1)))) oNone)))) mNil)) (mVar 4))) (sRet (mC (.bl false))) sNext) (v5 C A_Reader)
def v3 (C : Addr) (A_Reader : Addr) : Mi.Env → M Fl := sSeq (sAsg 6 (mOp fIx (mNew (mLst (mCons (mC (.int 256)) (mCons (mOp fSub (mC (.int 0)) (mC (.int 1))) (mCons (mC (.bl true)) (mCons (mC (.bl false)) mNil)))))) (mDraw 1 (mC (.int 4))))) (v4 C A_Reader)
def v2 (C : Addr) (A_Reader : Addr) : Mi.Env → M Fl := sSeq (sIf (cOr (cOf (mOp fNe (mCall (fun ds => ((m__law_offset C A_Reader) ds).calm) (mCons (mNew (mSlL (mVar 3) oNone (oSome (mVar 4)))) mNil)) (mVar 4))) (cOf (mOp fNe (mCall (fun ds => ((m__law_offset C A_Reader) ds).calm) (mCons (mNew (mOpN fCatL (mVar 3) (mNew (mLst (mCons (mDraw 1 (mC (.int 256))) mNil))))) mNil)) (mCB fLen (mCons (mVar 3) mNil))))) (sRet (mC (.bl false))) sNext) (v3 C A_Reader)
def v1 (C : Addr) (A_Reader : Addr) : Mi.Env → M Fl := sSeq (sPar 4 5 (mCons (mDraw 1 (mCB fLen (mCons (mVar 3) mNil))) (mCons (mOp fSub (mCB fLen (mCons (mVar 3) mNil)) (mC (.int 1))) mNil))) (v2 C A_Reader)
def v0 (C : Addr) (A_Reader : Addr) : Mi.Env → M Fl := sSeq (sAsg 3 (mCall (fun ds => (m_encode_store ds).calm) (mCons (mCallR 1 (m__law_store C) mNil) mNil))) (v1 C A_Reader)
def w0 (C : Addr) (A_Reader : Addr) : Mi.Env → M Fl := (sIf (cOf (mOp fNe (mCall (fun ds => ((m__law_offset C A_Reader) ds).calm) (mCons (mCall (fun ds => (m__law_checked ds).calm) (mCons (mNew (mOpN fCatL (mNew (mOpN fCatL (mNew (mOpN fCatL (mNew (mSlL (mVar 7) oNone (oSome (mVar 10)))) (mNew (mLst (mCons (mVar 9) mNil))))) (mNew (mSlL (mVar 7) (oSome (mOp fAdd (mVar 10) (mC (.int 1)))) oNone)))) (mNew (mLst (mCons (mC (.int 0)) mNil))))) mNil)) mNil)) (mVar 10))) (sRet (mC (.bl false))) sNext)
def u7 (C : Addr) (A_Reader : Addr) : Mi.Env → M Fl := (sRet (mOp fEq (mCall (fun ds => ((m__law_offset C A_Reader) ds).calm) (mCons (mCall (fun ds => (m__law_checked ds).calm) (mCons (mNew (mLst (mCons (mC (.int 71)) (mCons (mC (.int 2)) (mCons (mC (.int 9)) (mCons (mC (.int 4)) (mCons (mC (.int 9)) (mCons (mC (.int 4)) (mCons (mC (.int 1)) (mCons (mC (.int 1)) (mCons (mC (.int 1)) mNil))))))))))) mNil)) mNil)) (mTup (mCons (mC (.str "store")) (mCons (mC (.str "doors")) mNil)))))
def u6 (C : Addr) (A_Reader : Addr) : Mi.Env → M Fl := sSeq (sIf (cOf (mOp fNe (mCall (fun ds => ((m__law_offset C A_Reader) ds).calm) (mCons (mCall (fun ds => (m__law_checked ds).calm) (mCons (mNew (mLst (mCons (mC (.int 71)) (mCons (mC (.int 1)) (mCons (mC (.int 9)) (mCons (mC (.int 1)) (mCons (mC (.int 2)) (mCons (mC (.int 1)) (mCons (mC (.int 1)) (mCons (mC (.int 1)) (mCons (mC (.int 2)) mNil))))))))))) mNil)) mNil)) (mTup (mCons (mC (.str "store")) (mCons (mC (.str "crates")) mNil))))) (sRet (mC (.bl false))) sNext) (u7 C A_Reader)
def u5 (C : Addr) (A_Reader : Addr) : Mi.Env → M Fl := sSeq (sFz 8 (sFor (iL (mNew (mOpN fCatL (mVar 8) (mNew (mLst (mCons (mTup (mCons (mC (.int 0)) (mCons (mC (.int 7)) mNil))) (mCons (mTup (mCons (mC (.int 9)) (mCons (mC (.int 7)) mNil))) (mCons (mTup (mCons (mC (.int 0)) (mCons (mC (.int 8)) mNil))) (mCons (mTup (mCons (mC (.int 27)) (mCons (mC (.int 8)) mNil))) (mCons (mTup (mCons (mC (.int 0)) (mCons (mC (.int 9)) mNil))) (mCons (mTup (mCons (mC (.int 9)) (mCons (mC (.int 9)) mNil))) (mCons (mTup (mCons (mC (.int 0)) (mCons (mC (.int 10)) mNil))) (mCons (mTup (mCons (mC (.int 27)) (mCons (mC (.int 11)) mNil))) mNil))))))))))))) (pTup [(pName 9), (pName 10)]) (w0 C A_Reader))) (u6 C A_Reader)
def u4 (C : Addr) (A_Reader : Addr) : Mi.Env → M Fl := sSeq (sApp 8 (mTup (mCons (mC (.int 6)) (mCons (mC (.int 6)) mNil)))) (u5 C A_Reader)
def u3 (C : Addr) (A_Reader : Addr) : Mi.Env → M Fl := sSeq (sOwn 8 (mLst (mCons (mTup (mCons (mC (.int 70)) (mCons (mC (.int 0)) mNil))) (mCons (mTup (mCons (mC (.int 0)) (mCons (mC (.int 1)) mNil))) (mCons (mTup (mCons (mC (.int 5)) (mCons (mC (.int 1)) mNil))) (mCons (mTup (mCons (mC (.int 0)) (mCons (mC (.int 2)) mNil))) (mCons (mTup (mCons (mC (.int 100)) (mCons (mC (.int 2)) mNil))) (mCons (mTup (mCons (mC (.int 0)) (mCons (mC (.int 3)) mNil))) (mCons (mTup (mCons (mC (.int 5)) (mCons (mC (.int 3)) mNil))) (mCons (mTup (mCons (mC (.int 0)) (mCons (mC (.int 4)) mNil))) (mCons (mTup (mCons (mC (.int 100)) (mCons (mC (.int 4)) mNil))) (mCons (mTup (mCons (mC (.int 0)) (mCons (mC (.int 5)) mNil))) (mCons (mTup (mCons (mC (.int 5)) (mCons (mC (.int 5)) mNil))) (mCons (mTup (mCons (mC (.int 0)) (mCons (mC (.int 6)) mNil))) mNil)))))))))))))) (u4 C A_Reader)
def u2 (C : Addr) (A_Reader : Addr) : Mi.Env → M Fl := sSeq (sIf (cOf (mOp fNotN (mCall (fun ds => ((m__law_offset C A_Reader) ds).calm) (mCons (mCall (fun ds => (m__law_checked ds).calm) (mCons (mVar 7) mNil)) mNil)) (mC .non))) (sRet (mC (.bl false))) sNext) (u3 C A_Reader)
def u1 (C : Addr) (A_Reader : Addr) : Mi.Env → M Fl := sSeq (sAsg 7 (mNew (mLst (mCons (mC (.int 71)) (mCons (mC (.int 2)) (mCons (mC (.int 9)) (mCons (mC (.int 2)) (mCons (mC (.int 5)) (mCons (mC (.int 1)) (mCons (mC (.int 2)) (mCons (mC (.int 1)) (mCons (mC (.int 3)) (mCons (mC (.int 2)) (mCons (mC (.int 4)) (mCons (mC (.int 5)) mNil))))))))))))))) (u2 C A_Reader)
def u0 (C : Addr) (A_Reader : Addr) : Mi.Env → M Fl := sSeq (sFor (rg1 (mC (.int 3))) (pName 2) (v0 C A_Reader)) (u1 C A_Reader)
theorem law_u (C : Addr) (A_Reader : Addr) : b_law C A_Reader = u0 C A_Reader := rfl
end My

/-! warmth hour by hour (pure) -/
namespace Wm
def wl (l : List (Int × Int)) (j : Nat) : Int := (l.getD j (0, 0)).1
def rise (l : List (Int × Int)) (ws : List Int) : Option Nat → List Int
  | none => ws
  | some j => ws.set j (ws.getD j 0 + wl l j)
def cool (c : Int) (ws : List Int) : List Int := ws.map fun w => max 0 (w - c)
def hour (l : List (Int × Int)) (c : Int) (ws : List Int) (o : Option Nat) : List Int := cool c (rise l ws o)
def run (l : List (Int × Int)) (c : Int) (hs : List (Option Nat)) (ws : List Int) : List Int := hs.foldl (hour l c) ws
abbrev cold (l : List (Int × Int)) : List Int := List.replicate l.length 0
theorem rise_len (l : List (Int × Int)) (ws : List Int) (o : Option Nat) : (rise l ws o).length = ws.length := by cases o <;> simp [rise]
theorem hour_len (l : List (Int × Int)) (c : Int) (ws : List Int) (o : Option Nat) : (hour l c ws o).length = ws.length := by simp [hour, cool, rise_len]
theorem run_len (l : List (Int × Int)) (c : Int) : ∀ (hs : List (Option Nat)) (ws : List Int), (run l c hs ws).length = ws.length
  | [], ws => rfl
  | o :: hs, ws => by
    have := run_len l c hs (hour l c ws o)
    rw [hour_len] at this
    exact this
theorem run_snoc (l : List (Int × Int)) (c : Int) (hs : List (Option Nat)) (o : Option Nat) (ws : List Int) : run l c (hs ++ [o]) ws = hour l c (run l c hs ws) o := by simp [run]
/-- all doors of a day are doors of the store -/
def InDay (n : Nat) (hs : List (Option Nat)) : Prop := ∀ o ∈ hs, ∀ j, o = some j → j < n
def hgt (l : List (Int × Int)) (ws : List Int) : Option Nat → Int
  | none => 0
  | some j => (rise l ws (some j)).getD j 0
/-- the warmth of the opened door, hour by hour -/
def heights (l : List (Int × Int)) (c : Int) : List (Option Nat) → List Int → List Int
  | [], _ => []
  | o :: hs, ws => hgt l ws o :: heights l c hs (hour l c ws o)
theorem heights_len (l : List (Int × Int)) (c : Int) : ∀ (hs : List (Option Nat)) (ws : List Int), (heights l c hs ws).length = hs.length
  | [], _ => rfl
  | o :: hs, ws => by simp [heights, heights_len l c hs]
theorem heights_app (l : List (Int × Int)) (c : Int) : ∀ (hs gs : List (Option Nat)) (ws : List Int), heights l c (hs ++ gs) ws = heights l c hs ws ++ heights l c gs (run l c hs ws)
  | [], _, _ => rfl
  | o :: hs, gs, ws => by
    show _ :: heights l c (hs ++ gs) (hour l c ws o) = _ :: (heights l c hs (hour l c ws o) ++ _)
    rw [heights_app l c hs gs]
    rfl
def far (l : List (Int × Int)) (c : Int) (day : List (Option Nat)) (days : Int) : List Int :=
  if days = 0 then cold l else List.zipWith (fun e t => e + (days - 1) * (t - e)) (run l c day (cold l)) (run l c day (run l c day (cold l)))
theorem cold_len (l : List (Int × Int)) : (cold l).length = l.length := by simp
theorem far_len (l : List (Int × Int)) (c : Int) (day : List (Option Nat)) (days : Int) : (far l c day days).length = l.length := by
  unfold far
  split
  · exact cold_len l
  · simp [run_len]
def warmZ (l : List (Int × Int)) (c : Int) (day : List (Option Nat)) (count : Int) : List Int := run l c (day.take (count % day.length).toNat) (far l c day (count / day.length))

/-! one door -/
/-- what an hour adds to the warmth of the door d -/
def add (l : List (Int × Int)) (c : Int) (d : Nat) (o : Option Nat) : Int := (if o = some d then wl l d else 0) - c
def one (l : List (Int × Int)) (c : Int) (d : Nat) (x : Int) (o : Option Nat) : Int := max 0 (x + add l c d o)
def runD (l : List (Int × Int)) (c : Int) (d : Nat) (hs : List (Option Nat)) (x : Int) : Int := hs.foldl (one l c d) x
theorem hour_get (l : List (Int × Int)) (c : Int) (ws : List Int) (o : Option Nat) (d : Nat) (hd : d < ws.length) : (hour l c ws o).getD d 0 = one l c d (ws.getD d 0) o := by
  have h1 : d < (hour l c ws o).length := by rw [hour_len]; exact hd
  have h2 : d < (rise l ws o).length := by rw [rise_len]; exact hd
  have e : (hour l c ws o).getD d 0 = max 0 ((rise l ws o).getD d 0 - c) := by
    simp [hour, cool, h2]
  rw [e]
  unfold one add
  cases o with
  | none => simp [rise] <;> congr 1
  | some j =>
    by_cases h : j = d
    · subst h
      simp [rise, hd]
      congr 1
      omega
    · have h' : ¬ (some j = some d) := fun z => h (Option.some.inj z)
      simp only [rise, if_neg h']
      rw [List.getD_eq_getElem?_getD, List.getElem?_set_ne h, ← List.getD_eq_getElem?_getD]
      congr 1
      omega
theorem run_get (l : List (Int × Int)) (c : Int) (d : Nat) : ∀ (hs : List (Option Nat)) (ws : List Int), d < ws.length → (run l c hs ws).getD d 0 = runD l c d hs (ws.getD d 0)
  | [], _, _ => rfl
  | o :: hs, ws, hd => by
    show (run l c hs (hour l c ws o)).getD d 0 = runD l c d hs (one l c d (ws.getD d 0) o)
    rw [run_get l c d hs _ (by rw [hour_len]; exact hd), hour_get l c ws o d hd]
/-- what is added in all, and the least there is behind -/
def gain (l : List (Int × Int)) (c : Int) (d : Nat) (hs : List (Option Nat)) : Int := (hs.map (add l c d)).sum
def low (l : List (Int × Int)) (c : Int) (d : Nat) : List (Option Nat) → Int → Int := runD l c d
section
variable {l : List (Int × Int)} {c : Int} {d : Nat}
theorem gain_app (p s : List (Option Nat)) : gain l c d (p ++ s) = gain l c d p + gain l c d s := by simp [gain]
theorem runD_app (p s : List (Option Nat)) (x : Int) : runD l c d (p ++ s) x = runD l c d s (runD l c d p x) := by simp [runD]
theorem runD_nn (hs : List (Option Nat)) : ∀ x, 0 ≤ x → 0 ≤ runD l c d hs x := by
  induction hs with
  | nil => intro x h; exact h
  | cons o hs ih => intro x _; exact ih _ (by unfold one; omega)
/-- the warmth behind some hours -/
theorem runD_max : ∀ (hs : List (Option Nat)) (x : Int), 0 ≤ x → runD l c d hs x = max (runD l c d hs 0) (x + gain l c d hs)
  | [], x, h => by simp [runD, gain]; omega
  | o :: hs, x, h => by
    show runD l c d hs (one l c d x o) = max (runD l c d hs (one l c d 0 o)) _
    rw [runD_max hs (one l c d x o) (by unfold one; omega), runD_max hs (one l c d 0 o) (by unfold one; omega)]
    have e : gain l c d (o :: hs) = add l c d o + gain l c d hs := by simp [gain]
    rw [e]
    unfold one
    have h0 := runD_nn (l := l) (c := c) (d := d) hs 0 (Int.le_refl _)
    have hz := runD_max hs 0 (Int.le_refl _)
    omega
theorem runD_mono (hs : List (Option Nat)) {x y : Int} (h : x ≤ y) (h0 : 0 ≤ x) : runD l c d hs x ≤ runD l c d hs y := by
  rw [runD_max hs x h0, runD_max hs y (by omega)]
  omega
/-- so many days -/
def daysD (l : List (Int × Int)) (c : Int) (d : Nat) (day : List (Option Nat)) : Nat → Int
  | 0 => 0
  | q + 1 => runD l c d day (daysD l c d day q)
theorem daysD_nn (day : List (Option Nat)) : ∀ q, 0 ≤ daysD l c d day q
  | 0 => Int.le_refl _
  | q + 1 => runD_nn day _ (daysD_nn day q)
/-- each day behind the first one adds the same -/
theorem daysD_lin (day : List (Option Nat)) : ∀ q : Nat, daysD l c d day (q + 1) = runD l c d day 0 + q * max 0 (gain l c d day)
  | 0 => by simp [daysD]
  | q + 1 => by
    show runD l c d day (daysD l c d day (q + 1)) = _
    have ih := daysD_lin day q
    have nn := daysD_nn (l := l) (c := c) (d := d) day (q + 1)
    rw [runD_max day _ nn, ih]
    have h0 := runD_max (l := l) (c := c) (d := d) day 0 (Int.le_refl _)
    have h1 := runD_nn (l := l) (c := c) (d := d) day 0 (Int.le_refl _)
    have em : ((q + 1 : Nat) : Int) * max 0 (gain l c d day) = q * max 0 (gain l c d day) + max 0 (gain l c d day) := by
      rw [Int.natCast_add, Int.add_mul]; simp
    have qn : 0 ≤ (q : Int) * max 0 (gain l c d day) := Int.mul_nonneg (by omega) (by omega)
    rw [em]
    by_cases g : 0 ≤ gain l c d day
    · have : max 0 (gain l c d day) = gain l c d day := by omega
      rw [this] at qn ⊢
      omega
    · have : max 0 (gain l c d day) = 0 := by omega
      rw [this, Int.mul_zero]
      omega
/-- within a day behind the first one -/
theorem part_lin (p s : List (Option Nat)) (q : Nat) : runD l c d p (daysD l c d (p ++ s) (q + 1)) = runD l c d p (daysD l c d (p ++ s) 1) + q * max 0 (gain l c d (p ++ s)) := by
  rw [daysD_lin, daysD_lin]
  have e0 := runD_nn (l := l) (c := c) (d := d) (p ++ s) 0 (Int.le_refl _)
  have qn : 0 ≤ (q : Int) * max 0 (gain l c d (p ++ s)) := Int.mul_nonneg (by omega) (by omega)
  rw [runD_max p _ (by omega), runD_max p (_ + ((0 : Nat) : Int) * _) (by simp; omega)]
  have p0 := runD_nn (l := l) (c := c) (d := d) p 0 (Int.le_refl _)
  have h1 : runD l c d (p ++ s) 0 = max (runD l c d s 0) (runD l c d p 0 + gain l c d s) := by rw [runD_app, runD_max s _ p0]
  have h2 := gain_app (l := l) (c := c) (d := d) p s
  have h3 := runD_max (l := l) (c := c) (d := d) (p ++ s) 0 (Int.le_refl _)
  simp only [Int.natCast_zero, Int.zero_mul, Int.add_zero]
  by_cases g : 0 < gain l c d (p ++ s)
  · have : max 0 (gain l c d (p ++ s)) = gain l c d (p ++ s) := by omega
    rw [this] at qn ⊢
    omega
  · have : max 0 (gain l c d (p ++ s)) = 0 := by omega
    rw [this, Int.mul_zero]
    omega
end
/-! all doors, so many days -/
def days (l : List (Int × Int)) (c : Int) (day : List (Option Nat)) : Nat → List Int
  | 0 => cold l
  | q + 1 => run l c day (days l c day q)
theorem days_len (l : List (Int × Int)) (c : Int) (day : List (Option Nat)) : ∀ q, (days l c day q).length = l.length
  | 0 => cold_len l
  | q + 1 => by rw [days, run_len, days_len l c day q]
theorem days_get (l : List (Int × Int)) (c : Int) (day : List (Option Nat)) (d : Nat) (hd : d < l.length) : ∀ q, (days l c day q).getD d 0 = daysD l c d day q
  | 0 => by simp [days, daysD, cold, hd]
  | q + 1 => by rw [days, run_get l c d day _ (by rw [days_len]; exact hd), days_get l c day d hd q]; rfl
theorem ext_getD {xs ys : List Int} (h : xs.length = ys.length) (k : ∀ i, i < xs.length → xs.getD i 0 = ys.getD i 0) : xs = ys := by
  refine List.ext_getElem h fun i h1 h2 => ?_
  have := k i h1
  simpa [h1, h2] using this
theorem far_days (l : List (Int × Int)) (c : Int) (day : List (Option Nat)) (q : Nat) : far l c day q = days l c day q := by
  refine ext_getD (by rw [far_len, days_len]) fun d hd => ?_
  rw [far_len] at hd
  rw [days_get l c day d hd]
  have c0 : (cold l).getD d 0 = 0 := by simp [cold, hd]
  have lc : d < (cold l).length := by rw [cold_len]; exact hd
  cases q with
  | zero => simp [far, daysD, cold, hd]
  | succ q =>
    have n0 : ¬ ((q + 1 : Nat) : Int) = 0 := by omega
    rw [far, if_neg n0]
    have h1 : d < (run l c day (cold l)).length := by rw [run_len, cold_len]; exact hd
    have h2 : d < (run l c day (run l c day (cold l))).length := by rw [run_len]; exact h1
    have g1 := run_get l c d day (cold l) lc
    have g2 := run_get l c d day (run l c day (cold l)) h1
    rw [c0] at g1
    rw [g1] at g2
    rw [List.getD_eq_getElem?_getD, List.getElem?_eq_getElem h1] at g1
    rw [List.getD_eq_getElem?_getD, List.getElem?_eq_getElem h2] at g2
    simp only [Option.getD_some] at g1 g2
    have z : (List.zipWith (fun e t => e + (((q + 1 : Nat) : Int) - 1) * (t - e)) (run l c day (cold l)) (run l c day (run l c day (cold l)))).getD d 0 = runD l c d day 0 + (((q + 1 : Nat) : Int) - 1) * (runD l c d day (runD l c d day 0) - runD l c d day 0) := by
      rw [List.getD_eq_getElem?_getD, List.getElem?_zipWith, List.getElem?_eq_getElem h1, List.getElem?_eq_getElem h2]
      simp only [Option.getD_some, g1, g2]
    rw [z, daysD_lin]
    have l1 := daysD_lin (l := l) (c := c) (d := d) day 1
    have e1 : daysD l c d day (1 + 1) = runD l c d day (runD l c d day 0) := rfl
    rw [e1] at l1
    have e2 : ((1 : Nat) : Int) * max 0 (gain l c d day) = max 0 (gain l c d day) := by simp
    rw [e2] at l1
    have e3 : runD l c d day (runD l c d day 0) - runD l c d day 0 = max 0 (gain l c d day) := by omega
    rw [e3]
    congr 2
    omega
/-- the hours of days in a row -/
def seq (day : List (Option Nat)) (m : Nat) : List (Option Nat) := (List.range m).map fun h => day.getD (h % day.length) none
theorem seq_len (day : List (Option Nat)) (m : Nat) : (seq day m).length = m := by simp [seq]
theorem seq_add (day : List (Option Nat)) (q r : Nat) (hr : r ≤ day.length) : seq day (q * day.length + r) = seq day (q * day.length) ++ day.take r := by
  unfold seq
  rw [List.range_add, List.map_append, List.map_map]
  congr 1
  refine List.ext_getElem (by simp; omega) fun i h1 h2 => ?_
  have hi : i < r := by simpa using h1
  have hi2 : i < day.length := by omega
  simp [Nat.mul_add_mod_self_right, Nat.mod_eq_of_lt hi2, hi2]
theorem seq_days (day : List (Option Nat)) : ∀ q, run l c (seq day (q * day.length)) (cold l) = days l c day q
  | 0 => by simp [seq, run, days]
  | q + 1 => by
    have e : (q + 1) * day.length = q * day.length + day.length := by rw [Nat.add_mul, Nat.one_mul]
    rw [e, seq_add day q day.length (Nat.le_refl _), List.take_length]
    show run l c (_ ++ _) _ = run l c day (days l c day q)
    rw [← seq_days day q]
    simp [run]
/-- warmths is what the hours one by one bring -/
theorem warm_seq (l : List (Int × Int)) (c : Int) (day : List (Option Nat)) (hd : 0 < day.length) (m : Nat) : warmZ l c day m = run l c (seq day m) (cold l) := by
  have e : m = m / day.length * day.length + m % day.length := by rw [Nat.mul_comm]; exact (Nat.div_add_mod m day.length).symm
  have hr := Nat.mod_lt m hd
  unfold warmZ
  rw [show ((m : Int) % (day.length : Nat)).toNat = m % day.length by rw [← Int.natCast_emod, Int.toNat_natCast], show (m : Int) / (day.length : Nat) = ((m / day.length : Nat) : Int) from (Int.natCast_ediv m day.length).symm, far_days]
  conv => rhs; rw [e, seq_add day _ _ (by omega)]
  rw [← seq_days]
  simp [run]
end Wm

/-! the first hour that is too warm (pure) -/
namespace Wm
open Cc (minP ltP)
theorem minP_mem : ∀ (ps : List (Int × Int)) (p : Int × Int), minP p ps ∈ p :: ps
  | [], p => List.mem_cons_self
  | q :: ps, p => by
    have ih := minP_mem ps (if ltP q p then q else p)
    have e : minP p (q :: ps) = minP (if ltP q p then q else p) ps := rfl
    rw [e]
    rcases List.mem_cons.mp ih with h | h
    · rw [h]
      by_cases c : ltP q p = true
      · rw [if_pos c]; simp
      · rw [if_neg c]; simp
    · exact List.mem_cons_of_mem _ (List.mem_cons_of_mem _ h)
theorem minP_le : ∀ (ps : List (Int × Int)) (p : Int × Int), ∀ x ∈ p :: ps, (minP p ps).1 ≤ x.1
  | [], p, x, h => by rw [List.mem_singleton.mp h]; exact Int.le_refl _
  | q :: ps, p, x, h => by
    have ih := minP_le ps (if ltP q p then q else p)
    have e : minP p (q :: ps) = minP (if ltP q p then q else p) ps := rfl
    rw [e]
    have base := ih _ List.mem_cons_self
    have hq : (if ltP q p then q else p).1 ≤ q.1 ∧ (if ltP q p then q else p).1 ≤ p.1 := by
      by_cases c : ltP q p = true
      · rw [if_pos c]
        simp only [ltP, decide_eq_true_eq] at c
        omega
      · rw [if_neg c]
        simp only [ltP, decide_eq_true_eq] at c
        omega
    rcases List.mem_cons.mp h with rfl | h
    · omega
    · rcases List.mem_cons.mp h with rfl | h
      · omega
      · exact ih x (List.mem_cons_of_mem _ h)
section
variable {l : List (Int × Int)} {c : Int} {day : List (Option Nat)}
/-- the warmth of the door opened in an hour, before it falls -/
def hv (l : List (Int × Int)) (c : Int) (day : List (Option Nat)) (m : Nat) : Int := hgt l (run l c (seq day m) (cold l)) (day.getD (m % day.length) none)
theorem seq_succ (day : List (Option Nat)) (m : Nat) : seq day (m + 1) = seq day m ++ [day.getD (m % day.length) none] := by
  unfold seq
  rw [List.range_succ, List.map_append]
  rfl
theorem heights_seq (l : List (Int × Int)) (c : Int) (day : List (Option Nat)) : ∀ m, heights l c (seq day m) (cold l) = (List.range m).map (hv l c day)
  | 0 => rfl
  | m + 1 => by
    rw [seq_succ, heights_app, heights_seq l c day m, List.range_succ, List.map_append]
    rfl
theorem seq_three (day : List (Option Nat)) : day ++ (day ++ (day ++ [])) = seq day (3 * day.length) := by
  have e : 3 * day.length = 2 * day.length + day.length := by omega
  have e2 : 2 * day.length = 1 * day.length + day.length := by omega
  have e1 : 1 * day.length = 0 * day.length + day.length := by omega
  have z : seq day (0 * day.length) = [] := by simp [seq]
  rw [e, seq_add day 2 _ (Nat.le_refl _), e2, seq_add day 1 _ (Nat.le_refl _), e1, seq_add day 0 _ (Nat.le_refl _), z, List.take_length]
  simp
/-- the warmth in the i-th hour of the q-th day -/
theorem hv_at {i j : Nat} (hi : i < day.length) (ho : day.getD i none = some j) (hj : j < l.length) (q : Nat) : hv l c day (q * day.length + i) = runD l c j (day.take i) (daysD l c j day q) + wl l j := by
  have hm : (q * day.length + i) % day.length = i := by rw [Nat.mul_add_mod_self_right, Nat.mod_eq_of_lt hi]
  unfold hv
  rw [hm, ho, seq_add day q i (by omega)]
  have e : run l c (seq day (q * day.length) ++ day.take i) (cold l) = run l c (day.take i) (days l c day q) := by
    rw [← seq_days]
    simp [run]
  rw [e]
  have hl : j < (run l c (day.take i) (days l c day q)).length := by rw [run_len, days_len]; exact hj
  have g := run_get l c j (day.take i) (days l c day q) (by rw [days_len]; exact hj)
  rw [days_get l c day j hj] at g
  have : hgt l (run l c (day.take i) (days l c day q)) (some j) = (run l c (day.take i) (days l c day q)).getD j 0 + wl l j := by
    unfold hgt rise
    simp [hl]
  rw [this, g]
theorem hv_none {m : Nat} (ho : day.getD (m % day.length) none = none) : hv l c day m = 0 := by
  unfold hv
  rw [ho]
  rfl
/-- from the second day on the same is added each day -/
def slope (l : List (Int × Int)) (c : Int) (day : List (Option Nat)) (j : Nat) : Int := max 0 (gain l c j day)
theorem hv_lin {i j : Nat} (hi : i < day.length) (ho : day.getD i none = some j) (hj : j < l.length) (q : Nat) : hv l c day ((q + 1) * day.length + i) = hv l c day (1 * day.length + i) + q * slope l c day j := by
  rw [hv_at hi ho hj, hv_at hi ho hj]
  have e : day.take i ++ day.drop i = day := List.take_append_drop i day
  have := part_lin (l := l) (c := c) (d := j) (day.take i) (day.drop i) q
  rw [e] at this
  unfold slope
  omega
theorem hv_first {i j : Nat} (hi : i < day.length) (ho : day.getD i none = some j) (hj : j < l.length) : hv l c day (0 * day.length + i) ≤ hv l c day (1 * day.length + i) := by
  rw [hv_at hi ho hj, hv_at hi ho hj]
  have := runD_mono (l := l) (c := c) (d := j) (day.take i) (daysD_nn (l := l) (c := c) (d := j) day 1) (Int.le_refl _)
  have z : daysD l c j day 0 = 0 := rfl
  rw [z]
  omega
theorem gain_le (hw : ∀ j, wl l j ≤ 99) (hc : 1 ≤ c) (d : Nat) : ∀ hs : List (Option Nat), gain l c d hs ≤ 98 * hs.length
  | [] => by simp [gain]
  | o :: hs => by
    have ih := gain_le hw hc d hs
    have e : gain l c d (o :: hs) = add l c d o + gain l c d hs := by simp [gain]
    have ha : add l c d o ≤ 98 := by
      unfold add
      have := hw d
      split <;> omega
    rw [e, List.length_cons]
    omega
end
/-- on which day a height is greater than a limit -/
def daysZ (a b c lim : Int) : Option Int := if a > lim then some 0 else if b > lim then some 1 else if c - b = 0 then none else some (2 + (lim - b) / (c - b))
theorem daysZ_spec {h : Nat → Int} {g lim : Int} (h01 : h 0 ≤ h 1) (hl : ∀ q : Nat, h (q + 1) = h 1 + q * g) (hg : 0 ≤ g) :
    match daysZ (h 0) (h 1) (h 2) lim with
    | none => ∀ q, h q ≤ lim
    | some t => ∃ m : Nat, t = m ∧ h m > lim ∧ ∀ q < m, h q ≤ lim := by
  have h2 : h 2 = h 1 + g := by have := hl 1; simpa using this
  unfold daysZ
  by_cases c0 : h 0 > lim
  · rw [if_pos c0]
    exact ⟨0, rfl, c0, fun q hq => absurd hq (by omega)⟩
  · rw [if_neg c0]
    by_cases c1 : h 1 > lim
    · rw [if_pos c1]
      refine ⟨1, rfl, c1, fun q hq => ?_⟩
      have : q = 0 := by omega
      subst this
      omega
    · rw [if_neg c1]
      by_cases c2 : h 2 - h 1 = 0
      · rw [if_pos c2]
        intro q
        cases q with
        | zero => omega
        | succ q =>
          have hz : g = 0 := by omega
          rw [hl q, hz, Int.mul_zero]
          omega
      · rw [if_neg c2]
        have hgp : 0 < g := by omega
        have eg : h 2 - h 1 = g := by omega
        rw [eg]
        have d0 : 0 ≤ (lim - h 1) / g := Int.ediv_nonneg (by omega) hg
        have dm := Int.emod_add_mul_ediv (lim - h 1) g
        have r0 := Int.emod_nonneg (lim - h 1) (by omega : g ≠ 0)
        have r1 := Int.emod_lt_of_pos (lim - h 1) hgp
        obtain ⟨k, hk⟩ : ∃ k : Nat, (lim - h 1) / g = k := ⟨((lim - h 1) / g).toNat, by omega⟩
        rw [hk] at dm d0 ⊢
        refine ⟨k + 2, by omega, ?_, fun q hq => ?_⟩
        · have e := hl (k + 1)
          have e2 : ((k + 1 : Nat) : Int) * g = g * k + g := by rw [Int.natCast_add, Int.add_mul, Int.mul_comm g]; simp
          rw [show k + 2 = (k + 1) + 1 by omega, e, e2]
          omega
        · cases q with
          | zero => omega
          | succ q =>
            have hq' : q ≤ k := by omega
            have m1 : (q : Int) * g ≤ (k : Int) * g := Int.mul_le_mul_of_nonneg_right (by omega) hg
            have m2 : (k : Int) * g = g * k := Int.mul_comm _ _
            rw [hl q]
            omega
section
variable {l : List (Int × Int)} {c : Int} {day : List (Option Nat)} {lim : Int}
def Hot (l : List (Int × Int)) (c : Int) (day : List (Option Nat)) (lim : Int) (m : Nat) : Prop := ∃ j, day.getD (m % day.length) none = some j ∧ hv l c day m > lim
/-- it is the first hour that is too warm, and its door -/
def IsFirst (l : List (Int × Int)) (c : Int) (day : List (Option Nat)) (lim : Int) : Option (Int × Int) → Prop
  | none => ∀ m, ¬ Hot l c day lim m
  | some p => ∃ m j : Nat, p = ((m : Int), (j : Int)) ∧ day.getD (m % day.length) none = some j ∧ hv l c day m > lim ∧ ∀ m' < m, ¬ Hot l c day lim m'
theorem first_unique {a b : Option (Int × Int)} (ha : IsFirst l c day lim a) (hb : IsFirst l c day lim b) : a = b := by
  cases a with
  | none =>
    cases b with
    | none => rfl
    | some q =>
      obtain ⟨m, j, _, h1, h2, _⟩ := hb
      exact absurd ⟨j, h1, h2⟩ (ha m)
  | some p =>
    obtain ⟨m, j, rfl, h1, h2, h3⟩ := ha
    cases b with
    | none => exact absurd ⟨j, h1, h2⟩ (hb m)
    | some q =>
      obtain ⟨m', j', rfl, g1, g2, g3⟩ := hb
      have e : m = m' := by
        rcases Nat.lt_trichotomy m m' with h | h | h
        · exact absurd ⟨j, h1, h2⟩ (g3 m h)
        · exact h
        · exact absurd ⟨j', g1, g2⟩ (h3 m' h)
      subst e
      rw [h1] at g1
      cases g1
      rfl
/-- the program's pairs -/
def thawAt (l : List (Int × Int)) (c : Int) (day : List (Option Nat)) (lim : Int) (i : Nat) : Option (Int × Int) := match day.getD i none with
  | none => none
  | some j => (daysZ (hv l c day (0 * day.length + i)) (hv l c day (1 * day.length + i)) (hv l c day (2 * day.length + i)) lim).map fun t => (t * (day.length : Nat) + (i : Nat), (j : Int))
def thawL (l : List (Int × Int)) (c : Int) (day : List (Option Nat)) (lim : Int) : List (Int × Int) := (List.range day.length).filterMap (thawAt l c day lim)
def thawZ (l : List (Int × Int)) (c : Int) (day : List (Option Nat)) (lim : Int) : Option (Int × Int) := match thawL l c day lim with
  | [] => none
  | p :: ps => some (minP p ps)
theorem day_spec {i j : Nat} (hin : InDay l.length day) (hi : i < day.length) (ho : day.getD i none = some j) :
    match daysZ (hv l c day (0 * day.length + i)) (hv l c day (1 * day.length + i)) (hv l c day (2 * day.length + i)) lim with
    | none => ∀ q, hv l c day (q * day.length + i) ≤ lim
    | some t => ∃ m : Nat, t = m ∧ hv l c day (m * day.length + i) > lim ∧ ∀ q < m, hv l c day (q * day.length + i) ≤ lim := by
  have hj : j < l.length := hin (day.getD i none) (by rw [List.getD_eq_getElem?_getD, List.getElem?_eq_getElem hi]; exact List.getElem_mem hi) j ho
  exact daysZ_spec (h := fun q => hv l c day (q * day.length + i)) (g := slope l c day j) (hv_first hi ho hj) (fun q => hv_lin hi ho hj q) (by unfold slope; omega)
theorem split_hour (m : Nat) (hd : 0 < day.length) : m = m / day.length * day.length + m % day.length ∧ m % day.length < day.length := ⟨by rw [Nat.mul_comm]; exact (Nat.div_add_mod m day.length).symm, Nat.mod_lt m hd⟩
theorem thaw_first (hin : InDay l.length day) (hd : 0 < day.length) : IsFirst l c day lim (thawZ l c day lim) := by
  -- an hour that is too warm has a pair that is not later
  have key : ∀ m, Hot l c day lim m → ∃ p ∈ thawL l c day lim, p.1 ≤ (m : Int) := by
    rintro m ⟨j, h1, h2⟩
    obtain ⟨e, hr⟩ := split_hour (day := day) m hd
    have sp := day_spec (c := c) (lim := lim) hin hr h1
    generalize hz : daysZ _ _ _ lim = z at sp
    rw [e] at h2
    cases z with
    | none => exact absurd (sp (m / day.length)) (by omega)
    | some t =>
      obtain ⟨k, rfl, h3, h4⟩ := sp
      refine ⟨((k : Int) * (day.length : Nat) + ((m % day.length : Nat) : Int), (j : Int)), List.mem_filterMap.mpr ⟨m % day.length, List.mem_range.mpr hr, ?_⟩, ?_⟩
      · unfold thawAt
        rw [h1]
        simp only [hz, Option.map_some]
      · have hk : k ≤ m / day.length := Nat.le_of_not_lt fun hlt => by
          have := h4 _ hlt
          omega
        have := Nat.mul_le_mul_right day.length hk
        have e3 : (k : Int) * (day.length : Nat) = ((k * day.length : Nat) : Int) := by simp
        show (k : Int) * (day.length : Nat) + _ ≤ _
        rw [e3]
        omega
  unfold thawZ
  cases hL : thawL l c day lim with
  | nil =>
    intro m hm
    obtain ⟨p, hp, _⟩ := key m hm
    rw [hL] at hp
    cases hp
  | cons p ps =>
    have hm := minP_mem ps p
    have hl := minP_le ps p
    rw [← hL] at hm hl
    obtain ⟨i, hi, he⟩ := List.mem_filterMap.mp hm
    have hi' := List.mem_range.mp hi
    unfold thawAt at he
    cases ho : day.getD i none with
    | none => rw [ho] at he; cases he
    | some j =>
      rw [ho] at he
      have sp := day_spec (c := c) (lim := lim) hin hi' ho
      generalize hz : daysZ _ _ _ lim = z at sp he
      cases z with
      | none => cases he
      | some t =>
        obtain ⟨k, rfl, h3, h4⟩ := sp
        have he' := Option.some.inj he
        have hmod : (k * day.length + i) % day.length = i := by rw [Nat.mul_add_mod_self_right, Nat.mod_eq_of_lt hi']
        refine ⟨k * day.length + i, j, ?_, by rw [hmod]; exact ho, h3, fun m' hlt hot => ?_⟩
        · rw [← he']
          simp
        · obtain ⟨p', hp', hle⟩ := key m' hot
          have := hl p' hp'
          rw [← he'] at this
          have e3 : (k : Int) * (day.length : Nat) = ((k * day.length : Nat) : Int) := by simp
          simp only [e3] at this
          omega
end
end Wm

/-! the law's first hour that is too warm (pure) -/
namespace Wm
open Cc (minP ltP)
section
variable {l : List (Int × Int)} {c : Int} {day : List (Option Nat)} {lim : Int}
def minO : List (Int × Int) → Option (Int × Int)
  | [] => none
  | p :: ps => some (minP p ps)
theorem first_of (f : Nat → Option (Int × Int)) (hd : 0 < day.length) (sp : ∀ i < day.length, (f i = none ∧ ∀ j, day.getD i none = some j → ∀ q : Nat, hv l c day (q * day.length + i) ≤ lim) ∨
    ∃ m j : Nat, f i = some (((m * day.length + i : Nat) : Int), (j : Int)) ∧ day.getD i none = some j ∧ hv l c day (m * day.length + i) > lim ∧ ∀ q < m, hv l c day (q * day.length + i) ≤ lim) :
    IsFirst l c day lim (minO ((List.range day.length).filterMap f)) := by
  have key : ∀ m, Hot l c day lim m → ∃ p ∈ (List.range day.length).filterMap f, p.1 ≤ (m : Int) := by
    rintro m ⟨j, h1, h2⟩
    obtain ⟨e, hr⟩ := split_hour (day := day) m hd
    rw [e] at h2
    rcases sp _ hr with ⟨h, h'⟩ | ⟨k, j', h, h3, h4, h5⟩
    · exact absurd (h' j h1 (m / day.length)) (by omega)
    · refine ⟨_, List.mem_filterMap.mpr ⟨m % day.length, List.mem_range.mpr hr, h⟩, ?_⟩
      have hk : k ≤ m / day.length := Nat.le_of_not_lt fun hlt => by
        have := h5 _ hlt
        omega
      have := Nat.mul_le_mul_right day.length hk
      show ((k * day.length + m % day.length : Nat) : Int) ≤ _
      omega
  cases hL : (List.range day.length).filterMap f with
  | nil =>
    intro m hm
    obtain ⟨p, hp, _⟩ := key m hm
    rw [hL] at hp
    cases hp
  | cons p ps =>
    have hm := minP_mem ps p
    have hl := minP_le ps p
    rw [← hL] at hm hl
    obtain ⟨i, hi, he⟩ := List.mem_filterMap.mp hm
    have hi' := List.mem_range.mp hi
    rcases sp _ hi' with ⟨h, _⟩ | ⟨k, j, h, h3, h4, h5⟩
    · rw [h] at he; cases he
    · rw [h] at he
      have he' := Option.some.inj he
      have hmod : (k * day.length + i) % day.length = i := by rw [Nat.mul_add_mod_self_right, Nat.mod_eq_of_lt hi']
      refine ⟨k * day.length + i, j, he'.symm, by rw [hmod]; exact h3, h4, fun m' hlt hot => ?_⟩
      obtain ⟨p', hp', hle⟩ := key m' hot
      have := hl p' hp'
      rw [← he'] at this
      have t : ((k * day.length + i : Nat) : Int) ≤ p'.1 := this
      omega
def FirstB (l : List (Int × Int)) (c : Int) (day : List (Option Nat)) (lim : Int) (N : Nat) : Option (Int × Int) → Prop
  | none => ∀ m < N, ¬ Hot l c day lim m
  | some p => ∃ m j : Nat, p = ((m : Int), (j : Int)) ∧ day.getD (m % day.length) none = some j ∧ hv l c day m > lim ∧ ∀ m' < m, ¬ Hot l c day lim m'
theorem FirstB.step {N : Nat} {b : Option (Int × Int)} (h0 : 0 ≤ lim) (h : FirstB l c day lim N b) (hn : b = none → hv l c day N ≤ lim) : FirstB l c day lim (N + 1) b := by
  cases b with
  | some p => exact h
  | none =>
    intro m hm hot
    rcases Nat.lt_or_ge m N with h1 | h1
    · exact h m h1 hot
    · have : m = N := by omega
      subst this
      obtain ⟨j, _, h2⟩ := hot
      have := hn rfl
      omega
theorem FirstB.new {N : Nat} (h0 : 0 ≤ lim) (h : FirstB l c day lim N none) (hn : hv l c day N > lim) : ∃ j, day.getD (N % day.length) none = some j ∧ FirstB l c day lim (N + 1) (some ((N : Int), (j : Int))) := by
  cases ho : day.getD (N % day.length) none with
  | none =>
    have := hv_none (l := l) (c := c) ho
    omega
  | some j => exact ⟨j, rfl, N, j, rfl, ho, hn, fun m' hm' => h m' hm'⟩
def lawAt (l : List (Int × Int)) (c : Int) (day : List (Option Nat)) (lim : Int) (i : Nat) : Option (Int × Int) := match day.getD i none with
  | none => none
  | some j => if hv l c day (60 * day.length + i) - hv l c day (59 * day.length + i) > 0 then some ((59 + ((lim - hv l c day (59 * day.length + i)) / (hv l c day (60 * day.length + i) - hv l c day (59 * day.length + i)) + 1)) * (day.length : Nat) + (i : Nat), (j : Int)) else none
def lawL (l : List (Int × Int)) (c : Int) (day : List (Option Nat)) (lim : Int) : List (Int × Int) := (List.range day.length).filterMap (lawAt l c day lim)
def lawF (l : List (Int × Int)) (c : Int) (day : List (Option Nat)) (lim : Int) (b : Option (Int × Int)) : Option (Int × Int) := match b with
  | some p => some p
  | none => minO (lawL l c day lim)
theorem more_slope {i j : Nat} (hin : InDay l.length day) (hi : i < day.length) (ho : day.getD i none = some j) (hwl : ∀ j, wl l j ≤ 99) (hc : 1 ≤ c) : hv l c day (60 * day.length + i) - hv l c day (59 * day.length + i) ≤ 98 * day.length := by
  have hj : j < l.length := hin (day.getD i none) (by rw [List.getD_eq_getElem?_getD, List.getElem?_eq_getElem hi]; exact List.getElem_mem hi) j ho
  have l58 := hv_lin (c := c) hi ho hj 58
  have l59 := hv_lin (c := c) hi ho hj 59
  have g := gain_le hwl hc j day
  have e : slope l c day j = max 0 (gain l c j day) := rfl
  simp only [show (58 + 1 : Nat) = 59 from rfl, show (59 + 1 : Nat) = 60 from rfl] at l58 l59
  rw [l58, l59]
  have e1 : ((58 : Nat) : Int) * slope l c day j + slope l c day j = ((59 : Nat) : Int) * slope l c day j := by omega
  omega
theorem law_isFirst {b : Option (Int × Int)} (hin : InDay l.length day) (hd : 0 < day.length) (h0 : 0 ≤ lim) (hb : FirstB l c day lim (60 * day.length) b) : IsFirst l c day lim (lawF l c day lim b) := by
  cases b with
  | some p => exact hb
  | none =>
    refine first_of (lawAt l c day lim) hd fun i hi => ?_
    cases ho : day.getD i none with
    | none => exact .inl ⟨by unfold lawAt; rw [ho], fun j hj => by cases hj⟩
    | some j =>
      have hj : j < l.length := hin (day.getD i none) (by rw [List.getD_eq_getElem?_getD, List.getElem?_eq_getElem hi]; exact List.getElem_mem hi) j ho
      have hlin := fun q => hv_lin (c := c) hi ho hj q
      -- the first days are cold enough
      have low : ∀ q : Nat, q < 60 → hv l c day (q * day.length + i) ≤ lim := fun q hq => by
        have := hb (q * day.length + i) (by
          have : q * day.length ≤ 59 * day.length := Nat.mul_le_mul_right _ (by omega)
          omega)
        refine Int.not_lt.mp fun hlt => this ⟨j, ?_, hlt⟩
        rw [Nat.mul_add_mod_self_right, Nat.mod_eq_of_lt hi]
        exact ho
      have l58 := hlin 58
      have l59 := hlin 59
      have g0 : 0 ≤ slope l c day j := by unfold slope; omega
      generalize slope l c day j = g at hlin l58 l59 g0
      simp only [show (58 + 1 : Nat) = 59 from rfl, show (59 + 1 : Nat) = 60 from rfl] at l58 l59
      have more : hv l c day (60 * day.length + i) - hv l c day (59 * day.length + i) = g := by
        rw [l58, l59]
        have e1 : ((58 : Nat) : Int) * g + g = ((59 : Nat) : Int) * g := by omega
        omega
      have from59 : ∀ d : Nat, hv l c day ((59 + d) * day.length + i) = hv l c day (59 * day.length + i) + d * g := fun d => by
        have := hlin (58 + d)
        rw [show 58 + d + 1 = 59 + d by omega] at this
        rw [this, l58]
        have e1 : ((58 + d : Nat) : Int) * g = ((58 : Nat) : Int) * g + (d : Int) * g := by
          rw [← Int.add_mul]
          simp
        omega
      have h59 := low 59 (by omega)
      by_cases hg : g > 0
      · right
        have hq : 0 ≤ (lim - hv l c day (59 * day.length + i)) / g := Int.ediv_nonneg (by omega) (by omega)
        obtain ⟨d, hdd⟩ : ∃ d : Nat, (lim - hv l c day (59 * day.length + i)) / g = d := ⟨_, (Int.toNat_of_nonneg hq).symm⟩
        have b1 := Int.lt_mul_ediv_self_add (k := g) (x := lim - hv l c day (59 * day.length + i)) hg
        have b2 := Int.mul_ediv_self_le (x := lim - hv l c day (59 * day.length + i)) (k := g) (by omega)
        rw [hdd] at b1 b2
        have cm : (d : Int) * g = g * d := Int.mul_comm _ _
        refine ⟨59 + (d + 1), j, ?_, rfl, ?_, fun q hq => ?_⟩
        · unfold lawAt
          rw [ho, more]
          simp only [hg, if_true, hdd]
          simp
        · rw [from59]
          have : ((d + 1 : Nat) : Int) * g = (d : Int) * g + g := by
            rw [show ((d + 1 : Nat) : Int) = (d : Int) + 1 by simp, Int.add_mul, Int.one_mul]
          omega
        · rcases Nat.lt_or_ge q 60 with h | h
          · exact low q h
          · obtain ⟨k, rfl⟩ : ∃ k, q = 59 + k := ⟨q - 59, by omega⟩
            rw [from59]
            have m1 : (k : Int) * g ≤ (d : Int) * g := Int.mul_le_mul_of_nonneg_right (by omega) g0
            omega
      · left
        have : g = 0 := by omega
        subst this
        refine ⟨?_, fun j' _ q => ?_⟩
        · unfold lawAt
          rw [ho, more]
          simp
        · rcases Nat.lt_or_ge q 60 with h | h
          · exact low q h
          · obtain ⟨k, rfl⟩ : ∃ k, q = 59 + k := ⟨q - 59, by omega⟩
            rw [from59]
            omega
theorem law_thaw {b : Option (Int × Int)} (hin : InDay l.length day) (hd : 0 < day.length) (h0 : 0 ≤ lim) (hb : FirstB l c day lim (60 * day.length) b) : lawF l c day lim b = thawZ l c day lim :=
  first_unique (law_isFirst hin hd h0 hb) (thaw_first hin hd)
end
end Wm

/-! openings one after another (pure) -/
namespace Wm
def waitN (c lim x : Int) : Int := max 0 ((x - lim + c - 1) / c)
def opStep (l : List (Int × Int)) (c lim : Int) (s : List Int × Int) (j : Nat) : List Int × Int :=
  (hour l c (cool (waitN c lim (s.1.getD j 0 + wl l j) * c) s.1) (some j), s.2 + (waitN c lim (s.1.getD j 0 + wl l j) + 1))
def opens (l : List (Int × Int)) (c lim : Int) (js : List Nat) : List Int × Int := js.foldl (opStep l c lim) (cold l, 0)
def allLow (l : List (Int × Int)) (lim : Int) (js : List Nat) : Bool := js.all fun j => decide (wl l j ≤ lim)
def hoursZ (l : List (Int × Int)) (c lim : Int) (js : List Nat) : Option Int := if allLow l lim js = true then some (opens l c lim js).2 else none
theorem opens_snoc (l : List (Int × Int)) (c lim : Int) (js : List Nat) (j : Nat) : opens l c lim (js ++ [j]) = opStep l c lim (opens l c lim js) j := by simp [opens]
theorem cool_len (c : Int) (ws : List Int) : (cool c ws).length = ws.length := by simp [cool]
theorem opStep_len (l : List (Int × Int)) (c lim : Int) (s : List Int × Int) (j : Nat) : (opStep l c lim s j).1.length = s.1.length := by simp [opStep, hour_len, cool_len]
theorem foldl_len (l : List (Int × Int)) (c lim : Int) : ∀ (js : List Nat) (s : List Int × Int), (js.foldl (opStep l c lim) s).1.length = s.1.length
  | [], _ => rfl
  | j :: js, s => by rw [List.foldl_cons, foldl_len l c lim js, opStep_len]
theorem opens_len (l : List (Int × Int)) (c lim : Int) (js : List Nat) : (opens l c lim js).1.length = l.length := by rw [opens, foldl_len]; simp
end Wm

/-! what the law k73 says of days and openings (pure) -/
namespace Wm
section
variable {l : List (Int × Int)} {c lim : Int} {day : List (Option Nat)}
theorem reps_seq (day : List (Option Nat)) : ∀ n, (List.replicate n day).flatten = seq day (n * day.length)
  | 0 => by simp [seq]
  | n + 1 => by
    rw [List.replicate_succ', List.flatten_append, reps_seq day n, Nat.succ_mul, seq_add day n day.length (Nat.le_refl _), List.take_length]
    simp
theorem reps_map {α : Type} (f : Option Nat → α) (day : List (Option Nat)) (n : Nat) : (List.replicate n (day.map f)).flatten = (seq day (n * day.length)).map f := by
  rw [← reps_seq, List.map_flatten, List.map_replicate]
theorem seq_take (day : List (Option Nat)) {m n : Nat} (h : m ≤ n) : (seq day n).take m = seq day m := by
  unfold seq
  rw [← List.map_take, List.take_range, Nat.min_eq_left h]
theorem seq_in {n : Nat} (h : InDay n day) (m : Nat) : InDay n (seq day m) := fun o ho j hj => by
  obtain ⟨i, _, rfl⟩ := List.mem_map.mp ho
  by_cases hi : i % day.length < day.length
  · rw [List.getD_eq_getElem?_getD, List.getElem?_eq_getElem hi] at hj
    exact h _ (List.getElem_mem hi) j hj
  · rw [List.getD_eq_getElem?_getD, List.getElem?_eq_none (by omega)] at hj
    cases hj
theorem far_run (q r : Nat) (hr : r ≤ day.length) : run l c (seq day (q * day.length + r)) (cold l) = run l c (day.take r) (days l c day q) := by
  rw [seq_add day q r hr, ← seq_days, run, run, run, List.foldl_append]
theorem grown_eq (Q : Nat) (hq : 40 ≤ Q) (Z : Int) (hZ : Z = (Q : Int) - 40) :
    (List.range l.length).map (fun k => (days l c day 40).getD k 0 + Z * ((days l c day 41).getD k 0 - (days l c day 40).getD k 0)) = days l c day Q := by
  refine ext_getD (by simp [days_len]) fun i hi => ?_
  rw [List.length_map, List.length_range] at hi
  rw [days_get l c day i hi Q]
  simp only [List.getD_eq_getElem?_getD, List.getElem?_map, List.getElem?_range hi, Option.map_some, Option.getD_some]
  rw [← List.getD_eq_getElem?_getD, ← List.getD_eq_getElem?_getD, days_get l c day i hi 41, days_get l c day i hi 40]
  obtain ⟨q, rfl⟩ : ∃ q, Q = q + 1 := ⟨Q - 1, by omega⟩
  have a41 := daysD_lin (l := l) (c := c) (d := i) day 40
  have a40 := daysD_lin (l := l) (c := c) (d := i) day 39
  have aQ := daysD_lin (l := l) (c := c) (d := i) day q
  simp only [show (40 + 1 : Nat) = 41 from rfl, show (39 + 1 : Nat) = 40 from rfl] at a41 a40
  rw [a41, a40, aQ]
  generalize max 0 (gain l c i day) = g
  have e1 : ((40 : Nat) : Int) * g - ((39 : Nat) : Int) * g = g := by omega
  have e2 : Z * g = (q : Int) * g - ((39 : Nat) : Int) * g := by
    rw [hZ, ← Int.sub_mul]
    congr 1
    omega
  have e3 : (runD l c i day 0 + ((40 : Nat) : Int) * g - (runD l c i day 0 + ((39 : Nat) : Int) * g)) = g := by omega
  rw [e3, e2]
  omega
/-- the hours of forty days that are too warm -/
def hotB (l : List (Int × Int)) (c : Int) (day : List (Option Nat)) (lim : Int) (m : Nat) : Bool := match day.getD (m % day.length) none with
  | none => false
  | some _ => decide (hv l c day m > lim)
theorem hotB_iff {m : Nat} : hotB l c day lim m = true ↔ Hot l c day lim m := by
  unfold hotB Hot
  cases h : day.getD (m % day.length) none with
  | none => simp
  | some j => simp
def doorN (day : List (Option Nat)) (m : Nat) : Nat := (day.getD (m % day.length) none).getD 0
def hotL (l : List (Int × Int)) (c : Int) (day : List (Option Nat)) (lim : Int) (N : Nat) : List (Int × Int) := ((List.range N).filter (hotB l c day lim)).map fun (m : Nat) => ((m : Int), (doorN day m : Int))
theorem filter_range_head {p : Nat → Bool} : ∀ {N m : Nat} {r : List Nat}, (List.range N).filter p = m :: r → p m = true ∧ m < N ∧ ∀ k < m, p k = false := by
  intro N
  induction N with
  | zero => intro m r h; simp at h
  | succ N ih =>
    intro m r h
    rw [List.range_succ, List.filter_append] at h
    cases hf : (List.range N).filter p with
    | nil =>
      rw [hf] at h
      have hn : ∀ k < N, p k = false := fun k hk => by
        have := List.filter_eq_nil_iff.mp hf k (List.mem_range.mpr hk)
        simpa using this
      by_cases hp : p N = true
      · simp [hp] at h
        obtain ⟨rfl, _⟩ := h
        exact ⟨hp, by omega, hn⟩
      · simp [hp] at h
    | cons a b =>
      rw [hf] at h
      obtain ⟨rfl, _⟩ := List.cons.inj h
      obtain ⟨h1, h2, h3⟩ := ih hf
      exact ⟨h1, by omega, h3⟩
theorem hot_first {N : Nat} {p : Int × Int} {r : List (Int × Int)} (hin : InDay l.length day) (hd : 0 < day.length) (h : hotL l c day lim N = p :: r) : thawZ l c day lim = some p := by
  unfold hotL at h
  cases hf : (List.range N).filter (hotB l c day lim) with
  | nil => rw [hf] at h; cases h
  | cons m q =>
    rw [hf] at h
    obtain ⟨rfl, _⟩ := List.cons.inj h
    obtain ⟨h1, h2, h3⟩ := filter_range_head hf
    obtain ⟨j, hj, hgt⟩ := hotB_iff.mp h1
    refine first_unique (thaw_first hin hd) ⟨m, j, ?_, hj, hgt, fun m' hm' hot => ?_⟩
    · simp only [doorN, hj, Option.getD_some]
    · have := h3 m' hm'
      rw [hotB_iff.mpr hot] at this
      cases this
theorem hot_none {N : Nat} {p : Int × Int} (hin : InDay l.length day) (hd : 0 < day.length) (h : hotL l c day lim N = []) (ht : thawZ l c day lim = some p) : (N : Int) ≤ p.1 := by
  have f := thaw_first (l := l) (c := c) (lim := lim) hin hd
  rw [ht] at f
  obtain ⟨m, j, rfl, h1, h2, _⟩ := f
  refine Int.not_lt.mp fun hlt => ?_
  have hm : m < N := by simpa using hlt
  have hf : (List.range N).filter (hotB l c day lim) = [] := List.map_eq_nil_iff.mp h
  have := List.filter_eq_nil_iff.mp hf m (List.mem_range.mpr hm)
  exact this (hotB_iff.mpr ⟨j, h1, h2⟩)
theorem gain_none (hc : 0 ≤ c) (d : Nat) : ∀ hs : List (Option Nat), (∀ o ∈ hs, o ≠ some d) → gain l c d hs ≤ 0
  | [], _ => by simp [gain]
  | o :: hs, h => by
    have ih := gain_none hc d hs fun x hx => h x (List.mem_cons_of_mem _ hx)
    have ho := h o List.mem_cons_self
    simp only [gain, List.map_cons, List.sum_cons] at ih ⊢
    have : add l c d o = -c := by simp [add, ho]
    omega
theorem calm_days (hin : InDay l.length day) (hd : 0 < day.length) (hc : 1 ≤ c) (h0 : 0 ≤ lim) (hw : ∀ j, 0 ≤ wl l j) (ht : thawZ l c day lim = none) (k : Nat) (hk : k < l.length) : (days l c day 41).getD k 0 ≤ (days l c day 40).getD k 0 := by
  have f := thaw_first (l := l) (c := c) (lim := lim) hin hd
  rw [ht] at f
  rw [days_get l c day k hk, days_get l c day k hk]
  have a41 := daysD_lin (l := l) (c := c) (d := k) day 40
  have a40 := daysD_lin (l := l) (c := c) (d := k) day 39
  simp only [show (40 + 1 : Nat) = 41 from rfl, show (39 + 1 : Nat) = 40 from rfl] at a41 a40
  rw [a41, a40]
  have g0 : max 0 (gain l c k day) = 0 := by
    refine Int.le_antisymm (Int.not_lt.mp fun hg => ?_) (by omega)
    have hex : ∃ o ∈ day, o = some k := by
      refine Classical.byContradiction fun hn => ?_
      have := gain_none (l := l) (c := c) (by omega) k day fun o ho h => hn ⟨o, ho, h⟩
      omega
    obtain ⟨o, ho, rfl⟩ := hex
    obtain ⟨i, hi, he⟩ := List.getElem_of_mem ho
    have hoi : day.getD i none = some k := by rw [List.getD_eq_getElem?_getD, List.getElem?_eq_getElem hi]; simpa using he
    have hl := hv_lin (c := c) hi hoi hk (lim + 1).toNat
    have h1 : 0 ≤ hv l c day (1 * day.length + i) := by
      rw [hv_at hi hoi hk]
      have a := runD_nn (l := l) (c := c) (d := k) (day.take i) (daysD l c k day 1) (daysD_nn day 1)
      have b := hw k
      omega
    have hs : slope l c day k = max 0 (gain l c k day) := rfl
    rw [← hs] at hg
    have hp : ((lim + 1).toNat : Int) * slope l c day k ≥ (lim + 1) := by
      have e : ((lim + 1).toNat : Int) = lim + 1 := by omega
      rw [e]
      have := Int.mul_le_mul_of_nonneg_left (show (1 : Int) ≤ slope l c day k by omega) (show 0 ≤ lim + 1 by omega)
      omega
    refine f (((lim + 1).toNat + 1) * day.length + i) ⟨k, ?_, ?_⟩
    · rw [Nat.mul_add_mod_self_right, Nat.mod_eq_of_lt hi]; exact hoi
    · omega
  rw [g0]
  simp
/-- waiting and opening -/
theorem cool_cool {a b : Int} (ha : 0 ≤ a) (ws : List Int) (hb : 0 ≤ b) : cool b (cool a ws) = cool (a + b) ws := by
  simp only [cool, List.map_map]
  refine List.map_congr_left fun x _ => ?_
  show max 0 (max 0 (x - a) - b) = max 0 (x - (a + b))
  omega
theorem cool_zero (ws : List Int) (h : ∀ x ∈ ws, 0 ≤ x) : cool 0 ws = ws := by
  have : ∀ x ∈ ws, max 0 (x - 0) = x := fun x hx => by have := h x hx; omega
  unfold cool
  rw [List.map_congr_left this]
  simp
theorem cool_get (a : Int) (ws : List Int) (j : Nat) (hj : j < ws.length) : (cool a ws).getD j 0 = max 0 (ws.getD j 0 - a) := by simp [cool, hj]
theorem hour_none (ws : List Int) : hour l c ws none = cool c ws := rfl
/-- how long is waited -/
theorem wait_lt {x : Int} (hc : 1 ≤ c) {t : Int} (h0 : 0 ≤ t) (h : x - t * c > lim) : t + 1 ≤ waitN c lim x := by
  unfold waitN
  have : t + 1 ≤ (x - lim + c - 1) / c := by
    rw [Int.le_ediv_iff_mul_le (by omega), Int.add_mul]
    omega
  omega
theorem wait_ge {x : Int} (hc : 1 ≤ c) {t : Int} (h : x - t * c ≤ lim) (h0 : 0 ≤ t) : waitN c lim x ≤ t := by
  unfold waitN
  have : (x - lim + c - 1) / c < t + 1 := by
    rw [Int.ediv_lt_iff_lt_mul (by omega), Int.add_mul]
    omega
  omega
theorem step_bound (hw : ∀ j, 0 ≤ wl l j ∧ wl l j ≤ 9) (hc : 1 ≤ c) (lim : Int) (s : List Int × Int) (j : Nat) (B : Int) (ih : ∀ x ∈ s.1, 0 ≤ x ∧ x ≤ B) (hB : 0 ≤ B) : ∀ x ∈ (opStep l c lim s j).1, 0 ≤ x ∧ x ≤ B + 9 := by
  intro x hx
  have hwj := hw j
  have wn : 0 ≤ waitN c lim (s.1.getD j 0 + wl l j) := by unfold waitN; omega
  have wn2 : 0 ≤ waitN c lim (s.1.getD j 0 + wl l j) * c := Int.mul_nonneg wn (by omega)
  obtain ⟨y, hy, rfl⟩ := List.mem_map.mp hx
  have hb : ∀ z ∈ cool (waitN c lim (s.1.getD j 0 + wl l j) * c) s.1, 0 ≤ z ∧ z ≤ B := fun z hz => by
    obtain ⟨u, hu, rfl⟩ := List.mem_map.mp hz
    have := ih u hu
    omega
  have key : y ≤ B + 9 := by
    have hy' : y ∈ (cool (waitN c lim (s.1.getD j 0 + wl l j) * c) s.1).set j ((cool (waitN c lim (s.1.getD j 0 + wl l j) * c) s.1).getD j 0 + wl l j) := hy
    rcases List.mem_or_eq_of_mem_set hy' with h | h
    · have := hb y h; omega
    · by_cases hj : j < (cool (waitN c lim (s.1.getD j 0 + wl l j) * c) s.1).length
      · have := hb _ (List.getElem_mem hj)
        rw [List.getD_eq_getElem?_getD, List.getElem?_eq_getElem hj] at h
        simp only [Option.getD_some] at h
        omega
      · rw [List.getD_eq_getElem?_getD, List.getElem?_eq_none (by omega)] at h
        simp only [Option.getD_none] at h
        omega
  omega
theorem fold_bound (hw : ∀ j, 0 ≤ wl l j ∧ wl l j ≤ 9) (hc : 1 ≤ c) (lim : Int) : ∀ (js : List Nat) (s : List Int × Int) (B : Int), 0 ≤ B → (∀ x ∈ s.1, 0 ≤ x ∧ x ≤ B) → ∀ x ∈ (js.foldl (opStep l c lim) s).1, 0 ≤ x ∧ x ≤ B + 9 * js.length
  | [], s, B, _, h => by simpa using h
  | j :: js, s, B, hB, h => by
    have := fold_bound hw hc lim js (opStep l c lim s j) (B + 9) (by omega) (step_bound hw hc lim s j B h hB)
    intro x hx
    have := this x hx
    simp only [List.length_cons]
    omega
theorem opens_bound (hw : ∀ j, 0 ≤ wl l j ∧ wl l j ≤ 9) (hc : 1 ≤ c) (lim : Int) (js : List Nat) : ∀ x ∈ (opens l c lim js).1, 0 ≤ x ∧ x ≤ 9 * js.length := by
  have := fold_bound hw hc lim js (cold l, 0) 0 (by omega) fun x hx => by
    have : x = 0 := List.eq_of_mem_replicate hx
    omega
  intro x hx
  have := this x hx
  omega
end
end Wm

/-! what the law k53 says of days told twice, limits, openings (pure) -/
namespace Wm
section
variable {l : List (Int × Int)} {c lim : Int} {day : List (Option Nat)}
theorem twice_get (day : List (Option Nat)) (hd : 0 < day.length) (h : Nat) : (day ++ day).getD (h % (day ++ day).length) none = day.getD (h % day.length) none := by
  have e : h % (day ++ day).length % day.length = h % day.length := by
    rw [List.length_append, ← Nat.two_mul]
    exact Nat.mod_mod_of_dvd h ⟨2, Nat.mul_comm _ _⟩
  have hl : h % (day ++ day).length < (day ++ day).length := Nat.mod_lt _ (by rw [List.length_append]; omega)
  generalize h % (day ++ day).length = k at e hl
  rw [← e]
  rw [List.length_append] at hl
  rcases Nat.lt_or_ge k day.length with hk | hk
  · rw [Nat.mod_eq_of_lt hk, List.getD_eq_getElem?_getD, List.getD_eq_getElem?_getD, List.getElem?_append_left hk]
  · have : k % day.length = k - day.length := by
      rw [Nat.mod_eq_sub_mod hk, Nat.mod_eq_of_lt (by omega)]
    rw [this, List.getD_eq_getElem?_getD, List.getD_eq_getElem?_getD, List.getElem?_append_right hk]
theorem twice_seq (day : List (Option Nat)) (hd : 0 < day.length) (m : Nat) : seq (day ++ day) m = seq day m := List.map_congr_left fun h _ => twice_get day hd h
theorem twice_hv (hd : 0 < day.length) (m : Nat) : hv l c (day ++ day) m = hv l c day m := by
  unfold hv
  rw [twice_seq day hd m, twice_get day hd m]
theorem twice_hot (hd : 0 < day.length) (m : Nat) : Hot l c (day ++ day) lim m ↔ Hot l c day lim m := by
  unfold Hot
  rw [twice_get day hd m, twice_hv hd m]
theorem twice_in {n : Nat} (h : InDay n day) : InDay n (day ++ day) := fun o ho => by
  rcases List.mem_append.mp ho with h' | h' <;> exact h o h'
theorem twice_first (hd : 0 < day.length) {r : Option (Int × Int)} (h : IsFirst l c (day ++ day) lim r) : IsFirst l c day lim r := by
  cases r with
  | none => exact fun m hm => h m ((twice_hot hd m).mpr hm)
  | some p =>
    obtain ⟨m, j, rfl, h1, h2, h3⟩ := h
    rw [twice_get day hd m] at h1
    rw [twice_hv hd m] at h2
    exact ⟨m, j, rfl, h1, h2, fun m' hm' hot => h3 m' hm' ((twice_hot hd m').mpr hot)⟩
theorem twice_thaw (hin : InDay l.length day) (hd : 0 < day.length) : thawZ l c (day ++ day) lim = thawZ l c day lim :=
  first_unique (twice_first hd (thaw_first (twice_in hin) (by rw [List.length_append]; omega))) (thaw_first hin hd)
theorem twice_warm (hd : 0 < day.length) (m : Nat) : warmZ l c (day ++ day) m = warmZ l c day m := by
  rw [warm_seq l c (day ++ day) (by rw [List.length_append]; omega) m, warm_seq l c day hd m, twice_seq day hd m]
/-- a higher limit is passed no earlier -/
theorem later_none (hin : InDay l.length day) (hd : 0 < day.length) (h : thawZ l c day lim = none) : thawZ l c day (lim + 1) = none := by
  have a := thaw_first (l := l) (c := c) (lim := lim) hin hd
  have b := thaw_first (l := l) (c := c) (lim := lim + 1) hin hd
  rw [h] at a
  cases hz : thawZ l c day (lim + 1) with
  | none => rfl
  | some p =>
    rw [hz] at b
    obtain ⟨m, j, rfl, h1, h2, _⟩ := b
    exact absurd ⟨j, h1, by omega⟩ (a m)
theorem later_le (hin : InDay l.length day) (hd : 0 < day.length) {p q : Int × Int} (h : thawZ l c day lim = some p) (h' : thawZ l c day (lim + 1) = some q) : p.1 ≤ q.1 := by
  have a := thaw_first (l := l) (c := c) (lim := lim) hin hd
  have b := thaw_first (l := l) (c := c) (lim := lim + 1) hin hd
  rw [h] at a
  rw [h'] at b
  obtain ⟨m, j, rfl, a1, a2, a3⟩ := a
  obtain ⟨m', j', rfl, b1, b2, b3⟩ := b
  refine Int.not_lt.mp fun hlt => a3 m' (by simpa using hlt) ⟨j', b1, by omega⟩
/-- what the first thaw is, told by the warmth ahead of it -/
theorem thaw_told (hin : InDay l.length day) (hd : 0 < day.length) {p : Int × Int} (h : thawZ l c day lim = some p) :
    ∃ m j : Nat, p = ((m : Int), (j : Int)) ∧ day.getD (m % day.length) none = some j ∧ j < l.length ∧ (run l c (seq day m) (cold l)).getD j 0 + wl l j > lim := by
  have a := thaw_first (l := l) (c := c) (lim := lim) hin hd
  rw [h] at a
  obtain ⟨m, j, rfl, h1, h2, _⟩ := a
  have hm : m % day.length < day.length := Nat.mod_lt _ hd
  have hj : j < l.length := by
    rw [List.getD_eq_getElem?_getD, List.getElem?_eq_getElem hm] at h1
    exact hin _ (List.getElem_mem hm) j h1
  refine ⟨m, j, rfl, h1, hj, ?_⟩
  unfold hv at h2
  rw [h1] at h2
  have rl := run_len l c (seq day m) (cold l)
  rw [cold_len] at rl
  have : hgt l (run l c (seq day m) (cold l)) (some j) = (run l c (seq day m) (cold l)).getD j 0 + wl l j := by
    unfold hgt rise
    simp [rl, hj]
  omega
/-! openings -/
theorem opens_ge (l : List (Int × Int)) (c lim : Int) : ∀ (js : List Nat) (s : List Int × Int), s.2 + js.length ≤ (js.foldl (opStep l c lim) s).2
  | [], s => by simp
  | j :: js, s => by
    have := opens_ge l c lim js (opStep l c lim s j)
    have e : (opStep l c lim s j).2 = s.2 + (waitN c lim (s.1.getD j 0 + wl l j) + 1) := rfl
    have w : 0 ≤ waitN c lim (s.1.getD j 0 + wl l j) := by unfold waitN; omega
    simp only [List.foldl_cons, List.length_cons]
    omega
theorem opens_len_le (l : List (Int × Int)) (c lim : Int) (js : List Nat) : (js.length : Int) ≤ (opens l c lim js).2 := by
  have := opens_ge l c lim js (cold l, 0)
  unfold opens
  simpa using this
theorem opens_pre (l : List (Int × Int)) (c lim : Int) (js : List Nat) (j : Nat) : (opens l c lim js).2 ≤ (opens l c lim (js ++ [j])).2 := by
  rw [opens_snoc]
  have e : (opStep l c lim (opens l c lim js) j).2 = (opens l c lim js).2 + (waitN c lim ((opens l c lim js).1.getD j 0 + wl l j) + 1) := rfl
  have w : 0 ≤ waitN c lim ((opens l c lim js).1.getD j 0 + wl l j) := by unfold waitN; omega
  omega
theorem no_wait {x : Int} (hc : 1 ≤ c) (h : x ≤ lim) : waitN c lim x = 0 := by
  have h1 := wait_ge hc (t := 0) (x := x) (lim := lim) (by omega) (by omega)
  have h2 : 0 ≤ waitN c lim x := by unfold waitN; omega
  omega
/-- a limit that is never passed -/
theorem opens_free (hw : ∀ j, 0 ≤ wl l j ∧ wl l j ≤ 9) (hc : 1 ≤ c) : ∀ js : List Nat, (9 * (js.length : Int) ≤ lim) → (opens l c lim js).2 = js.length := by
  intro js
  suffices h : ∀ (ks : List Nat), (∃ r, js = ks ++ r) → 9 * (js.length : Int) ≤ lim → (opens l c lim ks).2 = ks.length from h js ⟨[], by simp⟩
  intro ks
  generalize hn : ks.length = n
  induction n generalizing ks with
  | zero =>
    intro _ _
    have : ks = [] := List.length_eq_zero_iff.mp hn
    subst this
    rfl
  | succ n ih =>
    rintro ⟨r, rfl⟩ hl
    obtain ⟨us, j, rfl⟩ : ∃ us j, ks = us ++ [j] := ⟨ks.dropLast, ks.getLast (fun z => by rw [z] at hn; cases hn), (List.dropLast_concat_getLast _).symm⟩
    have hu : us.length = n := by simpa using hn
    have := ih us hu ⟨[j] ++ r, by simp⟩ hl
    rw [opens_snoc]
    have e : (opStep l c lim (opens l c lim us) j).2 = (opens l c lim us).2 + (waitN c lim ((opens l c lim us).1.getD j 0 + wl l j) + 1) := rfl
    have hx : (opens l c lim us).1.getD j 0 + wl l j ≤ lim := by
      have b := opens_bound hw hc lim us
      have wj := hw j
      have g : (opens l c lim us).1.getD j 0 ≤ 9 * us.length := by
        by_cases hj : j < (opens l c lim us).1.length
        · have := b _ (List.getElem_mem hj)
          rw [List.getD_eq_getElem?_getD, List.getElem?_eq_getElem hj]
          simpa using this.2
        · rw [List.getD_eq_getElem?_getD, List.getElem?_eq_none (by omega)]
          simp only [Option.getD_none]
          omega
      simp only [List.length_append, List.length_singleton] at hl
      omega
    rw [e, no_wait hc hx, this]
    simp
end
end Wm

namespace My
open PySem L2 Cc Mi Wm
def dT (p : Int × Int) : D := .ptup [.int p.1, .int p.2]
def dsT (l : List (Int × Int)) : D := .ptup (l.map dT)
def oD : Option Nat → D
  | none => .non
  | some j => .int (j : Nat)
abbrev stT (C : Addr) (l : List (Int × Int)) (a b c : D) : D := .ob C storeNs [a, b, dsT l, c]
theorem st_p : stP storeNs = true := by decide
theorem st_d {a b c d : D} : fAt storeNs [a, b, d, c] "_doors" = some d := rfl
theorem f_i {g : Int → Int → D} {i j : Int} : fI g (.int i) (.int j) = some (g i j) := rfl
theorem f_i2 {g : Int → Int → Int} {i j : Int} : fI2 g [.int i, .int j] = some (.int (g i j)) := rfl
theorem f_lenP {ds : List D} (h : ds.length ≤ 100000) : fLen [.ptup ds] = some (.int (ds.length : Nat)) := if_pos h
theorem f_lenL {ds : List D} (h : ds.length ≤ 100000) : fLen [.lst ds] = some (.int (ds.length : Nat)) := if_pos h
theorem at_nat {ds : List D} {j : Nat} {d : D} (h : ds[j]? = some d) : atI ds (.ofNat j) = some d := by
  obtain ⟨hj, he⟩ := List.getElem?_eq_some_iff.mp h
  unfold atI ixN
  simp [hj, he]
theorem f_ixP {ds : List D} {j : Nat} {d : D} (h : ds[j]? = some d) : fIx (.ptup ds) (.int (j : Nat)) = some d := at_nat h
theorem f_ixD {l : List (Int × Int)} {j : Nat} (h : j < l.length) : fIx (dsT l) (.int (j : Nat)) = some (dT l[j]) := f_ixP (by simp [h])
theorem f_ix0 {p : Int × Int} : fIx (dT p) (.int 0) = some (.int p.1) := f_ixP (j := 0) rfl
theorem f_ix1 {p : Int × Int} : fIx (dT p) (.int 1) = some (.int p.2) := f_ixP (j := 1) rfl
theorem f_ixL {ds : List D} {j : Nat} {d : D} (h : ds[j]? = some d) : fIx (.lst ds) (.int (j : Nat)) = some d := at_nat h
section
variable {C : Addr} {l : List (Int × Int)} {a b c : D}
theorem x_doors : m_Store_doors [stT C l a b c] = .ret (dsT l) := by
  simp -implicitDefEqProofs only [defM, defR, lawM, fin, sSeq, sExpr, sAsg, sAsgB, sPat, sPatB, sOwn, sOwnB, sPar, sPar3, sRet, sRetN, sIf, sFor, sForB, sApp, sAppB, sExt, sExtB, sSet, sFz, sNext, sBreak, sCont, sAug, sAugL, sErrF, sErr, sParX, sParX3, agGo, Fl.next, Fl.turn, vB, ok1, okL, mVar, mC, mOp, mUn, mNil, mCons, mCB, mCBn, mCall, mTup, mLst, mNew, asB, cOf, cAnd, cOr, cNot, cYes, mAnd, mOr, mNot, mIf, mChain, oNone, asI, oSome, mOpN, mPt, iL, iT, mFld, mProp, mLenI, mSlT, mSlL, pName, pGo, pTup, pLst, wipeE, mIsT, mCallR, mDraw, isRow, look, M.bind_ret, M.bind_err, M.bind_bad, M.bind_draw, M.ofO_some, M.ofO_none, M.calm_ret, M.calm_bad, M.calm_draw, M.bind_assoc, M.wp_ret, List.length_cons, List.length_nil, List.map_cons, List.map_nil, List.replicate_zero, List.replicate_succ, List.cons_append, List.nil_append, List.set_cons_zero, List.set_cons_succ, List.getElem?_cons_zero, List.getElem?_cons_succ, Nat.reduceAdd, Nat.reduceSub, Nat.reduceLeDiff, Nat.reduceEqDiff, if_true, if_false, ite_true, ite_false, reduceIte, Bool.not_true, Bool.not_false, Bool.false_eq_true, m_Store_doors, st_p, st_d]
theorem x_len (h : l.length ≤ 100000) : m_Store___len__ [stT C l a b c] = .ret (.int (l.length : Nat)) := by
  simp -implicitDefEqProofs only [defM, defR, lawM, fin, sSeq, sExpr, sAsg, sAsgB, sPat, sPatB, sOwn, sOwnB, sPar, sPar3, sRet, sRetN, sIf, sFor, sForB, sApp, sAppB, sExt, sExtB, sSet, sFz, sNext, sBreak, sCont, sAug, sAugL, sErrF, sErr, sParX, sParX3, agGo, Fl.next, Fl.turn, vB, ok1, okL, mVar, mC, mOp, mUn, mNil, mCons, mCB, mCBn, mCall, mTup, mLst, mNew, asB, cOf, cAnd, cOr, cNot, cYes, mAnd, mOr, mNot, mIf, mChain, oNone, asI, oSome, mOpN, mPt, iL, iT, mFld, mProp, mLenI, mSlT, mSlL, pName, pGo, pTup, pLst, wipeE, mIsT, mCallR, mDraw, isRow, look, M.bind_ret, M.bind_err, M.bind_bad, M.bind_draw, M.ofO_some, M.ofO_none, M.calm_ret, M.calm_bad, M.calm_draw, M.bind_assoc, M.wp_ret, List.length_cons, List.length_nil, List.map_cons, List.map_nil, List.replicate_zero, List.replicate_succ, List.cons_append, List.nil_append, List.set_cons_zero, List.set_cons_succ, List.getElem?_cons_zero, List.getElem?_cons_succ, Nat.reduceAdd, Nat.reduceSub, Nat.reduceLeDiff, Nat.reduceEqDiff, if_true, if_false, ite_true, ite_false, reduceIte, Bool.not_true, Bool.not_false, Bool.false_eq_true, m_Store___len__, st_p, st_d, dsT, f_lenP (show (l.map dT).length ≤ 100000 by simpa using h), List.length_map]
theorem x_num {v lo hi : Int} : m_is_number [.int v, .int lo, .int hi] = .ret (.bl (decide (lo ≤ v) && decide (v ≤ hi))) := by
  simp -implicitDefEqProofs only [defM, defR, lawM, fin, sSeq, sExpr, sAsg, sAsgB, sPat, sPatB, sOwn, sOwnB, sPar, sPar3, sRet, sRetN, sIf, sFor, sForB, sApp, sAppB, sExt, sExtB, sSet, sFz, sNext, sBreak, sCont, sAug, sAugL, sErrF, sErr, sParX, sParX3, agGo, Fl.next, Fl.turn, vB, ok1, okL, mVar, mC, mOp, mUn, mNil, mCons, mCB, mCBn, mCall, mTup, mLst, mNew, asB, cOf, cAnd, cOr, cNot, cYes, mAnd, mOr, mNot, mIf, mChain, oNone, asI, oSome, mOpN, mPt, iL, iT, mFld, mProp, mLenI, mSlT, mSlL, pName, pGo, pTup, pLst, wipeE, mIsT, mCallR, mDraw, isRow, look, M.bind_ret, M.bind_err, M.bind_bad, M.bind_draw, M.ofO_some, M.ofO_none, M.calm_ret, M.calm_bad, M.calm_draw, M.bind_assoc, M.wp_ret, List.length_cons, List.length_nil, List.map_cons, List.map_nil, List.replicate_zero, List.replicate_succ, List.cons_append, List.nil_append, List.set_cons_zero, List.set_cons_succ, List.getElem?_cons_zero, List.getElem?_cons_succ, Nat.reduceAdd, Nat.reduceSub, Nat.reduceLeDiff, Nat.reduceEqDiff, if_true, if_false, ite_true, ite_false, reduceIte, Bool.not_true, Bool.not_false, Bool.false_eq_true, m_is_number, D.noob, D.isT, f_i]
  by_cases h : lo ≤ v <;> simp [h] <;> rfl

theorem asL_nat {n : Nat} (h : n ≤ 100000) : asL (.int n) = .ret (.int n) := by
  have h2 : (0 : Int) ≤ n ∧ (n : Int) < 1000000000 := ⟨by omega, by omega⟩
  unfold asL
  exact ite_cond_eq_true _ _ (eq_true h2)
end
end My

namespace My
open PySem L2 Cc Mi Wm
abbrev iD (ws : List Int) : List D := ws.map D.int
theorem ix_nat {n j : Nat} (h : j < n) : ixN n (j : Int) = some j := by unfold ixN; simp [h]
theorem iD_at {ws : List Int} {j : Nat} (h : j < ws.length) : (iD ws)[j]? = some (.int (ws.getD j 0)) := by simp [iD, h]
theorem f_notN {d : D} : fNotN d .non = some (.bl (!isN d)) := by cases d <;> rfl
theorem f_isN {d : D} : fIsN d .non = some (.bl (isN d)) := by cases d <;> rfl
theorem f_list {ds : List D} : fList [.lst ds] = some ds := rfl
theorem f_tup {ds : List D} : fTup [.lst ds] = some (.ptup ds) := rfl
section
variable {C : Addr} {l : List (Int × Int)} {a b c : D}
theorem f_eqI {i j : Int} : fEq (.int i) (.int j) = some (.bl (i == j)) := by
  unfold fEq D.eqv
  simp [D.pl, D.shp, D.py, PyData.eqv]
  exact ⟨rfl, rfl⟩
theorem f_neI {i j : Int} : fNe (.int i) (.int j) = some (.bl (!(i == j))) := by
  unfold fNe D.eqv
  simp [D.pl, D.shp, D.py, PyData.eqv]
  exact ⟨rfl, rfl⟩
theorem f_mul {i j : Int} (h : cMul i j = true) : fMul (.int i) (.int j) = some (.int (i * j)) := if_pos h
theorem cmul {i j : Int} (h : (-(2 ^ 64) < i ∧ i < 2 ^ 64) ∨ (-(2 ^ 64) < j ∧ j < 2 ^ 64)) : cMul i j = true := by
  unfold cMul
  rcases h with ⟨h1, h2⟩ | ⟨h1, h2⟩
  · rw [decide_eq_true h1, decide_eq_true h2]; rfl
  · rw [decide_eq_true h1, decide_eq_true h2]; simp
theorem f_divmod {i : Int} {n : Nat} (h0 : 0 < n) (h1 : n < 100000) : fDivmod [.int i, .int n] = some (.tup [.int (i / n), .int (i % n)]) := if_pos ⟨by omega, by omega⟩
theorem cut_to {α : Type} (f : α → D) (xs : List α) {i : Int} (h : 0 ≤ i) : cutD (xs.map f) none (some i) = (xs.take i.toNat).map f := by
  obtain ⟨m, rfl⟩ : ∃ m : Nat, i = m := ⟨i.toNat, by omega⟩
  unfold cutD
  rw [HT.sIx_none, HT.sIx_nat, List.drop_zero, Nat.sub_zero, Int.toNat_natCast, List.map_take, List.length_map]
  by_cases h : m ≤ xs.length
  · rw [Nat.min_eq_left h]
  · rw [Nat.min_eq_right (by omega), List.take_of_length_le (by simp), List.take_of_length_le (by simp; omega)]
theorem end_list {α : Type} (f : α → D) (xs : List α) : enD (xs.map f) = ((List.range xs.length).map fun i => (i, (xs.map f).getD i .non)).map fun p => D.tup [.int (p.1 : Nat), p.2] := by
  unfold enD
  rw [List.length_map, List.map_map]
  rfl
end
end My

namespace My
open PySem L2 Cc Mi Wm
theorem step_three {xs : List D} {n i : Nat} (hx : xs.length = 3 * n) (hi : i < n) : stepV xs (i : Nat) (n : Nat) = [xs.getD i .non, xs.getD (n + i) .non, xs.getD (2 * n + i) .non] := by
  have e : idxStep (i : Nat) (n : Nat) xs.length = [i, n + i, 2 * n + i] := by
    unfold idxStep PySem.sliceRange
    have h0 : max (0 : Int) (min (i : Nat) (xs.length : Nat)) = (i : Nat) := by omega
    have hn : (n : Int) > 0 := by omega
    have hlt : (i : Int) < (xs.length : Nat) := by omega
    have hc : (((xs.length : Nat) : Int) - (i : Nat) + (n : Nat) - 1) / (n : Nat) = 3 := by
      have e1 : (((xs.length : Nat) : Int) - (i : Nat) + (n : Nat) - 1) = (((n - 1 - i : Nat) : Int)) + 3 * (n : Nat) := by omega
      rw [e1, Int.add_mul_ediv_right _ _ (by omega), Int.ediv_eq_zero_of_lt (by omega) (by omega)]
      rfl
    rw [h0]
    simp only [hn, if_true, hlt, hc]
    show (List.range 3).map _ = _
    have e2 : ((i : Nat) : Int) + (n : Nat) * ((0 : Nat) : Int) = (i : Nat) := by simp
    have e3 : ((i : Nat) : Int) + (n : Nat) * ((1 : Nat) : Int) = ((n + i : Nat) : Int) := by simp; omega
    have e4 : ((i : Nat) : Int) + (n : Nat) * ((2 : Nat) : Int) = ((2 * n + i : Nat) : Int) := by simp; omega
    simp only [List.range, List.range.loop, List.map_cons, List.map_nil, e2, e3, e4, Int.toNat_natCast]
  unfold stepV
  rw [e]
  have a0 : i < xs.length := by omega
  have a1 : n + i < xs.length := by omega
  have a2 : 2 * n + i < xs.length := by omega
  simp [a0, a1, a2]
section
variable {C : Addr} {l : List (Int × Int)} {a b c : D}
def uD : Option Int → D
  | none => .non
  | some t => .int t
def thD : Option (Int × Int) → D
  | none => .non
  | some p => dT p
theorem min_pairs (p : Int × Int) (ps : List (Int × Int)) : Mi.minO ((p :: ps).map dT) = some (dT (minP p ps)) := by
  have e1 : ∀ qs : List (Int × Int), cans (qs.map dT) = true := fun qs => by
    induction qs with
    | nil => rfl
    | cons q qs ih => simp [cans, can, dT, ih]
  have e2 : ∀ qs : List (Int × Int), D.pys (qs.map dT) = qs.map fun q => (pairD q).py := fun qs => by
    rw [D.pys_map, List.map_map]; rfl
  have e3 : alikeB (D.pys ((p :: ps).map dT)) = true := by
    rw [e2]
    have := alike_pairs (p :: ps)
    simp only [alikeB, Bool.and_eq_true, List.all_eq_true]
    refine ⟨fun x hx y hy => this.1 x hx y hy, fun x hx => ?_⟩
    obtain ⟨q, _, rfl⟩ := List.mem_map.mp hx
    rfl
  have e4 : PyData.depthAll (D.pys ((p :: ps).map dT)) ≤ 60 := by
    rw [e2]
    exact Nat.le_trans (depth_pairs (p :: ps)) (by decide)
  have e5 := e1 (p :: ps)
  rw [List.map_cons] at *
  unfold Mi.minO
  dsimp only
  rw [e5, e3, decide_eq_true e4]
  have e6 : PySem.W.minD (dT p).py (D.pys (ps.map dT)) = (dT (minP p ps)).py := by
    rw [e2]; exact minD_pairs ps p
  rw [e6]
  rfl
theorem in_three {day : List (Option Nat)} (h2 : InDay l.length day) : InDay l.length (seq day (3 * day.length)) := by
  rw [← seq_three]
  intro o ho
  rcases List.mem_append.mp ho with ho | ho
  · exact h2 o ho
  · rcases List.mem_append.mp ho with ho | ho
    · exact h2 o ho
    · exact h2 o (by simpa using ho)
theorem slope_ok {c' : Int} {day : List (Option Nat)} (h2 : InDay l.length day) (h4 : day.length ≤ 12) (h5 : 1 ≤ c') (hwl : ∀ j, wl l j ≤ 99) {i : Nat} (hi : i < day.length) : 0 ≤ hv l c' day (2 * day.length + i) - hv l c' day (1 * day.length + i) ∧ hv l c' day (2 * day.length + i) - hv l c' day (1 * day.length + i) < 1073741824 := by
  have hj : ∀ j, day[i] = some j → j < l.length := fun j hj => h2 _ (List.getElem_mem hi) j hj
  cases ho : day[i] with
  | none =>
    have z : ∀ q : Nat, hv l c' day (q * day.length + i) = 0 := fun q => hv_none (by rw [Nat.mul_add_mod_self_right, Nat.mod_eq_of_lt hi]; simp [hi, ho])
    rw [z 2, z 1]
    omega
  | some j =>
    have ho' : day.getD i none = some j := by simp [hi, ho]
    have e := hv_lin (c := c') hi ho' (hj j ho) 1
    have g := gain_le hwl h5 j day
    have e2 : ((1 : Nat) : Int) * slope l c' day j = slope l c' day j := by simp
    rw [e2] at e
    rw [show (1 + 1) * day.length = 2 * day.length by omega] at e
    unfold slope at e
    omega
end
end My

namespace My
open PySem L2 Cc Mi Wm
abbrev jD (js : List Nat) : List D := js.map fun (j : Nat) => D.int (j : Int)
section
variable {C : Addr} {l : List (Int × Int)} {a b c : D}
theorem all_map (bs : List Bool) : fAll [.lst (bs.map D.bl)] = some (.bl (bs.all id)) := by
  unfold fAll
  dsimp only
  rw [blsO_map]
end
end My

/-! all orders of names and free places: by recursion and place by place (pure) -/
namespace Arr
variable {α : Type} [DecidableEq α]
/-- each item with the others -/
def picks : List α → List (α × List α)
  | [] => []
  | x :: r => (x, r) :: (picks r).map fun p => (p.1, x :: p.2)
theorem picks_length : ∀ l : List α, (picks l).length = l.length
  | [] => rfl
  | x :: r => by simp [picks, picks_length r]
theorem picks_get : ∀ (l : List α) (i : Nat) (h : i < l.length), (picks l)[i]? = some (l[i], l.take i ++ l.drop (i + 1))
  | x :: r, 0, _ => by simp [picks]
  | x :: r, i + 1, h => by
    have h' : i < r.length := by simpa using h
    simp [picks, picks_get r i h', List.getElem?_map]
/-- the recursion: n = how many names and free places together -/
def arr : Nat → List α → Nat → List (List (Option α))
  | 0, _, _ => [[]]
  | n + 1, ns, f => (if f > 0 then (arr n ns (f - 1)).map (none :: ·) else []) ++ (picks ns).flatMap fun p => (arr n p.2 f).map (some p.1 :: ·)
/-- one place more -/
def step (S : List α) (F : Nat) (p : List (Option α)) : List (List (Option α)) := (if p.count none < F then [p ++ [none]] else []) ++ (S.filter fun x => decide (some x ∉ p)).map fun x => p ++ [some x]
def bfs (S : List α) (F : Nat) : Nat → List (List (Option α)) → List (List (Option α))
  | 0, l => l
  | k + 1, l => bfs S F k (l.flatMap (step S F))
theorem bfs_app (S : List α) (F : Nat) : ∀ (k : Nat) (l m : List (List (Option α))), bfs S F k (l ++ m) = bfs S F k l ++ bfs S F k m
  | 0, _, _ => rfl
  | k + 1, l, m => by simp only [bfs, List.flatMap_append, bfs_app S F k]
theorem bfs_flat (S : List α) (F : Nat) (k : Nat) : ∀ l : List (List (Option α)), bfs S F k l = l.flatMap fun p => bfs S F k [p]
  | [] => by
    have : ∀ k, bfs S F k [] = [] := fun k => by
      induction k with
      | zero => rfl
      | succ k ih => simpa [bfs] using ih
    rw [this]
    rfl
  | p :: l => by
    rw [← List.singleton_append, bfs_app, bfs_flat S F k l]
    simp
theorem picks_nodup : ∀ l : List α, l.Nodup → picks l = l.map fun x => (x, l.filter fun y => decide (y ≠ x))
  | [], _ => rfl
  | x :: r, h => by
    have hx := (List.nodup_cons.mp h).1
    have hr := (List.nodup_cons.mp h).2
    have e : r.filter (fun y => decide (y ≠ x)) = r := List.filter_eq_self.mpr fun y hy => by
      simp
      rintro rfl
      exact hx hy
    simp only [picks, picks_nodup r hr, List.map_cons, List.map_map]
    congr 1
    · rw [List.filter_cons, if_neg (by simp), e]
    · refine List.map_congr_left fun y hy => ?_
      have : x ≠ y := fun z => hx (z ▸ hy)
      simp [Function.comp, List.filter_cons, this]
/-- place by place from a beginning p: what the recursion gives, behind p -/
theorem bfs_arr (S : List α) (F : Nat) (hS : S.Nodup) : ∀ (n : Nat) (p : List (Option α)), (S.filter fun x => decide (some x ∉ p)).length + (F - p.count none) = n → p.count none ≤ F →
    bfs S F n [p] = (arr n (S.filter fun x => decide (some x ∉ p)) (F - p.count none)).map (p ++ ·)
  | 0, p, _, _ => by simp [bfs, arr]
  | n + 1, p, hn, hp => by
    have hL : (S.filter fun x => decide (some x ∉ p)).Nodup := hS.filter _
    rw [bfs, show [p].flatMap (step S F) = step S F p by simp, bfs_flat, step, List.flatMap_append, arr, List.map_append]
    congr 1
    · by_cases c : p.count none < F
      · have c2 : F - p.count none > 0 := by omega
        have ec : (p ++ [none]).count none = p.count none + 1 := by simp
        have ef : (S.filter fun x => decide (some x ∉ p ++ [none])) = S.filter fun x => decide (some x ∉ p) := by
          refine List.filter_congr fun x _ => ?_
          simp
        have ih := bfs_arr S F hS n (p ++ [none]) (by rw [ec, ef]; omega) (by rw [ec]; omega)
        rw [ec, ef] at ih
        rw [if_pos c, if_pos c2]
        simp only [List.flatMap_cons, List.flatMap_nil, List.append_nil, ih, List.map_map]
        have : F - (p.count none + 1) = F - p.count none - 1 := by omega
        rw [this]
        refine List.map_congr_left fun q _ => ?_
        simp
      · have c2 : ¬ F - p.count none > 0 := by omega
        rw [if_neg c, if_neg c2]
        rfl
    · rw [picks_nodup _ hL, List.flatMap_map, List.flatMap_map, List.map_flatMap]
      have key : ∀ x ∈ (S.filter fun x => decide (some x ∉ p)), bfs S F n [p ++ [some x]] = ((arr n ((S.filter fun x => decide (some x ∉ p)).filter fun y => decide (y ≠ x)) (F - p.count none)).map (some x :: ·)).map (p ++ ·) := fun x hx => by
        have ec : (p ++ [some x]).count none = p.count none := by simp
        have ef : (S.filter fun y => decide (some y ∉ p ++ [some x])) = (S.filter fun x => decide (some x ∉ p)).filter fun y => decide (y ≠ x) := by
          rw [List.filter_filter]
          refine List.filter_congr fun y _ => ?_
          simp [Bool.and_comm]
        have el : ((S.filter fun x => decide (some x ∉ p)).filter fun y => decide (y ≠ x)).length + 1 = (S.filter fun x => decide (some x ∉ p)).length := by
          have h2 := hL.erase_eq_filter x
          have h3 := List.length_erase_of_mem hx
          have h4 := List.length_pos_of_mem hx
          rw [h2] at h3
          have h5 : ((S.filter fun x => decide (some x ∉ p)).filter fun y => decide (y ≠ x)).length = ((S.filter fun x => decide (some x ∉ p)).filter fun y => y != x).length := by
            congr 1
            refine List.filter_congr fun y _ => ?_
            by_cases h : y = x <;> simp [h]
          omega
        have ih := bfs_arr S F hS n (p ++ [some x]) (by rw [ec, ef]; omega) (by rw [ec]; exact hp)
        rw [ec, ef] at ih
        rw [ih, List.map_map]
        refine List.map_congr_left fun q _ => ?_
        simp
      have all : ∀ M : List α, (∀ x ∈ M, x ∈ (S.filter fun x => decide (some x ∉ p))) → M.flatMap (fun x => bfs S F n [p ++ [some x]]) = M.flatMap fun x => ((arr n ((S.filter fun x => decide (some x ∉ p)).filter fun y => decide (y ≠ x)) (F - p.count none)).map (some x :: ·)).map (p ++ ·) := fun M => by
        induction M with
        | nil => intro _; rfl
        | cons x M ih =>
          intro h
          rw [List.flatMap_cons, List.flatMap_cons, key x (h x List.mem_cons_self), ih fun y hy => h y (List.mem_cons_of_mem _ hy)]
      exact all _ fun x hx => hx
/-- all layouts -/
theorem bfs_all (S : List α) (F : Nat) (hS : S.Nodup) : bfs S F (S.length + F) [[]] = arr (S.length + F) S F := by
  have e : (S.filter fun x => decide (some x ∉ ([] : List (Option α)))) = S := List.filter_eq_self.mpr (by simp)
  have h := bfs_arr S F hS (S.length + F) [] (by rw [e]; simp) (by simp)
  rw [e] at h
  simpa using h
end Arr

/-! which layouts there are, and how many (pure) -/
namespace Arr
variable {α : Type} [DecidableEq α]
theorem picks_perm : ∀ (l : List α) (p : α × List α), p ∈ picks l → (p.1 :: p.2).Perm l
  | [], p, h => by cases h
  | x :: r, p, h => by
    rcases List.mem_cons.mp h with rfl | h
    · exact .refl _
    · obtain ⟨q, hq, rfl⟩ := List.mem_map.mp h
      exact (List.Perm.swap x q.1 q.2).trans ((picks_perm r q hq).cons x)
theorem picks_has : ∀ (l : List α) (x : α), x ∈ l → ∃ o, (x, o) ∈ picks l
  | y :: r, x, h => by
    rcases List.mem_cons.mp h with rfl | h
    · exact ⟨r, List.mem_cons_self⟩
    · obtain ⟨o, ho⟩ := picks_has r x h
      exact ⟨y :: o, List.mem_cons_of_mem _ (List.mem_map.mpr ⟨_, ho, rfl⟩)⟩
def nm (q : List (Option α)) : List α := q.filterMap id
theorem nm_le (q : List (Option α)) : (nm q).length ≤ q.length := List.length_filterMap_le _ _
theorem mem_arr : ∀ (n : Nat) (ns : List α) (f : Nat), ns.length + f = n → ∀ q, q ∈ arr n ns f ↔ q.length = n ∧ (nm q).Perm ns
  | 0, ns, f, h, q => by
    have h1 : ns = [] := List.eq_nil_of_length_eq_zero (by omega)
    subst h1
    constructor
    · intro hq
      have : q = [] := by simpa [arr] using hq
      subst this
      exact ⟨rfl, .nil⟩
    · rintro ⟨h1, _⟩
      have : q = [] := List.eq_nil_of_length_eq_zero h1
      simp [arr, this]
  | n + 1, ns, f, h, q => by
    unfold arr
    rw [List.mem_append]
    constructor
    · rintro (hq | hq)
      · split at hq
        · obtain ⟨r, hr, rfl⟩ := List.mem_map.mp hq
          obtain ⟨h1, h2⟩ := (mem_arr n ns (f - 1) (by omega) r).mp hr
          exact ⟨by simp [h1], h2⟩
        · cases hq
      · obtain ⟨p, hp, hq⟩ := List.mem_flatMap.mp hq
        obtain ⟨r, hr, rfl⟩ := List.mem_map.mp hq
        have hpp := picks_perm ns p hp
        have hl := hpp.length_eq
        obtain ⟨h1, h2⟩ := (mem_arr n p.2 f (by simp at hl; omega) r).mp hr
        exact ⟨by simp [h1], (h2.cons p.1).trans hpp⟩
    · rintro ⟨h1, h2⟩
      cases q with
      | nil => cases h1
      | cons c r =>
        have hr : r.length = n := by simpa using h1
        have hle := nm_le r
        cases c with
        | none =>
          have h2' : (nm r).Perm ns := h2
          have hl := h2'.length_eq
          left
          rw [if_pos (by omega)]
          exact List.mem_map.mpr ⟨r, (mem_arr n ns (f - 1) (by omega) r).mpr ⟨hr, h2'⟩, rfl⟩
        | some x =>
          have h2' : (x :: nm r).Perm ns := h2
          obtain ⟨o, ho⟩ := picks_has ns x (h2'.mem_iff.mp List.mem_cons_self)
          have hpp := picks_perm ns _ ho
          have hl := hpp.length_eq
          right
          refine List.mem_flatMap.mpr ⟨_, ho, List.mem_map.mpr ⟨r, (mem_arr n o f (by simp at hl; omega) r).mpr ⟨hr, ?_⟩, rfl⟩⟩
          exact (h2'.trans hpp.symm).cons_inv
def lenA : Nat → Nat → Nat → Nat
  | 0, _, _ => 1
  | n + 1, s, f => (if f > 0 then lenA n s (f - 1) else 0) + s * lenA n (s - 1) f
theorem flat_const {β γ : Type} (g : β → List γ) (c : Nat) : ∀ l : List β, (∀ b ∈ l, (g b).length = c) → (l.flatMap g).length = l.length * c
  | [], _ => by simp
  | b :: l, h => by
    rw [List.flatMap_cons, List.length_append, h b List.mem_cons_self, flat_const g c l fun x hx => h x (List.mem_cons_of_mem _ hx), List.length_cons, Nat.add_mul, Nat.one_mul, Nat.add_comm]
theorem arr_len : ∀ (n : Nat) (ns : List α) (f : Nat), (arr n ns f).length = lenA n ns.length f
  | 0, _, _ => rfl
  | n + 1, ns, f => by
    unfold arr lenA
    rw [List.length_append, flat_const _ (lenA n (ns.length - 1) f) (picks ns) (fun p hp => ?_), picks_length]
    · by_cases c : f > 0
      · rw [if_pos c, if_pos c, List.length_map, arr_len n ns (f - 1)]
      · rw [if_neg c, if_neg c]; rfl
    · have hl := (picks_perm ns p hp).length_eq
      have e : p.2.length = ns.length - 1 := by simp at hl; omega
      rw [List.length_map, arr_len n p.2 f, e]
/-- the law's own product -/
def prodA (n : Nat) : Nat → Nat
  | 0 => 1
  | k + 1 => prodA n k * (n - k)
theorem lenA_prod : ∀ n : Nat, n ≤ 6 → ∀ s : Nat, s ≤ n → lenA n s (n - s) = prodA n s := by
  have h : ∀ n : Fin 7, ∀ s : Fin 7, s.val ≤ n.val → lenA n.val s.val (n.val - s.val) = prodA n.val s.val := by decide +kernel
  intro n hn s hs
  exact h ⟨n, by omega⟩ ⟨s, by omega⟩ hs
end Arr

namespace My
open PySem L2 Cc Mi Wm
def oF {α : Type} (f : α → D) : Option α → D
  | none => .non
  | some x => f x
def rowF {α : Type} (f : α → D) (q : List (Option α)) : D := .ptup (q.map (oF f))
theorem prod_le : ∀ n : Fin 7, ∀ s : Fin 7, Arr.prodA n s ≤ 720 := by decide
theorem arr_le {α : Type} [DecidableEq α] {n fr : Nat} {ns : List α} (h : ns.length + fr = n) (hn : n ≤ 6) : (Arr.arr n ns fr).length ≤ 720 := by
  rw [Arr.arr_len]
  have e : fr = n - ns.length := by omega
  rw [e, Arr.lenA_prod n hn ns.length (by omega)]
  exact prod_le ⟨n, by omega⟩ ⟨ns.length, by omega⟩
theorem cut_from {α : Type} (f : α → D) (xs : List α) {i : Nat} (h : i ≤ xs.length) : cutD (xs.map f) (some (i : Nat)) none = (xs.drop i).map f := by
  unfold cutD
  rw [HT.sIx_none, HT.sIx_nat, List.length_map, Nat.min_eq_left h, List.map_drop, List.take_of_length_le (by simp)]
theorem f_catT {ds es : List D} (h : ds.length + es.length ≤ 100000) : fCatT (.ptup ds) (.ptup es) = some (.ptup (ds ++ es)) := if_pos h
theorem lc_row {α : Type} (f : α → D) (o : Option α) {L : List (List (Option α))} (hL : L.length ≤ 720) (hq : ∀ q ∈ L, q.length ≤ 6) {p : Pat} {c : Mi.Env → M Bool} {e : Mi.Env → M D} {ρ : Mi.Env} (h : ∀ q ∈ L, ∃ ρ1, p (rowF f q) ρ = some ρ1 ∧ c ρ1 = .ret true ∧ e ρ1 = M.ofO (fCatT (.ptup [oF f o]) (rowF f q))) : lcGo p c e ρ (L.map (rowF f)) = .ret ((L.map (o :: ·)).map (rowF f)) := by
  rw [lcGo_map (rowF f) (fun q => rowF f (o :: q)) L fun q hq' => ?_, List.map_map]
  · rfl
  · obtain ⟨ρ1, h1, h2, h3⟩ := h q hq'
    refine ⟨ρ1, h1, h2, ?_⟩
    rw [h3]
    unfold rowF
    rw [f_catT (by have := hq q hq'; simp; omega)]
    rfl
def preA {α : Type} (n : Nat) (ns : List α) (fr : Nat) : List (List (Option α)) := if fr > 0 then (Arr.arr n ns (fr - 1)).map (none :: ·) else []
def nextA {α : Type} (n fr : Nat) (p : α × List α) : List (List (Option α)) := (Arr.arr n p.2 fr).map (some p.1 :: ·)
theorem arr_mem {α : Type} [DecidableEq α] {n fr : Nat} {ns : List α} (h : ns.length + fr = n) : ∀ q ∈ Arr.arr n ns fr, q.length = n := fun q hq => ((Arr.mem_arr n ns fr h q).mp hq).1
end My

namespace My
open PySem L2 Cc Mi Wm
abbrev jI (j : Nat) : D := .int (j : Int)
def srtN (js : List Nat) : List Nat := js.mergeSort fun a b => decide ((a : Int) ≤ (b : Int))
theorem srt_perm (js : List Nat) : (srtN js).Perm js := List.mergeSort_perm _ _
theorem srt_one {js ks : List Nat} (h : js.Perm ks) : srtN js = srtN ks := by
  have s : ∀ js : List Nat, (srtN js).Pairwise fun a b => a ≤ b := fun js => by
    have := List.pairwise_mergeSort (le := fun a b : Nat => decide ((a : Int) ≤ (b : Int))) (fun a b c h1 h2 => by simp at *; omega) (fun a b => by simp; omega) js
    exact this.imp fun h => by simpa using h
  exact List.Perm.eq_of_pairwise (le := fun a b : Nat => a ≤ b) (fun a b _ _ h1 h2 => by omega) (s js) (s ks) ((srt_perm js).trans (h.trans (srt_perm ks).symm))
theorem f_sort {js : List Nat} (h : js.length ≤ 1000) : fSortD [.ptup (jD js)] = some (jD (srtN js)) := by
  have e1 : D.pls (jD js) = true := D.pls_iff.mpr fun d hd => by obtain ⟨j, _, rfl⟩ := List.mem_map.mp hd; rfl
  have e2 : D.pys (jD js) = js.map fun (j : Nat) => PyData.int (j : Int) := by rw [D.pys_map, List.map_map]; rfl
  have e3 : sortOk (D.pys (jD js)) = true := by
    rw [e2]
    unfold sortOk
    simp only [List.length_map, Bool.and_eq_true, List.all_eq_true, decide_eq_true_eq, Bool.or_eq_true]
    refine ⟨⟨⟨fun x hx y hy => ?_, .inr fun x hx => ?_⟩, fun x hx => ?_⟩, by omega⟩
    · obtain ⟨i, _, rfl⟩ := List.mem_map.mp hx
      obtain ⟨k, _, rfl⟩ := List.mem_map.mp hy
      rfl
    · obtain ⟨i, _, rfl⟩ := List.mem_map.mp hx
      rfl
    · obtain ⟨i, _, rfl⟩ := List.mem_map.mp hx
      exact Nat.zero_le _
  show (if (D.pls (jD js) && sortOk (D.pys (jD js))) = true then some ((jD js).mergeSort (PySem.W.dataLe false D.py)) else none) = _
  rw [e1, e3]
  show some ((js.map jI).mergeSort (PySem.W.dataLe false D.py)) = some ((js.mergeSort _).map jI)
  rw [List.map_mergeSort (s := PySem.W.dataLe false D.py) (f := jI)]
  intro a _ b _
  have := congrFun (congrFun (PySem.W.dataLe_int (fun j : Nat => (j : Int))) a) b
  exact this.symm
theorem opt_all {α : Type} [DecidableEq α] : ∀ {q : List (Option α)}, (Arr.nm q).length = q.length → q = (Arr.nm q).map some
  | [], _ => rfl
  | none :: q, h => by
    have := Arr.nm_le q
    have e : Arr.nm (none :: q) = Arr.nm q := rfl
    rw [e] at h
    simp at h; omega
  | some x :: q, h => by
    have e : Arr.nm (some x :: q) = x :: Arr.nm q := rfl
    rw [e] at h ⊢
    rw [List.map_cons, ← opt_all (q := q) (by simpa using h)]
def rowP (p : Int × List Nat) : D := .ptup [.int p.1, .ptup (jD p.2)]
theorem rowP_py (p : Int × List Nat) : (rowP p).py = (rowD p).py := rfl
theorem min_rows {n : Nat} (p : Int × List Nat) (ps : List (Int × List Nat)) (hn : ∀ q ∈ p :: ps, q.2.length = n) : Mi.minO ((p :: ps).map rowP) = some (rowP (minT p ps)) := by
  have e0 : ∀ js : List Nat, cans (jD js) = true := fun js => by
    induction js with
    | nil => rfl
    | cons q qs ih => simp [cans, can, ih]
  have e0' : ∀ q : Int × List Nat, can (rowP q) = true := fun q => by simp [rowP, can, cans, e0]
  have e1 : ∀ qs : List (Int × List Nat), cans (qs.map rowP) = true := fun qs => by
    induction qs with
    | nil => rfl
    | cons q qs ih => simp [cans, e0', ih]
  have e2 : ∀ qs : List (Int × List Nat), D.pys (qs.map rowP) = qs.map fun q => (rowD q).py := fun qs => by
    rw [D.pys_map, List.map_map]; rfl
  have e3 : alikeB (D.pys ((p :: ps).map rowP)) = true := by
    rw [e2]
    have := alike_rows hn
    simp only [alikeB, Bool.and_eq_true, List.all_eq_true]
    refine ⟨fun x hx y hy => this.1 x hx y hy, fun x hx => ?_⟩
    obtain ⟨q, _, rfl⟩ := List.mem_map.mp hx
    rfl
  have e4 : PyData.depthAll (D.pys ((p :: ps).map rowP)) ≤ 60 := by
    rw [e2]
    exact Nat.le_trans (depth_rows (p :: ps)) (by decide)
  have e5 := e1 (p :: ps)
  rw [List.map_cons] at *
  unfold Mi.minO
  dsimp only
  rw [e5, e3, decide_eq_true e4]
  have e6 : PySem.W.minD (rowP p).py (D.pys (ps.map rowP)) = (rowP (minT p ps)).py := by
    rw [e2]; exact minD_rows ps p
  rw [e6, unpy_py _ (e0' _)]
  rfl
section
variable {C : Addr} {l : List (Int × Int)} {a b c : D}
end
end My

namespace My
open PySem L2 Cc Mi Wm
theorem w_fig : m_is_word [.str "fig"] = .ret (.bl true) := by kernel_rfl
theorem w_kiwi : m_is_word [.str "kiwi"] = .ret (.bl true) := by kernel_rfl
theorem w_plum : m_is_word [.str "plum"] = .ret (.bl true) := by kernel_rfl
theorem l_fk : fLtS (.str "fig") (.str "kiwi") = some (.bl true) := by kernel_rfl
theorem l_kp : fLtS (.str "kiwi") (.str "plum") = some (.bl true) := by kernel_rfl
def crD (k : Nat) : List D := [D.str "fig", .str "kiwi", .str "plum"].take k
section
variable {C : Addr} {l : List (Int × Int)} {a b c : D}
theorem x_door {p : Int × Int} (h : 1 ≤ p.1 ∧ p.1 ≤ 99 ∧ 1 ≤ p.2 ∧ p.2 ≤ 4) : m_is_door [dT p] = .ret (.bl true) := by
  have e1 : fLen [dT p] = some (.int 2) := by unfold dT; rw [f_lenP (by simp)]; rfl
  simp -implicitDefEqProofs only [defM, defR, lawM, fin, sSeq, sExpr, sAsg, sAsgB, sPat, sPatB, sOwn, sOwnB, sPar, sPar3, sRet, sRetN, sIf, sFor, sForB, sApp, sAppB, sExt, sExtB, sSet, sFz, sNext, sBreak, sCont, sAug, sAugL, sErrF, sErr, sParX, sParX3, agGo, Fl.next, Fl.turn, vB, ok1, okL, mVar, mC, mOp, mUn, mNil, mCons, mCB, mCBn, mCall, mTup, mLst, mNew, asB, cOf, cAnd, cOr, cNot, cYes, mAnd, mOr, mNot, mIf, mChain, oNone, asI, oSome, mOpN, mPt, iL, iT, mFld, mProp, mLenI, mSlT, mSlL, pName, pGo, pTup, pLst, wipeE, mIsT, mCallR, mDraw, isRow, look, M.bind_ret, M.bind_err, M.bind_bad, M.bind_draw, M.ofO_some, M.ofO_none, M.calm_ret, M.calm_bad, M.calm_draw, M.bind_assoc, M.wp_ret, List.length_cons, List.length_nil, List.map_cons, List.map_nil, List.replicate_zero, List.replicate_succ, List.cons_append, List.nil_append, List.set_cons_zero, List.set_cons_succ, List.getElem?_cons_zero, List.getElem?_cons_succ, Nat.reduceAdd, Nat.reduceSub, Nat.reduceLeDiff, Nat.reduceEqDiff, if_true, if_false, ite_true, ite_false, reduceIte, Bool.not_true, Bool.not_false, Bool.false_eq_true, m_is_door, dT, D.noob, D.isT]
  rw [show D.ptup [D.int p.1, D.int p.2] = dT p from rfl]
  simp -implicitDefEqProofs only [defM, defR, lawM, fin, sSeq, sExpr, sAsg, sAsgB, sPat, sPatB, sOwn, sOwnB, sPar, sPar3, sRet, sRetN, sIf, sFor, sForB, sApp, sAppB, sExt, sExtB, sSet, sFz, sNext, sBreak, sCont, sAug, sAugL, sErrF, sErr, sParX, sParX3, agGo, Fl.next, Fl.turn, vB, ok1, okL, mVar, mC, mOp, mUn, mNil, mCons, mCB, mCBn, mCall, mTup, mLst, mNew, asB, cOf, cAnd, cOr, cNot, cYes, mAnd, mOr, mNot, mIf, mChain, oNone, asI, oSome, mOpN, mPt, iL, iT, mFld, mProp, mLenI, mSlT, mSlL, pName, pGo, pTup, pLst, wipeE, mIsT, mCallR, mDraw, isRow, look, M.bind_ret, M.bind_err, M.bind_bad, M.bind_draw, M.ofO_some, M.ofO_none, M.calm_ret, M.calm_bad, M.calm_draw, M.bind_assoc, M.wp_ret, List.length_cons, List.length_nil, List.map_cons, List.map_nil, List.replicate_zero, List.replicate_succ, List.cons_append, List.nil_append, List.set_cons_zero, List.set_cons_succ, List.getElem?_cons_zero, List.getElem?_cons_succ, Nat.reduceAdd, Nat.reduceSub, Nat.reduceLeDiff, Nat.reduceEqDiff, if_true, if_false, ite_true, ite_false, reduceIte, Bool.not_true, Bool.not_false, Bool.false_eq_true, e1, f_neI, f_ix0, f_ix1, x_num, decide_eq_true h.1, decide_eq_true h.2.1, decide_eq_true h.2.2.1, decide_eq_true h.2.2.2, beq_self_eq_true, Bool.and_self]
theorem sum_map (ns : List Int) : fSum [.lst (ns.map D.int)] = some (.int ns.sum) := by
  show (match intsO (ns.map D.int) with | some ns => some (D.int ns.sum) | none => none) = _
  rw [intsO_map]
theorem x_doorsFit (h1 : 1 ≤ l.length) (h2 : l.length ≤ 4) (h3 : ∀ p ∈ l, 1 ≤ p.1 ∧ p.1 ≤ 99 ∧ 1 ≤ p.2 ∧ p.2 ≤ 4) (h4 : (l.map (·.2)).sum ≤ 6) : m_doors_fit [dsT l] = .ret (.bl true) := by
  have e1 := f_lenP (ds := l.map dT) (by simp; omega)
  rw [List.length_map] at e1
  have e1' : fLen [dsT l] = some (.int (l.length : Nat)) := e1
  simp -implicitDefEqProofs only [defM, defR, lawM, fin, sSeq, sExpr, sAsg, sAsgB, sPat, sPatB, sOwn, sOwnB, sPar, sPar3, sRet, sRetN, sIf, sFor, sForB, sApp, sAppB, sExt, sExtB, sSet, sFz, sNext, sBreak, sCont, sAug, sAugL, sErrF, sErr, sParX, sParX3, agGo, Fl.next, Fl.turn, vB, ok1, okL, mVar, mC, mOp, mUn, mNil, mCons, mCB, mCBn, mCall, mTup, mLst, mNew, asB, cOf, cAnd, cOr, cNot, cYes, mAnd, mOr, mNot, mIf, mChain, oNone, asI, oSome, mOpN, mPt, iL, iT, mFld, mProp, mLenI, mSlT, mSlL, pName, pGo, pTup, pLst, wipeE, mIsT, mCallR, mDraw, isRow, look, M.bind_ret, M.bind_err, M.bind_bad, M.bind_draw, M.ofO_some, M.ofO_none, M.calm_ret, M.calm_bad, M.calm_draw, M.bind_assoc, M.wp_ret, List.length_cons, List.length_nil, List.map_cons, List.map_nil, List.replicate_zero, List.replicate_succ, List.cons_append, List.nil_append, List.set_cons_zero, List.set_cons_succ, List.getElem?_cons_zero, List.getElem?_cons_succ, Nat.reduceAdd, Nat.reduceSub, Nat.reduceLeDiff, Nat.reduceEqDiff, if_true, if_false, ite_true, ite_false, reduceIte, Bool.not_true, Bool.not_false, Bool.false_eq_true, m_doors_fit, D.noob, D.isT, beq_self_eq_true, f_i, dsT, e1, mLc, decide_eq_true (show (1 : Int) ≤ (l.length : Nat) by omega), decide_eq_true (show ((l.length : Nat) : Int) ≤ 4 by omega)]
  rw [if_pos (by rw [List.length_map]; omega), lcGo_map dT (fun _ => .bl true) l fun p hp => ⟨_, rfl, rfl, by simp -implicitDefEqProofs only [defM, defR, lawM, fin, sSeq, sExpr, sAsg, sAsgB, sPat, sPatB, sOwn, sOwnB, sPar, sPar3, sRet, sRetN, sIf, sFor, sForB, sApp, sAppB, sExt, sExtB, sSet, sFz, sNext, sBreak, sCont, sAug, sAugL, sErrF, sErr, sParX, sParX3, agGo, Fl.next, Fl.turn, vB, ok1, okL, mVar, mC, mOp, mUn, mNil, mCons, mCB, mCBn, mCall, mTup, mLst, mNew, asB, cOf, cAnd, cOr, cNot, cYes, mAnd, mOr, mNot, mIf, mChain, oNone, asI, oSome, mOpN, mPt, iL, iT, mFld, mProp, mLenI, mSlT, mSlL, pName, pGo, pTup, pLst, wipeE, mIsT, mCallR, mDraw, isRow, look, M.bind_ret, M.bind_err, M.bind_bad, M.bind_draw, M.ofO_some, M.ofO_none, M.calm_ret, M.calm_bad, M.calm_draw, M.bind_assoc, M.wp_ret, List.length_cons, List.length_nil, List.map_cons, List.map_nil, List.replicate_zero, List.replicate_succ, List.cons_append, List.nil_append, List.set_cons_zero, List.set_cons_succ, List.getElem?_cons_zero, List.getElem?_cons_succ, Nat.reduceAdd, Nat.reduceSub, Nat.reduceLeDiff, Nat.reduceEqDiff, if_true, if_false, ite_true, ite_false, reduceIte, Bool.not_true, Bool.not_false, Bool.false_eq_true, x_door (h3 p hp)]⟩]
  have e2 : l.map (fun _ => D.bl true) = (l.map fun _ => true).map D.bl := by rw [List.map_map]; rfl
  have e3 : (l.map fun _ => true).all id = true := by simp
  simp -implicitDefEqProofs only [defM, defR, lawM, fin, sSeq, sExpr, sAsg, sAsgB, sPat, sPatB, sOwn, sOwnB, sPar, sPar3, sRet, sRetN, sIf, sFor, sForB, sApp, sAppB, sExt, sExtB, sSet, sFz, sNext, sBreak, sCont, sAug, sAugL, sErrF, sErr, sParX, sParX3, agGo, Fl.next, Fl.turn, vB, ok1, okL, mVar, mC, mOp, mUn, mNil, mCons, mCB, mCBn, mCall, mTup, mLst, mNew, asB, cOf, cAnd, cOr, cNot, cYes, mAnd, mOr, mNot, mIf, mChain, oNone, asI, oSome, mOpN, mPt, iL, iT, mFld, mProp, mLenI, mSlT, mSlL, pName, pGo, pTup, pLst, wipeE, mIsT, mCallR, mDraw, isRow, look, M.bind_ret, M.bind_err, M.bind_bad, M.bind_draw, M.ofO_some, M.ofO_none, M.calm_ret, M.calm_bad, M.calm_draw, M.bind_assoc, M.wp_ret, List.length_cons, List.length_nil, List.map_cons, List.map_nil, List.replicate_zero, List.replicate_succ, List.cons_append, List.nil_append, List.set_cons_zero, List.set_cons_succ, List.getElem?_cons_zero, List.getElem?_cons_succ, Nat.reduceAdd, Nat.reduceSub, Nat.reduceLeDiff, Nat.reduceEqDiff, if_true, if_false, ite_true, ite_false, reduceIte, Bool.not_true, Bool.not_false, Bool.false_eq_true, e2, all_map, e3]
  rw [lcGo_map dT (fun p => .int p.2) l fun p hp => ⟨_, rfl, rfl, by simp -implicitDefEqProofs only [defM, defR, lawM, fin, sSeq, sExpr, sAsg, sAsgB, sPat, sPatB, sOwn, sOwnB, sPar, sPar3, sRet, sRetN, sIf, sFor, sForB, sApp, sAppB, sExt, sExtB, sSet, sFz, sNext, sBreak, sCont, sAug, sAugL, sErrF, sErr, sParX, sParX3, agGo, Fl.next, Fl.turn, vB, ok1, okL, mVar, mC, mOp, mUn, mNil, mCons, mCB, mCBn, mCall, mTup, mLst, mNew, asB, cOf, cAnd, cOr, cNot, cYes, mAnd, mOr, mNot, mIf, mChain, oNone, asI, oSome, mOpN, mPt, iL, iT, mFld, mProp, mLenI, mSlT, mSlL, pName, pGo, pTup, pLst, wipeE, mIsT, mCallR, mDraw, isRow, look, M.bind_ret, M.bind_err, M.bind_bad, M.bind_draw, M.ofO_some, M.ofO_none, M.calm_ret, M.calm_bad, M.calm_draw, M.bind_assoc, M.wp_ret, List.length_cons, List.length_nil, List.map_cons, List.map_nil, List.replicate_zero, List.replicate_succ, List.cons_append, List.nil_append, List.set_cons_zero, List.set_cons_succ, List.getElem?_cons_zero, List.getElem?_cons_succ, Nat.reduceAdd, Nat.reduceSub, Nat.reduceLeDiff, Nat.reduceEqDiff, if_true, if_false, ite_true, ite_false, reduceIte, Bool.not_true, Bool.not_false, Bool.false_eq_true, f_ix1]⟩]
  have e4 : l.map (fun p => D.int p.2) = (l.map (·.2)).map D.int := by rw [List.map_map]; rfl
  simp -implicitDefEqProofs only [defM, defR, lawM, fin, sSeq, sExpr, sAsg, sAsgB, sPat, sPatB, sOwn, sOwnB, sPar, sPar3, sRet, sRetN, sIf, sFor, sForB, sApp, sAppB, sExt, sExtB, sSet, sFz, sNext, sBreak, sCont, sAug, sAugL, sErrF, sErr, sParX, sParX3, agGo, Fl.next, Fl.turn, vB, ok1, okL, mVar, mC, mOp, mUn, mNil, mCons, mCB, mCBn, mCall, mTup, mLst, mNew, asB, cOf, cAnd, cOr, cNot, cYes, mAnd, mOr, mNot, mIf, mChain, oNone, asI, oSome, mOpN, mPt, iL, iT, mFld, mProp, mLenI, mSlT, mSlL, pName, pGo, pTup, pLst, wipeE, mIsT, mCallR, mDraw, isRow, look, M.bind_ret, M.bind_err, M.bind_bad, M.bind_draw, M.ofO_some, M.ofO_none, M.calm_ret, M.calm_bad, M.calm_draw, M.bind_assoc, M.wp_ret, List.length_cons, List.length_nil, List.map_cons, List.map_nil, List.replicate_zero, List.replicate_succ, List.cons_append, List.nil_append, List.set_cons_zero, List.set_cons_succ, List.getElem?_cons_zero, List.getElem?_cons_succ, Nat.reduceAdd, Nat.reduceSub, Nat.reduceLeDiff, Nat.reduceEqDiff, if_true, if_false, ite_true, ite_false, reduceIte, Bool.not_true, Bool.not_false, Bool.false_eq_true, e4, sum_map, f_i, decide_eq_true h4, show (l.map dT).length ≤ 100000 by simp; omega]
def plc : Int → List (Int × Int) → List D
  | _, [] => []
  | f, p :: ps => .ptup (rgD f (f + p.2)) :: plc (f + p.2) ps
theorem rgD_len {f k : Int} (h : 0 ≤ k) : ((rgD f (f + k)).length : Int) = k := by
  unfold rgD
  rw [List.length_map, List.length_range]
  omega
theorem sum_nn : ∀ {l : List (Int × Int)}, (∀ p ∈ l, 1 ≤ p.2) → 0 ≤ (l.map (·.2)).sum
  | [], _ => Int.le_refl _
  | p :: l, h => by
    have h1 := h p (by simp)
    have h2 := sum_nn (l := l) fun q hq => h q (List.mem_cons_of_mem _ hq)
    rw [List.map_cons, List.sum_cons]; omega
theorem plc_len : ∀ (l : List (Int × Int)) (f : Int), (plc f l).length = l.length
  | [], _ => rfl
  | p :: l, f => by simp [plc, plc_len l]
theorem x_places (h1 : l.length ≤ 4) (h3 : ∀ p ∈ l, 1 ≤ p.2) (h4 : (l.map (·.2)).sum ≤ 6) : m_places_behind [dsT l] = .ret (.ptup (plc 0 l)) := by
  simp -implicitDefEqProofs only [defM, defR, lawM, fin, sSeq, sExpr, sAsg, sAsgB, sPat, sPatB, sOwn, sOwnB, sPar, sPar3, sRet, sRetN, sIf, sFor, sForB, sApp, sAppB, sExt, sExtB, sSet, sFz, sNext, sBreak, sCont, sAug, sAugL, sErrF, sErr, sParX, sParX3, agGo, Fl.next, Fl.turn, vB, ok1, okL, mVar, mC, mOp, mUn, mNil, mCons, mCB, mCBn, mCall, mTup, mLst, mNew, asB, cOf, cAnd, cOr, cNot, cYes, mAnd, mOr, mNot, mIf, mChain, oNone, asI, oSome, mOpN, mPt, iL, iT, mFld, mProp, mLenI, mSlT, mSlL, pName, pGo, pTup, pLst, wipeE, mIsT, mCallR, mDraw, isRow, look, M.bind_ret, M.bind_err, M.bind_bad, M.bind_draw, M.ofO_some, M.ofO_none, M.calm_ret, M.calm_bad, M.calm_draw, M.bind_assoc, M.wp_ret, List.length_cons, List.length_nil, List.map_cons, List.map_nil, List.replicate_zero, List.replicate_succ, List.cons_append, List.nil_append, List.set_cons_zero, List.set_cons_succ, List.getElem?_cons_zero, List.getElem?_cons_succ, Nat.reduceAdd, Nat.reduceSub, Nat.reduceLeDiff, Nat.reduceEqDiff, if_true, if_false, ite_true, ite_false, reduceIte, Bool.not_true, Bool.not_false, Bool.false_eq_true, m_places_behind, dsT, Nat.zero_le]
  refine forGo_bind dT (fun xs ρ => ∃ f acc s t, 0 ≤ f ∧ (∀ p ∈ xs, 1 ≤ p.2) ∧ f + (xs.map (·.2)).sum ≤ 6 ∧ acc.length + xs.length = l.length ∧ acc ++ plc f xs = plc 0 l ∧ ρ = [.dat (dsT l), .own acc, .dat (.int f), s, t]) l (fun p xs ρ ⟨f, acc, s, t, q0, q1, q2, q3, q4, q5⟩ => ?_) ⟨0, [], .no, .no, Int.le_refl _, h3, by omega, by simp, rfl, rfl⟩ fun ρ' ⟨f, acc, s, t, q0, q1, q2, q3, q4, q5⟩ => ?_
  · subst q5
    have hp := q1 p (by simp)
    have hx : ∀ p ∈ xs, 1 ≤ p.2 := fun q hq => q1 q (List.mem_cons_of_mem _ hq)
    have hs := sum_nn hx
    rw [List.map_cons, List.sum_cons] at q2
    have hrg : rgOk f (f + p.2) = true := by
      unfold rgOk
      rw [decide_eq_true (show (-1000000 : Int) ≤ f by omega), decide_eq_true (show f ≤ 1000000 by omega), decide_eq_true (show (-1000000 : Int) ≤ f + p.2 by omega), decide_eq_true (show f + p.2 ≤ 1000000 by omega)]
      rfl
    have ha : acc.length < 100000 := by simp at q3; omega
    refine ⟨_, _, rfl, ?_, f + p.2, acc ++ [.ptup (rgD f (f + p.2))], .dat (dT p), .dat (.int (f + p.2)), by omega, hx, by omega, by simp at *; omega, by rw [← q4, List.append_assoc]; rfl, rfl⟩
    simp -implicitDefEqProofs only [defM, defR, lawM, fin, sSeq, sExpr, sAsg, sAsgB, sPat, sPatB, sOwn, sOwnB, sPar, sPar3, sRet, sRetN, sIf, sFor, sForB, sApp, sAppB, sExt, sExtB, sSet, sFz, sNext, sBreak, sCont, sAug, sAugL, sErrF, sErr, sParX, sParX3, agGo, Fl.next, Fl.turn, vB, ok1, okL, mVar, mC, mOp, mUn, mNil, mCons, mCB, mCBn, mCall, mTup, mLst, mNew, asB, cOf, cAnd, cOr, cNot, cYes, mAnd, mOr, mNot, mIf, mChain, oNone, asI, oSome, mOpN, mPt, iL, iT, mFld, mProp, mLenI, mSlT, mSlL, pName, pGo, pTup, pLst, wipeE, mIsT, mCallR, mDraw, isRow, look, M.bind_ret, M.bind_err, M.bind_bad, M.bind_draw, M.ofO_some, M.ofO_none, M.calm_ret, M.calm_bad, M.calm_draw, M.bind_assoc, M.wp_ret, List.length_cons, List.length_nil, List.map_cons, List.map_nil, List.replicate_zero, List.replicate_succ, List.cons_append, List.nil_append, List.set_cons_zero, List.set_cons_succ, List.getElem?_cons_zero, List.getElem?_cons_succ, Nat.reduceAdd, Nat.reduceSub, Nat.reduceLeDiff, Nat.reduceEqDiff, if_true, if_false, ite_true, ite_false, reduceIte, Bool.not_true, Bool.not_false, Bool.false_eq_true, f_ix1, f_i, rg2, hrg, ha]
  · subst q5
    simp -implicitDefEqProofs only [defM, defR, lawM, fin, sSeq, sExpr, sAsg, sAsgB, sPat, sPatB, sOwn, sOwnB, sPar, sPar3, sRet, sRetN, sIf, sFor, sForB, sApp, sAppB, sExt, sExtB, sSet, sFz, sNext, sBreak, sCont, sAug, sAugL, sErrF, sErr, sParX, sParX3, agGo, Fl.next, Fl.turn, vB, ok1, okL, mVar, mC, mOp, mUn, mNil, mCons, mCB, mCBn, mCall, mTup, mLst, mNew, asB, cOf, cAnd, cOr, cNot, cYes, mAnd, mOr, mNot, mIf, mChain, oNone, asI, oSome, mOpN, mPt, iL, iT, mFld, mProp, mLenI, mSlT, mSlL, pName, pGo, pTup, pLst, wipeE, mIsT, mCallR, mDraw, isRow, look, M.bind_ret, M.bind_err, M.bind_bad, M.bind_draw, M.ofO_some, M.ofO_none, M.calm_ret, M.calm_bad, M.calm_draw, M.bind_assoc, M.wp_ret, List.length_cons, List.length_nil, List.map_cons, List.map_nil, List.replicate_zero, List.replicate_succ, List.cons_append, List.nil_append, List.set_cons_zero, List.set_cons_succ, List.getElem?_cons_zero, List.getElem?_cons_succ, Nat.reduceAdd, Nat.reduceSub, Nat.reduceLeDiff, Nat.reduceEqDiff, if_true, if_false, ite_true, ite_false, reduceIte, Bool.not_true, Bool.not_false, Bool.false_eq_true, f_tup, ← q4, plc, List.append_nil]
theorem fix_rg (f k : Int) : D.fixs (rgD f k) = true := D.fixs_iff.mpr fun d hd => by
  obtain ⟨i, _, rfl⟩ := List.mem_map.mp hd; rfl
theorem pl_rg (f k : Int) : D.pls (rgD f k) = true := D.pls_iff.mpr fun d hd => by
  obtain ⟨i, _, rfl⟩ := List.mem_map.mp hd; rfl
theorem plc_ok : ∀ (l : List (Int × Int)) (f : Int), D.fixs (plc f l) = true ∧ D.pls (plc f l) = true
  | [], _ => ⟨rfl, rfl⟩
  | p :: l, f => by
    obtain ⟨h1, h2⟩ := plc_ok l (f + p.2)
    have e1 := fix_rg f (f + p.2)
    have e2 := pl_rg f (f + p.2)
    simp [plc, D.fixs, D.pls, D.fix, D.pl, h1, h2, e1, e2]
theorem ds_ok (l : List (Int × Int)) : (dsT l).fix = true ∧ (dsT l).pl = true :=
  ⟨D.fixs_iff.mpr fun d hd => by obtain ⟨p, _, rfl⟩ := List.mem_map.mp hd; rfl, D.pls_iff.mpr fun d hd => by obtain ⟨p, _, rfl⟩ := List.mem_map.mp hd; rfl⟩
theorem fld_run {k i : Nat} {p : List Str → Bool} {f : Str} {m : Mi.Env → M D} {ρ : Mi.Env} {C : Addr} {ns : List Str} {ds : List D} {d : D} (h : ρ[i]? = some (.slf k C ns ds)) (hm : m (vB ρ) = .ret d) (hk : d.fix = true ∧ d.pl = true) (hn : (!ns.contains f && decide (ns.length < 100) && p (ns ++ [f])) = true) : sFldS k i p f m ρ = .ret (.nx (ρ.set i (.slf k C (ns ++ [f]) (ds ++ [d])))) := by
  unfold sFldS
  rw [h]
  dsimp only
  rw [hm, M.bind_ret]
  refine if_pos ?_
  simp only [Bool.and_eq_true] at hn ⊢
  simp [ok1, hk.1, hk.2, hn.1.2]
  exact ⟨by simpa using hn.1.1, hn.2⟩
theorem n1 : stP ["_places"] = true := by decide
theorem n2 : stP ["_places", "_size"] = true := by decide
theorem n3 : stP ["_places", "_size", "_doors"] = true := by decide
theorem n4 : stP ["_places", "_size", "_doors", "_crates"] = true := by decide
theorem at_pl {d : D} : fAt ["_places"] [d] "_places" = some d := rfl
theorem at_sz {d e : D} : fAt ["_places", "_size"] [d, e] "_size" = some e := rfl
theorem x_init {cr : List D} (h1 : 1 ≤ l.length) (h2 : l.length ≤ 4) (h3 : ∀ p ∈ l, 1 ≤ p.1 ∧ p.1 ≤ 99 ∧ 1 ≤ p.2 ∧ p.2 ≤ 4) (h4 : (l.map (·.2)).sum ≤ 6) (hc : m_crates_fit [.ptup cr, .int (l.map (·.2)).sum] = .ret (.bl true)) (hcf : D.fixs cr = true ∧ D.pls cr = true) :
    m_Store___init__ C [dsT l, .ptup cr] = .ret (stT C l (.ptup (plc 0 l)) (.int (l.map (·.2)).sum) (.ptup cr)) := by
  simp -implicitDefEqProofs only [defM, defR, lawM, fin, sSeq, sExpr, sAsg, sAsgB, sPat, sPatB, sOwn, sOwnB, sPar, sPar3, sRet, sRetN, sIf, sFor, sForB, sApp, sAppB, sExt, sExtB, sSet, sFz, sNext, sBreak, sCont, sAug, sAugL, sErrF, sErr, sParX, sParX3, agGo, Fl.next, Fl.turn, vB, ok1, okL, mVar, mC, mOp, mUn, mNil, mCons, mCB, mCBn, mCall, mTup, mLst, mNew, asB, cOf, cAnd, cOr, cNot, cYes, mAnd, mOr, mNot, mIf, mChain, oNone, asI, oSome, mOpN, mPt, iL, iT, mFld, mProp, mLenI, mSlT, mSlL, pName, pGo, pTup, pLst, wipeE, mIsT, mCallR, mDraw, isRow, look, M.bind_ret, M.bind_err, M.bind_bad, M.bind_draw, M.ofO_some, M.ofO_none, M.calm_ret, M.calm_bad, M.calm_draw, M.bind_assoc, M.wp_ret, List.length_cons, List.length_nil, List.map_cons, List.map_nil, List.replicate_zero, List.replicate_succ, List.cons_append, List.nil_append, List.set_cons_zero, List.set_cons_succ, List.getElem?_cons_zero, List.getElem?_cons_succ, Nat.reduceAdd, Nat.reduceSub, Nat.reduceLeDiff, Nat.reduceEqDiff, if_true, if_false, ite_true, ite_false, reduceIte, Bool.not_true, Bool.not_false, Bool.false_eq_true, m_Store___init__, defI, x_doorsFit h1 h2 h3 h4]
  rw [fld_run (d := .ptup (plc 0 l)) rfl (by simp -implicitDefEqProofs only [defM, defR, lawM, fin, sSeq, sExpr, sAsg, sAsgB, sPat, sPatB, sOwn, sOwnB, sPar, sPar3, sRet, sRetN, sIf, sFor, sForB, sApp, sAppB, sExt, sExtB, sSet, sFz, sNext, sBreak, sCont, sAug, sAugL, sErrF, sErr, sParX, sParX3, agGo, Fl.next, Fl.turn, vB, ok1, okL, mVar, mC, mOp, mUn, mNil, mCons, mCB, mCBn, mCall, mTup, mLst, mNew, asB, cOf, cAnd, cOr, cNot, cYes, mAnd, mOr, mNot, mIf, mChain, oNone, asI, oSome, mOpN, mPt, iL, iT, mFld, mProp, mLenI, mSlT, mSlL, pName, pGo, pTup, pLst, wipeE, mIsT, mCallR, mDraw, isRow, look, M.bind_ret, M.bind_err, M.bind_bad, M.bind_draw, M.ofO_some, M.ofO_none, M.calm_ret, M.calm_bad, M.calm_draw, M.bind_assoc, M.wp_ret, List.length_cons, List.length_nil, List.map_cons, List.map_nil, List.replicate_zero, List.replicate_succ, List.cons_append, List.nil_append, List.set_cons_zero, List.set_cons_succ, List.getElem?_cons_zero, List.getElem?_cons_succ, Nat.reduceAdd, Nat.reduceSub, Nat.reduceLeDiff, Nat.reduceEqDiff, if_true, if_false, ite_true, ite_false, reduceIte, Bool.not_true, Bool.not_false, Bool.false_eq_true, x_places (by omega) (fun p hp => (h3 p hp).2.2.1) h4]) (plc_ok l 0) (by decide)]
  have hsz : lcGo (pName 3) cYes (mCB fLen (mCons (mVar 3) mNil)) [Sl.dat (.ob C ["_places"] [.ptup (plc 0 l)]), Sl.dat (dsT l), Sl.dat (D.ptup cr), Sl.no] (plc 0 l) = .ret ((l.map (·.2)).map D.int) := by
    have : ∀ (l : List (Int × Int)) (f : Int) (ρ : Mi.Env) , (∀ p ∈ l, 1 ≤ p.2 ∧ p.2 ≤ 4) → ρ.length = 4 → lcGo (pName 3) cYes (mCB fLen (mCons (mVar 3) mNil)) ρ (plc f l) = .ret ((l.map (·.2)).map D.int) := fun l => by
      induction l with
      | nil => intros; rfl
      | cons p l ih =>
        intro f ρ hp hρ
        have h := hp p (by simp)
        have hl : ((rgD f (f + p.2)).length : Int) = p.2 := rgD_len (by omega)
        have hll : (rgD f (f + p.2)).length ≤ 100000 := by omega
        match ρ, hρ with
        | [r0, r1, r2, r3], _ =>
          rw [plc, lcGo]
          simp -implicitDefEqProofs only [defM, defR, lawM, fin, sSeq, sExpr, sAsg, sAsgB, sPat, sPatB, sOwn, sOwnB, sPar, sPar3, sRet, sRetN, sIf, sFor, sForB, sApp, sAppB, sExt, sExtB, sSet, sFz, sNext, sBreak, sCont, sAug, sAugL, sErrF, sErr, sParX, sParX3, agGo, Fl.next, Fl.turn, vB, ok1, okL, mVar, mC, mOp, mUn, mNil, mCons, mCB, mCBn, mCall, mTup, mLst, mNew, asB, cOf, cAnd, cOr, cNot, cYes, mAnd, mOr, mNot, mIf, mChain, oNone, asI, oSome, mOpN, mPt, iL, iT, mFld, mProp, mLenI, mSlT, mSlL, pName, pGo, pTup, pLst, wipeE, mIsT, mCallR, mDraw, isRow, look, M.bind_ret, M.bind_err, M.bind_bad, M.bind_draw, M.ofO_some, M.ofO_none, M.calm_ret, M.calm_bad, M.calm_draw, M.bind_assoc, M.wp_ret, List.length_cons, List.length_nil, List.map_cons, List.map_nil, List.replicate_zero, List.replicate_succ, List.cons_append, List.nil_append, List.set_cons_zero, List.set_cons_succ, List.getElem?_cons_zero, List.getElem?_cons_succ, Nat.reduceAdd, Nat.reduceSub, Nat.reduceLeDiff, Nat.reduceEqDiff, if_true, if_false, ite_true, ite_false, reduceIte, Bool.not_true, Bool.not_false, Bool.false_eq_true, f_lenP hll, hl]
          rw [ih (f + p.2) [r0, r1, r2, r3] (fun q hq => hp q (List.mem_cons_of_mem _ hq)) rfl]
          simp -implicitDefEqProofs only [defM, defR, lawM, fin, sSeq, sExpr, sAsg, sAsgB, sPat, sPatB, sOwn, sOwnB, sPar, sPar3, sRet, sRetN, sIf, sFor, sForB, sApp, sAppB, sExt, sExtB, sSet, sFz, sNext, sBreak, sCont, sAug, sAugL, sErrF, sErr, sParX, sParX3, agGo, Fl.next, Fl.turn, vB, ok1, okL, mVar, mC, mOp, mUn, mNil, mCons, mCB, mCBn, mCall, mTup, mLst, mNew, asB, cOf, cAnd, cOr, cNot, cYes, mAnd, mOr, mNot, mIf, mChain, oNone, asI, oSome, mOpN, mPt, iL, iT, mFld, mProp, mLenI, mSlT, mSlL, pName, pGo, pTup, pLst, wipeE, mIsT, mCallR, mDraw, isRow, look, M.bind_ret, M.bind_err, M.bind_bad, M.bind_draw, M.ofO_some, M.ofO_none, M.calm_ret, M.calm_bad, M.calm_draw, M.bind_assoc, M.wp_ret, List.length_cons, List.length_nil, List.map_cons, List.map_nil, List.replicate_zero, List.replicate_succ, List.cons_append, List.nil_append, List.set_cons_zero, List.set_cons_succ, List.getElem?_cons_zero, List.getElem?_cons_succ, Nat.reduceAdd, Nat.reduceSub, Nat.reduceLeDiff, Nat.reduceEqDiff, if_true, if_false, ite_true, ite_false, reduceIte, Bool.not_true, Bool.not_false, Bool.false_eq_true]
    exact this l 0 _ (fun p hp => (h3 p hp).2.2) rfl
  have hpl : (plc 0 l).length ≤ 100000 := by rw [plc_len]; omega
  simp -implicitDefEqProofs only [defM, defR, lawM, fin, sSeq, sExpr, sAsg, sAsgB, sPat, sPatB, sOwn, sOwnB, sPar, sPar3, sRet, sRetN, sIf, sFor, sForB, sApp, sAppB, sExt, sExtB, sSet, sFz, sNext, sBreak, sCont, sAug, sAugL, sErrF, sErr, sParX, sParX3, agGo, Fl.next, Fl.turn, vB, ok1, okL, mVar, mC, mOp, mUn, mNil, mCons, mCB, mCBn, mCall, mTup, mLst, mNew, asB, cOf, cAnd, cOr, cNot, cYes, mAnd, mOr, mNot, mIf, mChain, oNone, asI, oSome, mOpN, mPt, iL, iT, mFld, mProp, mLenI, mSlT, mSlL, pName, pGo, pTup, pLst, wipeE, mIsT, mCallR, mDraw, isRow, look, M.bind_ret, M.bind_err, M.bind_bad, M.bind_draw, M.ofO_some, M.ofO_none, M.calm_ret, M.calm_bad, M.calm_draw, M.bind_assoc, M.wp_ret, List.length_cons, List.length_nil, List.map_cons, List.map_nil, List.replicate_zero, List.replicate_succ, List.cons_append, List.nil_append, List.set_cons_zero, List.set_cons_succ, List.getElem?_cons_zero, List.getElem?_cons_succ, Nat.reduceAdd, Nat.reduceSub, Nat.reduceLeDiff, Nat.reduceEqDiff, if_true, if_false, ite_true, ite_false, reduceIte, Bool.not_true, Bool.not_false, Bool.false_eq_true, List.nil_append]
  rw [fld_run (d := .int (l.map (·.2)).sum) rfl (by
    simp -implicitDefEqProofs only [defM, defR, lawM, fin, sSeq, sExpr, sAsg, sAsgB, sPat, sPatB, sOwn, sOwnB, sPar, sPar3, sRet, sRetN, sIf, sFor, sForB, sApp, sAppB, sExt, sExtB, sSet, sFz, sNext, sBreak, sCont, sAug, sAugL, sErrF, sErr, sParX, sParX3, agGo, Fl.next, Fl.turn, vB, ok1, okL, mVar, mC, mOp, mUn, mNil, mCons, mCB, mCBn, mCall, mTup, mLst, mNew, asB, cOf, cAnd, cOr, cNot, cYes, mAnd, mOr, mNot, mIf, mChain, oNone, asI, oSome, mOpN, mPt, iL, iT, mFld, mProp, mLenI, mSlT, mSlL, pName, pGo, pTup, pLst, wipeE, mIsT, mCallR, mDraw, isRow, look, M.bind_ret, M.bind_err, M.bind_bad, M.bind_draw, M.ofO_some, M.ofO_none, M.calm_ret, M.calm_bad, M.calm_draw, M.bind_assoc, M.wp_ret, List.length_cons, List.length_nil, List.map_cons, List.map_nil, List.replicate_zero, List.replicate_succ, List.cons_append, List.nil_append, List.set_cons_zero, List.set_cons_succ, List.getElem?_cons_zero, List.getElem?_cons_succ, Nat.reduceAdd, Nat.reduceSub, Nat.reduceLeDiff, Nat.reduceEqDiff, if_true, if_false, ite_true, ite_false, reduceIte, Bool.not_true, Bool.not_false, Bool.false_eq_true, mLc, n1, at_pl]
    rw [if_pos hpl, hsz]
    simp -implicitDefEqProofs only [defM, defR, lawM, fin, sSeq, sExpr, sAsg, sAsgB, sPat, sPatB, sOwn, sOwnB, sPar, sPar3, sRet, sRetN, sIf, sFor, sForB, sApp, sAppB, sExt, sExtB, sSet, sFz, sNext, sBreak, sCont, sAug, sAugL, sErrF, sErr, sParX, sParX3, agGo, Fl.next, Fl.turn, vB, ok1, okL, mVar, mC, mOp, mUn, mNil, mCons, mCB, mCBn, mCall, mTup, mLst, mNew, asB, cOf, cAnd, cOr, cNot, cYes, mAnd, mOr, mNot, mIf, mChain, oNone, asI, oSome, mOpN, mPt, iL, iT, mFld, mProp, mLenI, mSlT, mSlL, pName, pGo, pTup, pLst, wipeE, mIsT, mCallR, mDraw, isRow, look, M.bind_ret, M.bind_err, M.bind_bad, M.bind_draw, M.ofO_some, M.ofO_none, M.calm_ret, M.calm_bad, M.calm_draw, M.bind_assoc, M.wp_ret, List.length_cons, List.length_nil, List.map_cons, List.map_nil, List.replicate_zero, List.replicate_succ, List.cons_append, List.nil_append, List.set_cons_zero, List.set_cons_succ, List.getElem?_cons_zero, List.getElem?_cons_succ, Nat.reduceAdd, Nat.reduceSub, Nat.reduceLeDiff, Nat.reduceEqDiff, if_true, if_false, ite_true, ite_false, reduceIte, Bool.not_true, Bool.not_false, Bool.false_eq_true, sum_map]) ⟨rfl, rfl⟩ (by decide)]
  simp -implicitDefEqProofs only [defM, defR, lawM, fin, sSeq, sExpr, sAsg, sAsgB, sPat, sPatB, sOwn, sOwnB, sPar, sPar3, sRet, sRetN, sIf, sFor, sForB, sApp, sAppB, sExt, sExtB, sSet, sFz, sNext, sBreak, sCont, sAug, sAugL, sErrF, sErr, sParX, sParX3, agGo, Fl.next, Fl.turn, vB, ok1, okL, mVar, mC, mOp, mUn, mNil, mCons, mCB, mCBn, mCall, mTup, mLst, mNew, asB, cOf, cAnd, cOr, cNot, cYes, mAnd, mOr, mNot, mIf, mChain, oNone, asI, oSome, mOpN, mPt, iL, iT, mFld, mProp, mLenI, mSlT, mSlL, pName, pGo, pTup, pLst, wipeE, mIsT, mCallR, mDraw, isRow, look, M.bind_ret, M.bind_err, M.bind_bad, M.bind_draw, M.ofO_some, M.ofO_none, M.calm_ret, M.calm_bad, M.calm_draw, M.bind_assoc, M.wp_ret, List.length_cons, List.length_nil, List.map_cons, List.map_nil, List.replicate_zero, List.replicate_succ, List.cons_append, List.nil_append, List.set_cons_zero, List.set_cons_succ, List.getElem?_cons_zero, List.getElem?_cons_succ, Nat.reduceAdd, Nat.reduceSub, Nat.reduceLeDiff, Nat.reduceEqDiff, if_true, if_false, ite_true, ite_false, reduceIte, Bool.not_true, Bool.not_false, Bool.false_eq_true, n2, at_sz, hc]
  rw [fld_run (d := dsT l) rfl (by simp -implicitDefEqProofs only [defM, defR, lawM, fin, sSeq, sExpr, sAsg, sAsgB, sPat, sPatB, sOwn, sOwnB, sPar, sPar3, sRet, sRetN, sIf, sFor, sForB, sApp, sAppB, sExt, sExtB, sSet, sFz, sNext, sBreak, sCont, sAug, sAugL, sErrF, sErr, sParX, sParX3, agGo, Fl.next, Fl.turn, vB, ok1, okL, mVar, mC, mOp, mUn, mNil, mCons, mCB, mCBn, mCall, mTup, mLst, mNew, asB, cOf, cAnd, cOr, cNot, cYes, mAnd, mOr, mNot, mIf, mChain, oNone, asI, oSome, mOpN, mPt, iL, iT, mFld, mProp, mLenI, mSlT, mSlL, pName, pGo, pTup, pLst, wipeE, mIsT, mCallR, mDraw, isRow, look, M.bind_ret, M.bind_err, M.bind_bad, M.bind_draw, M.ofO_some, M.ofO_none, M.calm_ret, M.calm_bad, M.calm_draw, M.bind_assoc, M.wp_ret, List.length_cons, List.length_nil, List.map_cons, List.map_nil, List.replicate_zero, List.replicate_succ, List.cons_append, List.nil_append, List.set_cons_zero, List.set_cons_succ, List.getElem?_cons_zero, List.getElem?_cons_succ, Nat.reduceAdd, Nat.reduceSub, Nat.reduceLeDiff, Nat.reduceEqDiff, if_true, if_false, ite_true, ite_false, reduceIte, Bool.not_true, Bool.not_false, Bool.false_eq_true]) (ds_ok l) (by decide)]
  simp -implicitDefEqProofs only [defM, defR, lawM, fin, sSeq, sExpr, sAsg, sAsgB, sPat, sPatB, sOwn, sOwnB, sPar, sPar3, sRet, sRetN, sIf, sFor, sForB, sApp, sAppB, sExt, sExtB, sSet, sFz, sNext, sBreak, sCont, sAug, sAugL, sErrF, sErr, sParX, sParX3, agGo, Fl.next, Fl.turn, vB, ok1, okL, mVar, mC, mOp, mUn, mNil, mCons, mCB, mCBn, mCall, mTup, mLst, mNew, asB, cOf, cAnd, cOr, cNot, cYes, mAnd, mOr, mNot, mIf, mChain, oNone, asI, oSome, mOpN, mPt, iL, iT, mFld, mProp, mLenI, mSlT, mSlL, pName, pGo, pTup, pLst, wipeE, mIsT, mCallR, mDraw, isRow, look, M.bind_ret, M.bind_err, M.bind_bad, M.bind_draw, M.ofO_some, M.ofO_none, M.calm_ret, M.calm_bad, M.calm_draw, M.bind_assoc, M.wp_ret, List.length_cons, List.length_nil, List.map_cons, List.map_nil, List.replicate_zero, List.replicate_succ, List.cons_append, List.nil_append, List.set_cons_zero, List.set_cons_succ, List.getElem?_cons_zero, List.getElem?_cons_succ, Nat.reduceAdd, Nat.reduceSub, Nat.reduceLeDiff, Nat.reduceEqDiff, if_true, if_false, ite_true, ite_false, reduceIte, Bool.not_true, Bool.not_false, Bool.false_eq_true]
  rw [fld_run (d := .ptup cr) rfl (by simp -implicitDefEqProofs only [defM, defR, lawM, fin, sSeq, sExpr, sAsg, sAsgB, sPat, sPatB, sOwn, sOwnB, sPar, sPar3, sRet, sRetN, sIf, sFor, sForB, sApp, sAppB, sExt, sExtB, sSet, sFz, sNext, sBreak, sCont, sAug, sAugL, sErrF, sErr, sParX, sParX3, agGo, Fl.next, Fl.turn, vB, ok1, okL, mVar, mC, mOp, mUn, mNil, mCons, mCB, mCBn, mCall, mTup, mLst, mNew, asB, cOf, cAnd, cOr, cNot, cYes, mAnd, mOr, mNot, mIf, mChain, oNone, asI, oSome, mOpN, mPt, iL, iT, mFld, mProp, mLenI, mSlT, mSlL, pName, pGo, pTup, pLst, wipeE, mIsT, mCallR, mDraw, isRow, look, M.bind_ret, M.bind_err, M.bind_bad, M.bind_draw, M.ofO_some, M.ofO_none, M.calm_ret, M.calm_bad, M.calm_draw, M.bind_assoc, M.wp_ret, List.length_cons, List.length_nil, List.map_cons, List.map_nil, List.replicate_zero, List.replicate_succ, List.cons_append, List.nil_append, List.set_cons_zero, List.set_cons_succ, List.getElem?_cons_zero, List.getElem?_cons_succ, Nat.reduceAdd, Nat.reduceSub, Nat.reduceLeDiff, Nat.reduceEqDiff, if_true, if_false, ite_true, ite_false, reduceIte, Bool.not_true, Bool.not_false, Bool.false_eq_true]) hcf (by decide)]
  rfl
end
end My

namespace My
open PySem L2 Cc Mi Wm
@[irreducible] def i_store (C : Addr) : List D → M D := m__law_store C
theorem i_store_eq (C : Addr) : m__law_store C = i_store C := by unfold i_store; rfl
section
variable {C : Addr} {l : List (Int × Int)} {a b c : D} {Er : Str → List D → Prop}
theorem cr_ok {k : Nat} (h1 : 1 ≤ k) (h2 : k ≤ 3) : D.fixs (crD k) = true ∧ D.pls (crD k) = true := by
  have hk : k = 1 ∨ k = 2 ∨ k = 3 := by omega
  rcases hk with rfl | rfl | rfl <;> exact ⟨rfl, rfl⟩
theorem x_crates {k : Nat} {size : Int} (h1 : 1 ≤ k) (h2 : k ≤ 3) (h3 : (k : Int) ≤ size) : m_crates_fit [.ptup (crD k), .int size] = .ret (.bl true) := by
  have hk : k = 1 ∨ k = 2 ∨ k = 3 := by omega
  have d1 : decide ((1 : Int) ≤ 1) = true := rfl
  have d2 : decide ((1 : Int) ≤ 2) = true := rfl
  have d3 : decide ((1 : Int) ≤ 3) = true := rfl
  rcases hk with rfl | rfl | rfl
  · rw [show crD 1 = [.str "fig"] from rfl]
    have e1 : fLen [.ptup [.str "fig"]] = some (.int 1) := rfl
    have e2 : cutD [.str "fig"] (some 1) none = [] := rfl
    have e3 : zpD [.str "fig"] [] = [] := rfl
    simp -implicitDefEqProofs only [defM, defR, lawM, fin, sSeq, sExpr, sAsg, sAsgB, sPat, sPatB, sOwn, sOwnB, sPar, sPar3, sRet, sRetN, sIf, sFor, sForB, sApp, sAppB, sExt, sExtB, sSet, sFz, sNext, sBreak, sCont, sAug, sAugL, sErrF, sErr, sParX, sParX3, agGo, Fl.next, Fl.turn, vB, ok1, okL, mVar, mC, mOp, mUn, mNil, mCons, mCB, mCBn, mCall, mTup, mLst, mNew, asB, cOf, cAnd, cOr, cNot, cYes, mAnd, mOr, mNot, mIf, mChain, oNone, asI, oSome, mOpN, mPt, iL, iT, mFld, mProp, mLenI, mSlT, mSlL, pName, pGo, pTup, pLst, wipeE, mIsT, mCallR, mDraw, isRow, look, M.bind_ret, M.bind_err, M.bind_bad, M.bind_draw, M.ofO_some, M.ofO_none, M.calm_ret, M.calm_bad, M.calm_draw, M.bind_assoc, M.wp_ret, List.length_cons, List.length_nil, List.map_cons, List.map_nil, List.replicate_zero, List.replicate_succ, List.cons_append, List.nil_append, List.set_cons_zero, List.set_cons_succ, List.getElem?_cons_zero, List.getElem?_cons_succ, Nat.reduceAdd, Nat.reduceSub, Nat.reduceLeDiff, Nat.reduceEqDiff, if_true, if_false, ite_true, ite_false, reduceIte, Bool.not_true, Bool.not_false, Bool.false_eq_true, m_crates_fit, D.noob, D.isT, beq_self_eq_true, e1, f_i, f_i2, d1, d2, d3, decide_eq_true (show (1 : Int) ≤ min 5 size by omega), mLc, iZp, e2, e3, lcGo, w_fig, w_kiwi, w_plum, l_fk, l_kp, fAll, blsO, List.all_cons, List.all_nil, id, Nat.zero_le, Bool.and_self]
  · rw [show crD 2 = [.str "fig", .str "kiwi"] from rfl]
    have e1 : fLen [.ptup [.str "fig", .str "kiwi"]] = some (.int 2) := rfl
    have e2 : cutD [.str "fig", .str "kiwi"] (some 1) none = [.str "kiwi"] := rfl
    have e3 : zpD [.str "fig", .str "kiwi"] [.str "kiwi"] = [.tup [.str "fig", .str "kiwi"]] := rfl
    simp -implicitDefEqProofs only [defM, defR, lawM, fin, sSeq, sExpr, sAsg, sAsgB, sPat, sPatB, sOwn, sOwnB, sPar, sPar3, sRet, sRetN, sIf, sFor, sForB, sApp, sAppB, sExt, sExtB, sSet, sFz, sNext, sBreak, sCont, sAug, sAugL, sErrF, sErr, sParX, sParX3, agGo, Fl.next, Fl.turn, vB, ok1, okL, mVar, mC, mOp, mUn, mNil, mCons, mCB, mCBn, mCall, mTup, mLst, mNew, asB, cOf, cAnd, cOr, cNot, cYes, mAnd, mOr, mNot, mIf, mChain, oNone, asI, oSome, mOpN, mPt, iL, iT, mFld, mProp, mLenI, mSlT, mSlL, pName, pGo, pTup, pLst, wipeE, mIsT, mCallR, mDraw, isRow, look, M.bind_ret, M.bind_err, M.bind_bad, M.bind_draw, M.ofO_some, M.ofO_none, M.calm_ret, M.calm_bad, M.calm_draw, M.bind_assoc, M.wp_ret, List.length_cons, List.length_nil, List.map_cons, List.map_nil, List.replicate_zero, List.replicate_succ, List.cons_append, List.nil_append, List.set_cons_zero, List.set_cons_succ, List.getElem?_cons_zero, List.getElem?_cons_succ, Nat.reduceAdd, Nat.reduceSub, Nat.reduceLeDiff, Nat.reduceEqDiff, if_true, if_false, ite_true, ite_false, reduceIte, Bool.not_true, Bool.not_false, Bool.false_eq_true, m_crates_fit, D.noob, D.isT, beq_self_eq_true, e1, f_i, f_i2, d1, d2, d3, decide_eq_true (show (2 : Int) ≤ min 5 size by omega), mLc, iZp, e2, e3, lcGo, w_fig, w_kiwi, w_plum, l_fk, l_kp, fAll, blsO, List.all_cons, List.all_nil, id, Nat.zero_le, Bool.and_self]
  · rw [show crD 3 = [.str "fig", .str "kiwi", .str "plum"] from rfl]
    have e1 : fLen [.ptup [.str "fig", .str "kiwi", .str "plum"]] = some (.int 3) := rfl
    have e2 : cutD [.str "fig", .str "kiwi", .str "plum"] (some 1) none = [.str "kiwi", .str "plum"] := rfl
    have e3 : zpD [.str "fig", .str "kiwi", .str "plum"] [.str "kiwi", .str "plum"] = [.tup [.str "fig", .str "kiwi"], .tup [.str "kiwi", .str "plum"]] := rfl
    simp -implicitDefEqProofs only [defM, defR, lawM, fin, sSeq, sExpr, sAsg, sAsgB, sPat, sPatB, sOwn, sOwnB, sPar, sPar3, sRet, sRetN, sIf, sFor, sForB, sApp, sAppB, sExt, sExtB, sSet, sFz, sNext, sBreak, sCont, sAug, sAugL, sErrF, sErr, sParX, sParX3, agGo, Fl.next, Fl.turn, vB, ok1, okL, mVar, mC, mOp, mUn, mNil, mCons, mCB, mCBn, mCall, mTup, mLst, mNew, asB, cOf, cAnd, cOr, cNot, cYes, mAnd, mOr, mNot, mIf, mChain, oNone, asI, oSome, mOpN, mPt, iL, iT, mFld, mProp, mLenI, mSlT, mSlL, pName, pGo, pTup, pLst, wipeE, mIsT, mCallR, mDraw, isRow, look, M.bind_ret, M.bind_err, M.bind_bad, M.bind_draw, M.ofO_some, M.ofO_none, M.calm_ret, M.calm_bad, M.calm_draw, M.bind_assoc, M.wp_ret, List.length_cons, List.length_nil, List.map_cons, List.map_nil, List.replicate_zero, List.replicate_succ, List.cons_append, List.nil_append, List.set_cons_zero, List.set_cons_succ, List.getElem?_cons_zero, List.getElem?_cons_succ, Nat.reduceAdd, Nat.reduceSub, Nat.reduceLeDiff, Nat.reduceEqDiff, if_true, if_false, ite_true, ite_false, reduceIte, Bool.not_true, Bool.not_false, Bool.false_eq_true, m_crates_fit, D.noob, D.isT, beq_self_eq_true, e1, f_i, f_i2, d1, d2, d3, decide_eq_true (show (3 : Int) ≤ min 5 size by omega), mLc, iZp, e2, e3, lcGo, w_fig, w_kiwi, w_plum, l_fk, l_kp, fAll, blsO, List.all_cons, List.all_nil, id, Nat.zero_le, Bool.and_self]
theorem x_store {Q : D → Prop} (k : ∀ l a b c, 1 ≤ l.length → l.length ≤ 3 → (∀ p ∈ l, 1 ≤ p.1 ∧ p.1 ≤ 9) → Q (stT C l a b c)) : (i_store C []).wp Q Er := by
  unfold i_store
  simp -implicitDefEqProofs only [defM, defR, lawM, fin, sSeq, sExpr, sAsg, sAsgB, sPat, sPatB, sOwn, sOwnB, sPar, sPar3, sRet, sRetN, sIf, sFor, sForB, sApp, sAppB, sExt, sExtB, sSet, sFz, sNext, sBreak, sCont, sAug, sAugL, sErrF, sErr, sParX, sParX3, agGo, Fl.next, Fl.turn, vB, ok1, okL, mVar, mC, mOp, mUn, mNil, mCons, mCB, mCBn, mCall, mTup, mLst, mNew, asB, cOf, cAnd, cOr, cNot, cYes, mAnd, mOr, mNot, mIf, mChain, oNone, asI, oSome, mOpN, mPt, iL, iT, mFld, mProp, mLenI, mSlT, mSlL, pName, pGo, pTup, pLst, wipeE, mIsT, mCallR, mDraw, isRow, look, M.bind_ret, M.bind_err, M.bind_bad, M.bind_draw, M.ofO_some, M.ofO_none, M.calm_ret, M.calm_bad, M.calm_draw, M.bind_assoc, M.wp_ret, List.length_cons, List.length_nil, List.map_cons, List.map_nil, List.replicate_zero, List.replicate_succ, List.cons_append, List.nil_append, List.set_cons_zero, List.set_cons_succ, List.getElem?_cons_zero, List.getElem?_cons_succ, Nat.reduceAdd, Nat.reduceSub, Nat.reduceLeDiff, Nat.reduceEqDiff, if_true, if_false, ite_true, ite_false, reduceIte, Bool.not_true, Bool.not_false, Bool.false_eq_true, m__law_store, f_i, Nat.zero_le]
  rw [M.wp_draw]
  refine ⟨⟨by omega, by omega⟩, fun i i0 i1 => ?_⟩
  have hrg : rgOk 0 (1 + i) = true := by
    unfold rgOk
    rw [decide_eq_true (show (-1000000 : Int) ≤ 0 by omega), decide_eq_true (show (0 : Int) ≤ 1000000 by omega), decide_eq_true (show (-1000000 : Int) ≤ 1 + i by omega), decide_eq_true (show 1 + i ≤ 1000000 by omega)]
    rfl
  simp -implicitDefEqProofs only [defM, defR, lawM, fin, sSeq, sExpr, sAsg, sAsgB, sPat, sPatB, sOwn, sOwnB, sPar, sPar3, sRet, sRetN, sIf, sFor, sForB, sApp, sAppB, sExt, sExtB, sSet, sFz, sNext, sBreak, sCont, sAug, sAugL, sErrF, sErr, sParX, sParX3, agGo, Fl.next, Fl.turn, vB, ok1, okL, mVar, mC, mOp, mUn, mNil, mCons, mCB, mCBn, mCall, mTup, mLst, mNew, asB, cOf, cAnd, cOr, cNot, cYes, mAnd, mOr, mNot, mIf, mChain, oNone, asI, oSome, mOpN, mPt, iL, iT, mFld, mProp, mLenI, mSlT, mSlL, pName, pGo, pTup, pLst, wipeE, mIsT, mCallR, mDraw, isRow, look, M.bind_ret, M.bind_err, M.bind_bad, M.bind_draw, M.ofO_some, M.ofO_none, M.calm_ret, M.calm_bad, M.calm_draw, M.bind_assoc, M.wp_ret, List.length_cons, List.length_nil, List.map_cons, List.map_nil, List.replicate_zero, List.replicate_succ, List.cons_append, List.nil_append, List.set_cons_zero, List.set_cons_succ, List.getElem?_cons_zero, List.getElem?_cons_succ, Nat.reduceAdd, Nat.reduceSub, Nat.reduceLeDiff, Nat.reduceEqDiff, if_true, if_false, ite_true, ite_false, reduceIte, Bool.not_true, Bool.not_false, Bool.false_eq_true, rg1, hrg]
  rw [M.wp_bind]
  unfold rgD
  refine forGo_wp (fun (k : Nat) => D.int (0 + (k : Int))) (fun xs ρ => ∃ (l : List (Int × Int)) (s : Sl), ρ = [.row, .own (l.map dT), .dat (.int (1 + i)), s, .no, .no] ∧ ((l.length : Nat) : Int) + (xs.length : Nat) = 1 + i ∧ ∀ p ∈ l, (1 ≤ p.1 ∧ p.1 ≤ 9) ∧ 1 ≤ p.2 ∧ p.2 ≤ 2) (fun x xs ρ ⟨l, s, q1, q2, q3⟩ => ?_) (fun ρ ⟨l, s, q1, q2, q3⟩ => ?_) _ _ ⟨[], .no, rfl, by simp; omega, fun _ h => nomatch h⟩
  · subst q1
    rw [List.length_cons] at q2
    have hl : (l.map dT).length < 100000 := by rw [List.length_map]; omega
    refine ⟨_, rfl, ?_⟩
    have next : ∀ w n : Int, 1 ≤ w ∧ w ≤ 9 → 1 ≤ n ∧ n ≤ 2 → ∃ ρ2, Fl.nx [.row, .own (l.map dT ++ [.ptup [.int w, .int n]]), .dat (.int (1 + i)), .dat (.int (0 + (x : Int))), .no, .no] = .nx ρ2 ∧ ∃ (l : List (Int × Int)) (s : Sl), ρ2 = [.row, .own (l.map dT), .dat (.int (1 + i)), s, .no, .no] ∧ ((l.length : Nat) : Int) + (xs.length : Nat) = 1 + i ∧ ∀ p ∈ l, (1 ≤ p.1 ∧ p.1 ≤ 9) ∧ 1 ≤ p.2 ∧ p.2 ≤ 2 := fun w n hw hn => ⟨_, rfl, l ++ [(w, n)], .dat (.int (0 + (x : Int))), by simp [dT], by simp; omega, fun p hp => by
      rcases List.mem_append.mp hp with hp | hp
      · exact q3 p hp
      · rw [List.mem_singleton.mp hp]; exact ⟨hw, hn⟩⟩
    simp -implicitDefEqProofs only [defM, defR, lawM, fin, sSeq, sExpr, sAsg, sAsgB, sPat, sPatB, sOwn, sOwnB, sPar, sPar3, sRet, sRetN, sIf, sFor, sForB, sApp, sAppB, sExt, sExtB, sSet, sFz, sNext, sBreak, sCont, sAug, sAugL, sErrF, sErr, sParX, sParX3, agGo, Fl.next, Fl.turn, vB, ok1, okL, mVar, mC, mOp, mUn, mNil, mCons, mCB, mCBn, mCall, mTup, mLst, mNew, asB, cOf, cAnd, cOr, cNot, cYes, mAnd, mOr, mNot, mIf, mChain, oNone, asI, oSome, mOpN, mPt, iL, iT, mFld, mProp, mLenI, mSlT, mSlL, pName, pGo, pTup, pLst, wipeE, mIsT, mCallR, mDraw, isRow, look, M.bind_ret, M.bind_err, M.bind_bad, M.bind_draw, M.ofO_some, M.ofO_none, M.calm_ret, M.calm_bad, M.calm_draw, M.bind_assoc, M.wp_ret, List.length_cons, List.length_nil, List.map_cons, List.map_nil, List.replicate_zero, List.replicate_succ, List.cons_append, List.nil_append, List.set_cons_zero, List.set_cons_succ, List.getElem?_cons_zero, List.getElem?_cons_succ, Nat.reduceAdd, Nat.reduceSub, Nat.reduceLeDiff, Nat.reduceEqDiff, if_true, if_false, ite_true, ite_false, reduceIte, Bool.not_true, Bool.not_false, Bool.false_eq_true, f_i, Nat.zero_le]
    rw [M.wp_draw]
    refine ⟨⟨by omega, by omega⟩, fun w w0 w1 => ?_⟩
    by_cases hlt : 1 + i < 3
    · simp -implicitDefEqProofs only [defM, defR, lawM, fin, sSeq, sExpr, sAsg, sAsgB, sPat, sPatB, sOwn, sOwnB, sPar, sPar3, sRet, sRetN, sIf, sFor, sForB, sApp, sAppB, sExt, sExtB, sSet, sFz, sNext, sBreak, sCont, sAug, sAugL, sErrF, sErr, sParX, sParX3, agGo, Fl.next, Fl.turn, vB, ok1, okL, mVar, mC, mOp, mUn, mNil, mCons, mCB, mCBn, mCall, mTup, mLst, mNew, asB, cOf, cAnd, cOr, cNot, cYes, mAnd, mOr, mNot, mIf, mChain, oNone, asI, oSome, mOpN, mPt, iL, iT, mFld, mProp, mLenI, mSlT, mSlL, pName, pGo, pTup, pLst, wipeE, mIsT, mCallR, mDraw, isRow, look, M.bind_ret, M.bind_err, M.bind_bad, M.bind_draw, M.ofO_some, M.ofO_none, M.calm_ret, M.calm_bad, M.calm_draw, M.bind_assoc, M.wp_ret, List.length_cons, List.length_nil, List.map_cons, List.map_nil, List.replicate_zero, List.replicate_succ, List.cons_append, List.nil_append, List.set_cons_zero, List.set_cons_succ, List.getElem?_cons_zero, List.getElem?_cons_succ, Nat.reduceAdd, Nat.reduceSub, Nat.reduceLeDiff, Nat.reduceEqDiff, if_true, if_false, ite_true, ite_false, reduceIte, Bool.not_true, Bool.not_false, Bool.false_eq_true, f_i, decide_eq_true hlt, hl]
      rw [M.wp_draw]
      refine ⟨⟨by omega, by omega⟩, fun n n0 n1 => ?_⟩
      exact next (1 + w) (1 + n) ⟨by omega, by omega⟩ ⟨by omega, by omega⟩
    · simp -implicitDefEqProofs only [defM, defR, lawM, fin, sSeq, sExpr, sAsg, sAsgB, sPat, sPatB, sOwn, sOwnB, sPar, sPar3, sRet, sRetN, sIf, sFor, sForB, sApp, sAppB, sExt, sExtB, sSet, sFz, sNext, sBreak, sCont, sAug, sAugL, sErrF, sErr, sParX, sParX3, agGo, Fl.next, Fl.turn, vB, ok1, okL, mVar, mC, mOp, mUn, mNil, mCons, mCB, mCBn, mCall, mTup, mLst, mNew, asB, cOf, cAnd, cOr, cNot, cYes, mAnd, mOr, mNot, mIf, mChain, oNone, asI, oSome, mOpN, mPt, iL, iT, mFld, mProp, mLenI, mSlT, mSlL, pName, pGo, pTup, pLst, wipeE, mIsT, mCallR, mDraw, isRow, look, M.bind_ret, M.bind_err, M.bind_bad, M.bind_draw, M.ofO_some, M.ofO_none, M.calm_ret, M.calm_bad, M.calm_draw, M.bind_assoc, M.wp_ret, List.length_cons, List.length_nil, List.map_cons, List.map_nil, List.replicate_zero, List.replicate_succ, List.cons_append, List.nil_append, List.set_cons_zero, List.set_cons_succ, List.getElem?_cons_zero, List.getElem?_cons_succ, Nat.reduceAdd, Nat.reduceSub, Nat.reduceLeDiff, Nat.reduceEqDiff, if_true, if_false, ite_true, ite_false, reduceIte, Bool.not_true, Bool.not_false, Bool.false_eq_true, f_i, decide_eq_false hlt, f_eqI, fInt, hl]
      exact next (1 + w) _ ⟨by omega, by omega⟩ (by split <;> omega)
  · subst q1
    have hl1 : 1 ≤ l.length := by simp at q2; omega
    have hl2 : l.length ≤ 3 := by simp at q2; omega
    have hll : (l.map dT).length ≤ 100000 := by rw [List.length_map]; omega
    have hsum : ∀ l : List (Int × Int), (∀ p ∈ l, 1 ≤ p.2 ∧ p.2 ≤ 2) → (l.length : Int) ≤ (l.map (·.2)).sum ∧ (l.map (·.2)).sum ≤ 2 * (l.length : Int) := fun l => by
      induction l with
      | nil => intro _; simp
      | cons p l ih =>
        intro h
        have h1 := h p (by simp)
        have h2 := ih fun q hq => h q (List.mem_cons_of_mem _ hq)
        rw [List.map_cons, List.sum_cons, List.length_cons]
        omega
    have hs := hsum l fun p hp => (q3 p hp).2
    have e4 : l.map (fun p => D.int p.2) = (l.map (·.2)).map D.int := by rw [List.map_map]; rfl
    simp -implicitDefEqProofs only [defM, defR, lawM, fin, sSeq, sExpr, sAsg, sAsgB, sPat, sPatB, sOwn, sOwnB, sPar, sPar3, sRet, sRetN, sIf, sFor, sForB, sApp, sAppB, sExt, sExtB, sSet, sFz, sNext, sBreak, sCont, sAug, sAugL, sErrF, sErr, sParX, sParX3, agGo, Fl.next, Fl.turn, vB, ok1, okL, mVar, mC, mOp, mUn, mNil, mCons, mCB, mCBn, mCall, mTup, mLst, mNew, asB, cOf, cAnd, cOr, cNot, cYes, mAnd, mOr, mNot, mIf, mChain, oNone, asI, oSome, mOpN, mPt, iL, iT, mFld, mProp, mLenI, mSlT, mSlL, pName, pGo, pTup, pLst, wipeE, mIsT, mCallR, mDraw, isRow, look, M.bind_ret, M.bind_err, M.bind_bad, M.bind_draw, M.ofO_some, M.ofO_none, M.calm_ret, M.calm_bad, M.calm_draw, M.bind_assoc, M.wp_ret, List.length_cons, List.length_nil, List.map_cons, List.map_nil, List.replicate_zero, List.replicate_succ, List.cons_append, List.nil_append, List.set_cons_zero, List.set_cons_succ, List.getElem?_cons_zero, List.getElem?_cons_succ, Nat.reduceAdd, Nat.reduceSub, Nat.reduceLeDiff, Nat.reduceEqDiff, if_true, if_false, ite_true, ite_false, reduceIte, Bool.not_true, Bool.not_false, Bool.false_eq_true, mLc, hll]
    rw [lcGo_map dT (fun p => .int p.2) l fun p hp => ⟨_, rfl, rfl, by simp -implicitDefEqProofs only [defM, defR, lawM, fin, sSeq, sExpr, sAsg, sAsgB, sPat, sPatB, sOwn, sOwnB, sPar, sPar3, sRet, sRetN, sIf, sFor, sForB, sApp, sAppB, sExt, sExtB, sSet, sFz, sNext, sBreak, sCont, sAug, sAugL, sErrF, sErr, sParX, sParX3, agGo, Fl.next, Fl.turn, vB, ok1, okL, mVar, mC, mOp, mUn, mNil, mCons, mCB, mCBn, mCall, mTup, mLst, mNew, asB, cOf, cAnd, cOr, cNot, cYes, mAnd, mOr, mNot, mIf, mChain, oNone, asI, oSome, mOpN, mPt, iL, iT, mFld, mProp, mLenI, mSlT, mSlL, pName, pGo, pTup, pLst, wipeE, mIsT, mCallR, mDraw, isRow, look, M.bind_ret, M.bind_err, M.bind_bad, M.bind_draw, M.ofO_some, M.ofO_none, M.calm_ret, M.calm_bad, M.calm_draw, M.bind_assoc, M.wp_ret, List.length_cons, List.length_nil, List.map_cons, List.map_nil, List.replicate_zero, List.replicate_succ, List.cons_append, List.nil_append, List.set_cons_zero, List.set_cons_succ, List.getElem?_cons_zero, List.getElem?_cons_succ, Nat.reduceAdd, Nat.reduceSub, Nat.reduceLeDiff, Nat.reduceEqDiff, if_true, if_false, ite_true, ite_false, reduceIte, Bool.not_true, Bool.not_false, Bool.false_eq_true, f_ix1]⟩]
    simp -implicitDefEqProofs only [defM, defR, lawM, fin, sSeq, sExpr, sAsg, sAsgB, sPat, sPatB, sOwn, sOwnB, sPar, sPar3, sRet, sRetN, sIf, sFor, sForB, sApp, sAppB, sExt, sExtB, sSet, sFz, sNext, sBreak, sCont, sAug, sAugL, sErrF, sErr, sParX, sParX3, agGo, Fl.next, Fl.turn, vB, ok1, okL, mVar, mC, mOp, mUn, mNil, mCons, mCB, mCBn, mCall, mTup, mLst, mNew, asB, cOf, cAnd, cOr, cNot, cYes, mAnd, mOr, mNot, mIf, mChain, oNone, asI, oSome, mOpN, mPt, iL, iT, mFld, mProp, mLenI, mSlT, mSlL, pName, pGo, pTup, pLst, wipeE, mIsT, mCallR, mDraw, isRow, look, M.bind_ret, M.bind_err, M.bind_bad, M.bind_draw, M.ofO_some, M.ofO_none, M.calm_ret, M.calm_bad, M.calm_draw, M.bind_assoc, M.wp_ret, List.length_cons, List.length_nil, List.map_cons, List.map_nil, List.replicate_zero, List.replicate_succ, List.cons_append, List.nil_append, List.set_cons_zero, List.set_cons_succ, List.getElem?_cons_zero, List.getElem?_cons_succ, Nat.reduceAdd, Nat.reduceSub, Nat.reduceLeDiff, Nat.reduceEqDiff, if_true, if_false, ite_true, ite_false, reduceIte, Bool.not_true, Bool.not_false, Bool.false_eq_true, e4, sum_map, D.fix, D.pl, Bool.and_self, f_tup, f_i2]
    rw [M.wp_draw]
    refine ⟨⟨by omega, by omega⟩, fun n n0 n1 => ?_⟩
    have hm : 1 + n = (((1 + n).toNat : Nat) : Int) := (Int.toNat_of_nonneg (by omega)).symm
    generalize (1 + n).toNat = m at hm
    have hcut : cutD [D.str "fig", D.str "kiwi", D.str "plum"] none (some (1 + n)) = crD m := by
      have := cut_to (α := D) id [D.str "fig", D.str "kiwi", D.str "plum"] (i := 1 + n) (by omega)
      rw [List.map_id, List.map_id, hm, Int.toNat_natCast] at this
      rw [hm]
      exact this
    have hin := x_init (C := C) hl1 (by omega) (fun p hp => by have := q3 p hp; exact ⟨by omega, by omega, by omega, by omega⟩) (by omega) (x_crates (k := m) (by omega) (by omega) (by omega)) (cr_ok (by omega) (by omega))
    unfold dsT at hin
    simp -implicitDefEqProofs only [defM, defR, lawM, fin, sSeq, sExpr, sAsg, sAsgB, sPat, sPatB, sOwn, sOwnB, sPar, sPar3, sRet, sRetN, sIf, sFor, sForB, sApp, sAppB, sExt, sExtB, sSet, sFz, sNext, sBreak, sCont, sAug, sAugL, sErrF, sErr, sParX, sParX3, agGo, Fl.next, Fl.turn, vB, ok1, okL, mVar, mC, mOp, mUn, mNil, mCons, mCB, mCBn, mCall, mTup, mLst, mNew, asB, cOf, cAnd, cOr, cNot, cYes, mAnd, mOr, mNot, mIf, mChain, oNone, asI, oSome, mOpN, mPt, iL, iT, mFld, mProp, mLenI, mSlT, mSlL, pName, pGo, pTup, pLst, wipeE, mIsT, mCallR, mDraw, isRow, look, M.bind_ret, M.bind_err, M.bind_bad, M.bind_draw, M.ofO_some, M.ofO_none, M.calm_ret, M.calm_bad, M.calm_draw, M.bind_assoc, M.wp_ret, List.length_cons, List.length_nil, List.map_cons, List.map_nil, List.replicate_zero, List.replicate_succ, List.cons_append, List.nil_append, List.set_cons_zero, List.set_cons_succ, List.getElem?_cons_zero, List.getElem?_cons_succ, Nat.reduceAdd, Nat.reduceSub, Nat.reduceLeDiff, Nat.reduceEqDiff, if_true, if_false, ite_true, ite_false, reduceIte, Bool.not_true, Bool.not_false, Bool.false_eq_true, f_i, hcut, hin]
    exact k _ _ _ _ hl1 hl2 fun p hp => (q3 p hp).1
end
end My

namespace My
open PySem L2 Cc Mi Wm
def rowS (w p : Int) : Str := (("door " : Str) ++ (toString w : Str)) ++ (" " : Str) ++ (toString p : Str)
def nmS (m : Nat) : List Str := (["fig", "kiwi", "plum"] : List Str).take m
def crS (m : Nat) : Str := Txt.join " " (("crates" : Str) :: nmS m)
theorem nine {w : Int} (h : 1 ≤ w ∧ w ≤ 9) : w = 1 ∨ w = 2 ∨ w = 3 ∨ w = 4 ∨ w = 5 ∨ w = 6 ∨ w = 7 ∨ w = 8 ∨ w = 9 := by omega
theorem two {w : Int} (h : 1 ≤ w ∧ w ≤ 2) : w = 1 ∨ w = 2 := by omega
theorem three {m : Nat} (h1 : 1 ≤ m) (h2 : m ≤ 3) : m = 1 ∨ m = 2 ∨ m = 3 := by omega
theorem row_f {w p : Int} (hw : 1 ≤ w ∧ w ≤ 9) (hp : 1 ≤ p ∧ p ≤ 2) {r0 r1 : Sl} : mJs [(mFmt (mC (.str "door"))), (mC (.str " ")), (mFmt (mVar 2)), (mC (.str " ")), (mFmt (mVar 3))] [r0, r1, .dat (.int w), .dat (.int p)] = .ret (.str (rowS w p)) := by
  rcases nine hw with rfl | rfl | rfl | rfl | rfl | rfl | rfl | rfl | rfl <;> rcases two hp with rfl | rfl <;> kernel_rfl
theorem row_words {w p : Int} (hw : 1 ≤ w ∧ w ≤ 9) (hp : 1 ≤ p ∧ p ≤ 2) : Txt.split (rowS w p) " " = [("door" : Str), (toString w : Str), (toString p : Str)] := by
  rcases nine hw with rfl | rfl | rfl | rfl | rfl | rfl | rfl | rfl | rfl <;> rcases two hp with rfl | rfl <;> kernel_rfl
theorem row_len {w p : Int} (hw : 1 ≤ w ∧ w ≤ 9) (hp : 1 ≤ p ∧ p ≤ 2) : (rowS w p).length = 8 := by
  rcases nine hw with rfl | rfl | rfl | rfl | rfl | rfl | rfl | rfl | rfl <;> rcases two hp with rfl | rfl <;> kernel_rfl
theorem cr_words {m : Nat} (h1 : 1 ≤ m) (h2 : m ≤ 3) : Txt.split (crS m) " " = ("crates" : Str) :: nmS m := by
  rcases three h1 h2 with rfl | rfl | rfl <;> kernel_rfl
theorem cr_len {m : Nat} (h1 : 1 ≤ m) (h2 : m ≤ 3) : (crS m).length ≤ 30 := by
  rcases three h1 h2 with rfl | rfl | rfl <;> decide +kernel
def oddL : List (Int × Int) := [(99, 1), (1, 1), (10, 3), (50, 1)]
def oddC : List D := [.str "a", .str "crates", .str "door", .str "end", .str "zzzzzzzz"]
def oddT : Str := "door 99 1\ndoor 1 1\ndoor 10 3\ndoor 50 1\ncrates a crates door end zzzzzzzz"
theorem odd_init (C : Addr) : m_Store___init__ C [dsT oddL, .ptup oddC] = .ret (stT C oddL (.ptup (plc 0 oddL)) (.int 6) (.ptup oddC)) := by kernel_rfl
end My

namespace My
open PySem L2 Cc Mi Wm
def rowsL (l : List (Int × Int)) : List Str := l.map fun p => rowS p.1 p.2
def textS (l : List (Int × Int)) (m : Nat) : Str := Txt.join "\n" (rowsL l ++ [crS m])
structure GoodL (l : List (Int × Int)) (m : Nat) : Prop where
  lo : 1 ≤ l.length
  hi : l.length ≤ 3
  each : ∀ p ∈ l, (1 ≤ p.1 ∧ p.1 ≤ 9) ∧ 1 ≤ p.2 ∧ p.2 ≤ 2
  m1 : 1 ≤ m
  m3 : m ≤ 3
theorem row_nl {w p : Int} (hw : 1 ≤ w ∧ w ≤ 9) (hp : 1 ≤ p ∧ p ≤ 2) : 10 ∉ TL.tl (rowS w p) := by
  rcases nine hw with rfl | rfl | rfl | rfl | rfl | rfl | rfl | rfl | rfl <;> rcases two hp with rfl | rfl <;> decide +kernel
theorem cr_nl {m : Nat} (h1 : 1 ≤ m) (h2 : m ≤ 3) : 10 ∉ TL.tl (crS m) := by
  rcases three h1 h2 with rfl | rfl | rfl <;> decide +kernel
theorem join_le (y : Str) (ps : List Str) : (Txt.join y ps).length ≤ (ps.map (·.length)).sum + ps.length * y.length := by
  rw [TL.join_eq]
  cases ps with
  | nil => exact Nat.zero_le _
  | cons a l =>
    rw [PyProof.Rows.len_join_cons, List.length_cons, Nat.succ_mul]
    omega
theorem rows_sum : ∀ l : List (Int × Int), (∀ p ∈ l, (1 ≤ p.1 ∧ p.1 ≤ 9) ∧ 1 ≤ p.2 ∧ p.2 ≤ 2) → ((rowsL l).map (·.length)).sum = 8 * l.length
  | [], _ => rfl
  | p :: l, h => by
    have h1 := h p (by simp)
    have h2 := rows_sum l fun q hq => h q (List.mem_cons_of_mem _ hq)
    unfold rowsL at h2 ⊢
    rw [List.map_cons, List.map_cons, List.sum_cons, h2, row_len h1.1 h1.2, List.length_cons]
    omega
section
variable {C : Addr} {l : List (Int × Int)} {a b c : D} {m : Nat}
theorem all_sum (G : GoodL l m) : ((rowsL l ++ [crS m]).map (·.length)).sum + (rowsL l ++ [crS m]).length * ("\n" : Str).length ≤ 1000 := by
  have h1 := rows_sum l G.each
  have h2 := cr_len G.m1 G.m3
  have h3 : (rowsL l).length = l.length := by simp [rowsL]
  have h4 : ("\n" : Str).length = 1 := by decide
  have := G.hi
  rw [List.map_append, List.sum_append, h1, List.length_append, h3, h4]
  simp
  omega
theorem text_len (G : GoodL l m) : (textS l m).length ≤ 100000 := by
  have h1 := join_le "\n" (rowsL l ++ [crS m])
  have h2 := all_sum G
  unfold textS
  omega
theorem text_split (G : GoodL l m) : Txt.split (textS l m) "\n" = rowsL l ++ [crS m] := by
  unfold textS
  refine TL.split_join (y := "\n") (s := 10) (S := []) (by decide +kernel) (by decide +kernel) (by simp) fun p hp => ?_
  rcases List.mem_append.mp hp with hp | hp
  · obtain ⟨q, hq, rfl⟩ := List.mem_map.mp hp
    exact row_nl (G.each q hq).1 (G.each q hq).2
  · rw [List.mem_singleton.mp hp]
    exact cr_nl G.m1 G.m3
theorem strs_map (xs : List Str) : strsO (xs.map D.str) = some xs := by
  induction xs with
  | nil => rfl
  | cons x xs ih => rw [List.map_cons]; show (match strsO (xs.map D.str) with | some xs => some (x :: xs) | none => none) = _; rw [ih]
theorem f_join {x : Str} {ys : List Str} (h : (ys.map (·.length)).sum + ys.length * x.length ≤ 100000) : fJoin (.str x) [.lst (ys.map D.str)] = some (.str (Txt.join x ys)) := by
  show (match strsO (ys.map D.str) with | some (ys : List Str) => if (ys.map fun (z : Str) => z.length).sum + ys.length * x.length ≤ 100000 then some (D.str (Txt.join x ys)) else none | none => none) = _
  rw [strs_map]
  exact if_pos h
theorem join_text (G : GoodL l m) : fJoin (.str "\n") [.lst ((rowsL l ++ [crS m]).map D.str)] = some (.str (textS l m)) := f_join (by have := all_sum G; omega)
theorem join_cr (h1 : 1 ≤ m) (h2 : m ≤ 3) : fJoin (.str " ") [.lst (.str "crates" :: crD m)] = some (.str (crS m)) := by
  rcases three h1 h2 with rfl | rfl | rfl <;> kernel_rfl
theorem x_crts : m_Store_crates [stT C l a b c] = .ret c := by
  simp -implicitDefEqProofs only [defM, defR, lawM, fin, sSeq, sExpr, sAsg, sAsgB, sPat, sPatB, sOwn, sOwnB, sPar, sPar3, sRet, sRetN, sIf, sFor, sForB, sApp, sAppB, sExt, sExtB, sSet, sFz, sNext, sBreak, sCont, sAug, sAugL, sErrF, sErr, sParX, sParX3, agGo, Fl.next, Fl.turn, vB, ok1, okL, mVar, mC, mOp, mUn, mNil, mCons, mCB, mCBn, mCall, mTup, mLst, mNew, asB, cOf, cAnd, cOr, cNot, cYes, mAnd, mOr, mNot, mIf, mChain, oNone, asI, oSome, mOpN, mPt, iL, iT, mFld, mProp, mLenI, mSlT, mSlL, pName, pGo, pTup, pLst, wipeE, mIsT, mCallR, mDraw, isRow, look, M.bind_ret, M.bind_err, M.bind_bad, M.bind_draw, M.ofO_some, M.ofO_none, M.calm_ret, M.calm_bad, M.calm_draw, M.bind_assoc, M.wp_ret, List.length_cons, List.length_nil, List.map_cons, List.map_nil, List.replicate_zero, List.replicate_succ, List.cons_append, List.nil_append, List.set_cons_zero, List.set_cons_succ, List.getElem?_cons_zero, List.getElem?_cons_succ, Nat.reduceAdd, Nat.reduceSub, Nat.reduceLeDiff, Nat.reduceEqDiff, if_true, if_false, ite_true, ite_false, reduceIte, Bool.not_true, Bool.not_false, Bool.false_eq_true, m_Store_crates, st_p]
  rfl
theorem f_catL {ds es : List D} (h : ds.length + es.length ≤ 100000) : fCatL (.lst ds) (.lst es) = some (ds ++ es) := if_pos h
theorem cat_cr : fCatL (.lst [.str "crates"]) (.lst (crD m)) = some (.str "crates" :: crD m) := f_catL (by unfold crD; rw [List.length_take]; simp; omega)
end
end My

namespace My
open PySem L2 Cc Mi Wm
def pC : Mi.Env → M Bool := (cAnd (cOf (mOp fLt (mVar 3) (mCB fMin2 (mCons (mCB fLen (mCons (mVar 1) mNil)) (mCons (mC (.int 4)) mNil))))) (cOf (mOp fEq (mOp fIx (mOp fIx (mVar 1) (mVar 3)) (mC (.int 0))) (mC (.str "door")))))
def wordsD (s : Str) : D := .lst ((Txt.split s " ").map D.str)
def rowsD (l : List (Int × Int)) (m : Nat) : List D := (rowsL l ++ [crS m]).map wordsD
section
variable {C : Addr} {l : List (Int × Int)} {a b c : D} {m : Nat}
theorem rows_len : (rowsD l m).length = l.length + 1 := by simp [rowsD, rowsL]
theorem rows_at (G : GoodL l m) {i : Nat} (hi : i < l.length) : (rowsD l m)[i]? = some (.lst [.str "door", .str (toString l[i].1 : Str), .str (toString l[i].2 : Str)]) := by
  have h := G.each l[i] (List.getElem_mem hi)
  have e : (rowsD l m)[i]? = some (wordsD (rowS l[i].1 l[i].2)) := by
    unfold rowsD rowsL
    rw [List.getElem?_map, List.getElem?_append_left (by simpa using hi), List.getElem?_map, List.getElem?_eq_getElem hi]
    rfl
  rw [e]
  unfold wordsD
  rw [row_words h.1 h.2]
  rfl
theorem rows_last (G : GoodL l m) : (rowsD l m)[l.length]? = some (.lst ((("crates" : Str) :: nmS m).map D.str)) := by
  have e : (rowsD l m)[l.length]? = some (wordsD (crS m)) := by
    unfold rowsD rowsL
    rw [List.getElem?_map, List.getElem?_append_right (by simp)]
    simp
  rw [e]
  unfold wordsD
  rw [cr_words G.m1 G.m3]
abbrev envP (l : List (Int × Int)) (m : Nat) (i : Nat) : Mi.Env := [.dat (.str (textS l m)), .dat (.lst (rowsD l m)), .own ((l.take i).map dT), .dat (.int (i : Nat)), .no, .no]
theorem eq_door : fEq (.str "door") (.str "door") = some (.bl true) := by kernel_rfl
theorem eq_crates : fEq (.str "crates") (.str "door") = some (.bl false) := by kernel_rfl
theorem ne_crates : fNe (.str "crates") (.str "crates") = some (.bl false) := by kernel_rfl
theorem f_split {x y : Str} (hy : y.length ≠ 0) (hx : x.length ≤ 100000) : fSplit (.str x) [.str y] = some ((Txt.split x y).map D.str) := if_pos ⟨hy, hx⟩
end
end My

namespace My
open PySem L2 Cc Mi Wm
theorem rg_nat (n : Nat) : rgD 0 (n : Int) = (List.range n).map fun (k : Nat) => D.int (k : Int) := by
  unfold rgD
  rw [Int.sub_zero, Int.toNat_natCast]
  exact List.map_congr_left fun k _ => by rw [Int.zero_add]
section
variable {C : Addr} {Er : Str → List D → Prop}
theorem x_storeM {Q : D → Prop} (k : ∀ l m, GoodL l m → (m : Int) ≤ (l.map (·.2)).sum → (l.map (·.2)).sum ≤ 6 → Q (stT C l (.ptup (plc 0 l)) (.int (l.map (·.2)).sum) (.ptup (crD m)))) : (i_store C []).wp Q Er := by
  unfold i_store
  simp -implicitDefEqProofs only [defM, defR, lawM, fin, sSeq, sExpr, sAsg, sAsgB, sPat, sPatB, sOwn, sOwnB, sPar, sPar3, sRet, sRetN, sIf, sFor, sForB, sApp, sAppB, sExt, sExtB, sSet, sFz, sNext, sBreak, sCont, sAug, sAugL, sErrF, sErr, sParX, sParX3, agGo, Fl.next, Fl.turn, vB, ok1, okL, mVar, mC, mOp, mUn, mNil, mCons, mCB, mCBn, mCall, mTup, mLst, mNew, asB, cOf, cAnd, cOr, cNot, cYes, mAnd, mOr, mNot, mIf, mChain, oNone, asI, oSome, mOpN, mPt, iL, iT, mFld, mProp, mLenI, mSlT, mSlL, pName, pGo, pTup, pLst, wipeE, mIsT, mCallR, mDraw, isRow, look, M.bind_ret, M.bind_err, M.bind_bad, M.bind_draw, M.ofO_some, M.ofO_none, M.calm_ret, M.calm_bad, M.calm_draw, M.bind_assoc, M.wp_ret, List.length_cons, List.length_nil, List.map_cons, List.map_nil, List.replicate_zero, List.replicate_succ, List.cons_append, List.nil_append, List.set_cons_zero, List.set_cons_succ, List.getElem?_cons_zero, List.getElem?_cons_succ, Nat.reduceAdd, Nat.reduceSub, Nat.reduceLeDiff, Nat.reduceEqDiff, if_true, if_false, ite_true, ite_false, reduceIte, Bool.not_true, Bool.not_false, Bool.false_eq_true, m__law_store, f_i, Nat.zero_le]
  rw [M.wp_draw]
  refine ⟨⟨by omega, by omega⟩, fun i i0 i1 => ?_⟩
  have hrg : rgOk 0 (1 + i) = true := by
    unfold rgOk
    rw [decide_eq_true (show (-1000000 : Int) ≤ 0 by omega), decide_eq_true (show (0 : Int) ≤ 1000000 by omega), decide_eq_true (show (-1000000 : Int) ≤ 1 + i by omega), decide_eq_true (show 1 + i ≤ 1000000 by omega)]
    rfl
  simp -implicitDefEqProofs only [defM, defR, lawM, fin, sSeq, sExpr, sAsg, sAsgB, sPat, sPatB, sOwn, sOwnB, sPar, sPar3, sRet, sRetN, sIf, sFor, sForB, sApp, sAppB, sExt, sExtB, sSet, sFz, sNext, sBreak, sCont, sAug, sAugL, sErrF, sErr, sParX, sParX3, agGo, Fl.next, Fl.turn, vB, ok1, okL, mVar, mC, mOp, mUn, mNil, mCons, mCB, mCBn, mCall, mTup, mLst, mNew, asB, cOf, cAnd, cOr, cNot, cYes, mAnd, mOr, mNot, mIf, mChain, oNone, asI, oSome, mOpN, mPt, iL, iT, mFld, mProp, mLenI, mSlT, mSlL, pName, pGo, pTup, pLst, wipeE, mIsT, mCallR, mDraw, isRow, look, M.bind_ret, M.bind_err, M.bind_bad, M.bind_draw, M.ofO_some, M.ofO_none, M.calm_ret, M.calm_bad, M.calm_draw, M.bind_assoc, M.wp_ret, List.length_cons, List.length_nil, List.map_cons, List.map_nil, List.replicate_zero, List.replicate_succ, List.cons_append, List.nil_append, List.set_cons_zero, List.set_cons_succ, List.getElem?_cons_zero, List.getElem?_cons_succ, Nat.reduceAdd, Nat.reduceSub, Nat.reduceLeDiff, Nat.reduceEqDiff, if_true, if_false, ite_true, ite_false, reduceIte, Bool.not_true, Bool.not_false, Bool.false_eq_true, rg1, hrg]
  rw [M.wp_bind]
  unfold rgD
  refine forGo_wp (fun (k : Nat) => D.int (0 + (k : Int))) (fun xs ρ => ∃ (l : List (Int × Int)) (s : Sl), ρ = [.row, .own (l.map dT), .dat (.int (1 + i)), s, .no, .no] ∧ ((l.length : Nat) : Int) + (xs.length : Nat) = 1 + i ∧ ∀ p ∈ l, (1 ≤ p.1 ∧ p.1 ≤ 9) ∧ 1 ≤ p.2 ∧ p.2 ≤ 2) (fun x xs ρ ⟨l, s, q1, q2, q3⟩ => ?_) (fun ρ ⟨l, s, q1, q2, q3⟩ => ?_) _ _ ⟨[], .no, rfl, by simp; omega, fun _ h => nomatch h⟩
  · subst q1
    rw [List.length_cons] at q2
    have hl : (l.map dT).length < 100000 := by rw [List.length_map]; omega
    refine ⟨_, rfl, ?_⟩
    have next : ∀ w n : Int, 1 ≤ w ∧ w ≤ 9 → 1 ≤ n ∧ n ≤ 2 → ∃ ρ2, Fl.nx [.row, .own (l.map dT ++ [.ptup [.int w, .int n]]), .dat (.int (1 + i)), .dat (.int (0 + (x : Int))), .no, .no] = .nx ρ2 ∧ ∃ (l : List (Int × Int)) (s : Sl), ρ2 = [.row, .own (l.map dT), .dat (.int (1 + i)), s, .no, .no] ∧ ((l.length : Nat) : Int) + (xs.length : Nat) = 1 + i ∧ ∀ p ∈ l, (1 ≤ p.1 ∧ p.1 ≤ 9) ∧ 1 ≤ p.2 ∧ p.2 ≤ 2 := fun w n hw hn => ⟨_, rfl, l ++ [(w, n)], .dat (.int (0 + (x : Int))), by simp [dT], by simp; omega, fun p hp => by
      rcases List.mem_append.mp hp with hp | hp
      · exact q3 p hp
      · rw [List.mem_singleton.mp hp]; exact ⟨hw, hn⟩⟩
    simp -implicitDefEqProofs only [defM, defR, lawM, fin, sSeq, sExpr, sAsg, sAsgB, sPat, sPatB, sOwn, sOwnB, sPar, sPar3, sRet, sRetN, sIf, sFor, sForB, sApp, sAppB, sExt, sExtB, sSet, sFz, sNext, sBreak, sCont, sAug, sAugL, sErrF, sErr, sParX, sParX3, agGo, Fl.next, Fl.turn, vB, ok1, okL, mVar, mC, mOp, mUn, mNil, mCons, mCB, mCBn, mCall, mTup, mLst, mNew, asB, cOf, cAnd, cOr, cNot, cYes, mAnd, mOr, mNot, mIf, mChain, oNone, asI, oSome, mOpN, mPt, iL, iT, mFld, mProp, mLenI, mSlT, mSlL, pName, pGo, pTup, pLst, wipeE, mIsT, mCallR, mDraw, isRow, look, M.bind_ret, M.bind_err, M.bind_bad, M.bind_draw, M.ofO_some, M.ofO_none, M.calm_ret, M.calm_bad, M.calm_draw, M.bind_assoc, M.wp_ret, List.length_cons, List.length_nil, List.map_cons, List.map_nil, List.replicate_zero, List.replicate_succ, List.cons_append, List.nil_append, List.set_cons_zero, List.set_cons_succ, List.getElem?_cons_zero, List.getElem?_cons_succ, Nat.reduceAdd, Nat.reduceSub, Nat.reduceLeDiff, Nat.reduceEqDiff, if_true, if_false, ite_true, ite_false, reduceIte, Bool.not_true, Bool.not_false, Bool.false_eq_true, f_i, Nat.zero_le]
    rw [M.wp_draw]
    refine ⟨⟨by omega, by omega⟩, fun w w0 w1 => ?_⟩
    by_cases hlt : 1 + i < 3
    · simp -implicitDefEqProofs only [defM, defR, lawM, fin, sSeq, sExpr, sAsg, sAsgB, sPat, sPatB, sOwn, sOwnB, sPar, sPar3, sRet, sRetN, sIf, sFor, sForB, sApp, sAppB, sExt, sExtB, sSet, sFz, sNext, sBreak, sCont, sAug, sAugL, sErrF, sErr, sParX, sParX3, agGo, Fl.next, Fl.turn, vB, ok1, okL, mVar, mC, mOp, mUn, mNil, mCons, mCB, mCBn, mCall, mTup, mLst, mNew, asB, cOf, cAnd, cOr, cNot, cYes, mAnd, mOr, mNot, mIf, mChain, oNone, asI, oSome, mOpN, mPt, iL, iT, mFld, mProp, mLenI, mSlT, mSlL, pName, pGo, pTup, pLst, wipeE, mIsT, mCallR, mDraw, isRow, look, M.bind_ret, M.bind_err, M.bind_bad, M.bind_draw, M.ofO_some, M.ofO_none, M.calm_ret, M.calm_bad, M.calm_draw, M.bind_assoc, M.wp_ret, List.length_cons, List.length_nil, List.map_cons, List.map_nil, List.replicate_zero, List.replicate_succ, List.cons_append, List.nil_append, List.set_cons_zero, List.set_cons_succ, List.getElem?_cons_zero, List.getElem?_cons_succ, Nat.reduceAdd, Nat.reduceSub, Nat.reduceLeDiff, Nat.reduceEqDiff, if_true, if_false, ite_true, ite_false, reduceIte, Bool.not_true, Bool.not_false, Bool.false_eq_true, f_i, decide_eq_true hlt, hl]
      rw [M.wp_draw]
      refine ⟨⟨by omega, by omega⟩, fun n n0 n1 => ?_⟩
      exact next (1 + w) (1 + n) ⟨by omega, by omega⟩ ⟨by omega, by omega⟩
    · simp -implicitDefEqProofs only [defM, defR, lawM, fin, sSeq, sExpr, sAsg, sAsgB, sPat, sPatB, sOwn, sOwnB, sPar, sPar3, sRet, sRetN, sIf, sFor, sForB, sApp, sAppB, sExt, sExtB, sSet, sFz, sNext, sBreak, sCont, sAug, sAugL, sErrF, sErr, sParX, sParX3, agGo, Fl.next, Fl.turn, vB, ok1, okL, mVar, mC, mOp, mUn, mNil, mCons, mCB, mCBn, mCall, mTup, mLst, mNew, asB, cOf, cAnd, cOr, cNot, cYes, mAnd, mOr, mNot, mIf, mChain, oNone, asI, oSome, mOpN, mPt, iL, iT, mFld, mProp, mLenI, mSlT, mSlL, pName, pGo, pTup, pLst, wipeE, mIsT, mCallR, mDraw, isRow, look, M.bind_ret, M.bind_err, M.bind_bad, M.bind_draw, M.ofO_some, M.ofO_none, M.calm_ret, M.calm_bad, M.calm_draw, M.bind_assoc, M.wp_ret, List.length_cons, List.length_nil, List.map_cons, List.map_nil, List.replicate_zero, List.replicate_succ, List.cons_append, List.nil_append, List.set_cons_zero, List.set_cons_succ, List.getElem?_cons_zero, List.getElem?_cons_succ, Nat.reduceAdd, Nat.reduceSub, Nat.reduceLeDiff, Nat.reduceEqDiff, if_true, if_false, ite_true, ite_false, reduceIte, Bool.not_true, Bool.not_false, Bool.false_eq_true, f_i, decide_eq_false hlt, f_eqI, fInt, hl]
      exact next (1 + w) _ ⟨by omega, by omega⟩ (by split <;> omega)
  · subst q1
    have hl1 : 1 ≤ l.length := by simp at q2; omega
    have hl2 : l.length ≤ 3 := by simp at q2; omega
    have hll : (l.map dT).length ≤ 100000 := by rw [List.length_map]; omega
    have hsum : ∀ l : List (Int × Int), (∀ p ∈ l, 1 ≤ p.2 ∧ p.2 ≤ 2) → (l.length : Int) ≤ (l.map (·.2)).sum ∧ (l.map (·.2)).sum ≤ 2 * (l.length : Int) := fun l => by
      induction l with
      | nil => intro _; simp
      | cons p l ih =>
        intro h
        have h1 := h p (by simp)
        have h2 := ih fun q hq => h q (List.mem_cons_of_mem _ hq)
        rw [List.map_cons, List.sum_cons, List.length_cons]
        omega
    have hs := hsum l fun p hp => (q3 p hp).2
    have e4 : l.map (fun p => D.int p.2) = (l.map (·.2)).map D.int := by rw [List.map_map]; rfl
    simp -implicitDefEqProofs only [defM, defR, lawM, fin, sSeq, sExpr, sAsg, sAsgB, sPat, sPatB, sOwn, sOwnB, sPar, sPar3, sRet, sRetN, sIf, sFor, sForB, sApp, sAppB, sExt, sExtB, sSet, sFz, sNext, sBreak, sCont, sAug, sAugL, sErrF, sErr, sParX, sParX3, agGo, Fl.next, Fl.turn, vB, ok1, okL, mVar, mC, mOp, mUn, mNil, mCons, mCB, mCBn, mCall, mTup, mLst, mNew, asB, cOf, cAnd, cOr, cNot, cYes, mAnd, mOr, mNot, mIf, mChain, oNone, asI, oSome, mOpN, mPt, iL, iT, mFld, mProp, mLenI, mSlT, mSlL, pName, pGo, pTup, pLst, wipeE, mIsT, mCallR, mDraw, isRow, look, M.bind_ret, M.bind_err, M.bind_bad, M.bind_draw, M.ofO_some, M.ofO_none, M.calm_ret, M.calm_bad, M.calm_draw, M.bind_assoc, M.wp_ret, List.length_cons, List.length_nil, List.map_cons, List.map_nil, List.replicate_zero, List.replicate_succ, List.cons_append, List.nil_append, List.set_cons_zero, List.set_cons_succ, List.getElem?_cons_zero, List.getElem?_cons_succ, Nat.reduceAdd, Nat.reduceSub, Nat.reduceLeDiff, Nat.reduceEqDiff, if_true, if_false, ite_true, ite_false, reduceIte, Bool.not_true, Bool.not_false, Bool.false_eq_true, mLc, hll]
    rw [lcGo_map dT (fun p => .int p.2) l fun p hp => ⟨_, rfl, rfl, by simp -implicitDefEqProofs only [defM, defR, lawM, fin, sSeq, sExpr, sAsg, sAsgB, sPat, sPatB, sOwn, sOwnB, sPar, sPar3, sRet, sRetN, sIf, sFor, sForB, sApp, sAppB, sExt, sExtB, sSet, sFz, sNext, sBreak, sCont, sAug, sAugL, sErrF, sErr, sParX, sParX3, agGo, Fl.next, Fl.turn, vB, ok1, okL, mVar, mC, mOp, mUn, mNil, mCons, mCB, mCBn, mCall, mTup, mLst, mNew, asB, cOf, cAnd, cOr, cNot, cYes, mAnd, mOr, mNot, mIf, mChain, oNone, asI, oSome, mOpN, mPt, iL, iT, mFld, mProp, mLenI, mSlT, mSlL, pName, pGo, pTup, pLst, wipeE, mIsT, mCallR, mDraw, isRow, look, M.bind_ret, M.bind_err, M.bind_bad, M.bind_draw, M.ofO_some, M.ofO_none, M.calm_ret, M.calm_bad, M.calm_draw, M.bind_assoc, M.wp_ret, List.length_cons, List.length_nil, List.map_cons, List.map_nil, List.replicate_zero, List.replicate_succ, List.cons_append, List.nil_append, List.set_cons_zero, List.set_cons_succ, List.getElem?_cons_zero, List.getElem?_cons_succ, Nat.reduceAdd, Nat.reduceSub, Nat.reduceLeDiff, Nat.reduceEqDiff, if_true, if_false, ite_true, ite_false, reduceIte, Bool.not_true, Bool.not_false, Bool.false_eq_true, f_ix1]⟩]
    simp -implicitDefEqProofs only [defM, defR, lawM, fin, sSeq, sExpr, sAsg, sAsgB, sPat, sPatB, sOwn, sOwnB, sPar, sPar3, sRet, sRetN, sIf, sFor, sForB, sApp, sAppB, sExt, sExtB, sSet, sFz, sNext, sBreak, sCont, sAug, sAugL, sErrF, sErr, sParX, sParX3, agGo, Fl.next, Fl.turn, vB, ok1, okL, mVar, mC, mOp, mUn, mNil, mCons, mCB, mCBn, mCall, mTup, mLst, mNew, asB, cOf, cAnd, cOr, cNot, cYes, mAnd, mOr, mNot, mIf, mChain, oNone, asI, oSome, mOpN, mPt, iL, iT, mFld, mProp, mLenI, mSlT, mSlL, pName, pGo, pTup, pLst, wipeE, mIsT, mCallR, mDraw, isRow, look, M.bind_ret, M.bind_err, M.bind_bad, M.bind_draw, M.ofO_some, M.ofO_none, M.calm_ret, M.calm_bad, M.calm_draw, M.bind_assoc, M.wp_ret, List.length_cons, List.length_nil, List.map_cons, List.map_nil, List.replicate_zero, List.replicate_succ, List.cons_append, List.nil_append, List.set_cons_zero, List.set_cons_succ, List.getElem?_cons_zero, List.getElem?_cons_succ, Nat.reduceAdd, Nat.reduceSub, Nat.reduceLeDiff, Nat.reduceEqDiff, if_true, if_false, ite_true, ite_false, reduceIte, Bool.not_true, Bool.not_false, Bool.false_eq_true, e4, sum_map, D.fix, D.pl, Bool.and_self, f_tup, f_i2]
    rw [M.wp_draw]
    refine ⟨⟨by omega, by omega⟩, fun n n0 n1 => ?_⟩
    have hm : 1 + n = (((1 + n).toNat : Nat) : Int) := (Int.toNat_of_nonneg (by omega)).symm
    generalize (1 + n).toNat = m at hm
    have hcut : cutD [D.str "fig", D.str "kiwi", D.str "plum"] none (some (1 + n)) = crD m := by
      have := cut_to (α := D) id [D.str "fig", D.str "kiwi", D.str "plum"] (i := 1 + n) (by omega)
      rw [List.map_id, List.map_id, hm, Int.toNat_natCast] at this
      rw [hm]
      exact this
    have hin := x_init (C := C) hl1 (by omega) (fun p hp => by have := q3 p hp; exact ⟨by omega, by omega, by omega, by omega⟩) (by omega) (x_crates (k := m) (by omega) (by omega) (by omega)) (cr_ok (by omega) (by omega))
    unfold dsT at hin
    simp -implicitDefEqProofs only [defM, defR, lawM, fin, sSeq, sExpr, sAsg, sAsgB, sPat, sPatB, sOwn, sOwnB, sPar, sPar3, sRet, sRetN, sIf, sFor, sForB, sApp, sAppB, sExt, sExtB, sSet, sFz, sNext, sBreak, sCont, sAug, sAugL, sErrF, sErr, sParX, sParX3, agGo, Fl.next, Fl.turn, vB, ok1, okL, mVar, mC, mOp, mUn, mNil, mCons, mCB, mCBn, mCall, mTup, mLst, mNew, asB, cOf, cAnd, cOr, cNot, cYes, mAnd, mOr, mNot, mIf, mChain, oNone, asI, oSome, mOpN, mPt, iL, iT, mFld, mProp, mLenI, mSlT, mSlL, pName, pGo, pTup, pLst, wipeE, mIsT, mCallR, mDraw, isRow, look, M.bind_ret, M.bind_err, M.bind_bad, M.bind_draw, M.ofO_some, M.ofO_none, M.calm_ret, M.calm_bad, M.calm_draw, M.bind_assoc, M.wp_ret, List.length_cons, List.length_nil, List.map_cons, List.map_nil, List.replicate_zero, List.replicate_succ, List.cons_append, List.nil_append, List.set_cons_zero, List.set_cons_succ, List.getElem?_cons_zero, List.getElem?_cons_succ, Nat.reduceAdd, Nat.reduceSub, Nat.reduceLeDiff, Nat.reduceEqDiff, if_true, if_false, ite_true, ite_false, reduceIte, Bool.not_true, Bool.not_false, Bool.false_eq_true, f_i, hcut, hin]
    exact k l m ⟨hl1, hl2, q3, by omega, by omega⟩ (by omega) (by omega)
end
theorem shp_ds (l : List (Int × Int)) : (dsT l).shp = true := by
  have e : D.pys (l.map dT) = l.map fun p => PyData.tuple [.int p.1, .int p.2] := by rw [D.pys_map, List.map_map]; rfl
  have h : PyData.canLayAll0 (l.map fun p : Int × Int => PyData.tuple [.int p.1, .int p.2]) = true ∧ PyData.depthAll (l.map fun p : Int × Int => PyData.tuple [.int p.1, .int p.2]) ≤ 1 := by
    clear e
    induction l with
    | nil => exact ⟨rfl, Nat.zero_le _⟩
    | cons p l ih =>
      rw [List.map_cons, PyData.canLayAll0, PyData.depthAll, ih.1]
      refine ⟨by simp [PyData.canLay0, PyData.canLayAll0], ?_⟩
      have : (PyData.tuple [.int p.1, .int p.2]).depth = 1 := by simp [PyData.depth, PyData.depthAll]
      rw [this]
      omega
  unfold D.shp SeqAt.shaped dsT
  simp only [D.py, e, PyData.canLay0, PyData.depth, h.1, Bool.true_and]
  exact decide_eq_true (by omega)
theorem eqv_ds (l : List (Int × Int)) : (dsT l).eqv (dsT l) = true := by
  have e : D.pys (l.map dT) = l.map fun p => PyData.tuple [.int p.1, .int p.2] := by rw [D.pys_map, List.map_map]; rfl
  show PyData.eqvAll (D.pys (l.map dT)) (D.pys (l.map dT)) = true
  rw [e]
  induction l with
  | nil => rfl
  | cons p l ih =>
    rw [List.map_cons, PyData.eqvAll, ih (by rw [D.pys_map, List.map_map]; rfl)]
    simp [PyData.eqv, PyData.eqvAll]
theorem eq_ds (l : List (Int × Int)) : fEq (dsT l) (dsT l) = some (.bl true) := by
  unfold fEq
  rw [eqv_ds, shp_ds, (ds_ok l).2]
  rfl
theorem eq_cr {m : Nat} (h1 : 1 ≤ m) (h2 : m ≤ 3) : fEq (.ptup (crD m)) (.ptup (crD m)) = some (.bl true) := by
  rcases three h1 h2 with rfl | rfl | rfl <;> kernel_rfl
theorem at_dr {a b d c : D} : fAt storeNs [a, b, d, c] "_doors" = some d := rfl
theorem at_cr {a b d c : D} : fAt storeNs [a, b, d, c] "_crates" = some c := rfl
theorem x_eq {C : Addr} {l : List (Int × Int)} {a b c : D} (hc : fEq c c = some (.bl true)) : m_Store___eq__ [stT C l a b c, stT C l a b c] = .ret (.bl true) := by
  simp -implicitDefEqProofs only [defM, defR, lawM, fin, sSeq, sExpr, sAsg, sAsgB, sPat, sPatB, sOwn, sOwnB, sPar, sPar3, sRet, sRetN, sIf, sFor, sForB, sApp, sAppB, sExt, sExtB, sSet, sFz, sNext, sBreak, sCont, sAug, sAugL, sErrF, sErr, sParX, sParX3, agGo, Fl.next, Fl.turn, vB, ok1, okL, mVar, mC, mOp, mUn, mNil, mCons, mCB, mCBn, mCall, mTup, mLst, mNew, asB, cOf, cAnd, cOr, cNot, cYes, mAnd, mOr, mNot, mIf, mChain, oNone, asI, oSome, mOpN, mPt, iL, iT, mFld, mProp, mLenI, mSlT, mSlL, pName, pGo, pTup, pLst, wipeE, mIsT, mCallR, mDraw, isRow, look, M.bind_ret, M.bind_err, M.bind_bad, M.bind_draw, M.ofO_some, M.ofO_none, M.calm_ret, M.calm_bad, M.calm_draw, M.bind_assoc, M.wp_ret, List.length_cons, List.length_nil, List.map_cons, List.map_nil, List.replicate_zero, List.replicate_succ, List.cons_append, List.nil_append, List.set_cons_zero, List.set_cons_succ, List.getElem?_cons_zero, List.getElem?_cons_succ, Nat.reduceAdd, Nat.reduceSub, Nat.reduceLeDiff, Nat.reduceEqDiff, if_true, if_false, ite_true, ite_false, reduceIte, Bool.not_true, Bool.not_false, Bool.false_eq_true, m_Store___eq__, mIsO, st_p, at_dr, at_cr, eq_ds, hc]
theorem ne_text {x : Str} (h : PyData.strOk x = true) : fNe (.str x) (.str x) = some (.bl false) := by
  have e : (D.str x).eqv (.str x) = true := by show (x == x) = true; exact beq_self_eq_true x
  have h2 : (D.str x).shp = true := by
    unfold D.shp SeqAt.shaped
    simp only [D.py, PyData.canLay0, h, PyData.depth]
    rfl
  unfold fNe
  rw [e, h2]
  rfl
theorem joinL_all {S : List Nat} {P : Nat → Prop} (hS : ∀ k ∈ S, P k) : ∀ parts : List (List Nat), (∀ p ∈ parts, ∀ k ∈ p, P k) → ∀ k ∈ TL.joinL S parts, P k
  | [], _, k, hk => nomatch hk
  | [p], h, k, hk => h p (by simp) k hk
  | p :: q :: r, h, k, hk => by
    rcases List.mem_append.mp (show k ∈ p ++ (S ++ TL.joinL S (q :: r)) from hk) with hk | hk
    · exact h p (by simp) k hk
    · rcases List.mem_append.mp hk with hk | hk
      · exact hS k hk
      · exact joinL_all hS (q :: r) (fun z hz => h z (List.mem_cons_of_mem _ hz)) k hk
theorem row_ok {w p : Int} (hw : 1 ≤ w ∧ w ≤ 9) (hp : 1 ≤ p ∧ p ≤ 2) : (TL.tl (rowS w p)).all (fun k => decide (k < 0x110000)) = true := by
  rcases nine hw with rfl | rfl | rfl | rfl | rfl | rfl | rfl | rfl | rfl <;> rcases two hp with rfl | rfl <;> decide +kernel
theorem cr_okS {m : Nat} (h1 : 1 ≤ m) (h2 : m ≤ 3) : (TL.tl (crS m)).all (fun k => decide (k < 0x110000)) = true := by
  rcases three h1 h2 with rfl | rfl | rfl <;> decide +kernel
theorem text_ok {l : List (Int × Int)} {m : Nat} (G : GoodL l m) : PyData.strOk (textS l m) = true := by
  have h : ∀ k ∈ TL.tl (textS l m), k < 0x110000 := by
    unfold textS
    rw [TL.join_eq, TL.tl_join]
    refine joinL_all (fun k hk => ?_) _ fun q hq k hk => ?_
    · have : k = 10 := by simpa using (show k ∈ [10] from hk)
      omega
    · obtain ⟨x, hx, rfl⟩ := List.mem_map.mp hq
      rcases List.mem_append.mp hx with hx | hx
      · obtain ⟨p, hp, rfl⟩ := List.mem_map.mp hx
        have := row_ok (G.each p hp).1 (G.each p hp).2
        rw [List.all_eq_true] at this
        exact of_decide_eq_true (this k hk)
      · rw [List.mem_singleton.mp hx] at hk
        have := cr_okS G.m1 G.m3
        rw [List.all_eq_true] at this
        exact of_decide_eq_true (this k hk)
  unfold PyData.strOk
  rw [Array.all_eq_true']
  exact fun k hk => decide_eq_true (h k (Array.mem_toList_iff.mpr hk))
theorem cat_row {w p : Int} (hw : 1 ≤ w ∧ w ≤ 9) (hp : 1 ≤ p ∧ p ≤ 2) {ρ : Mi.Env} (h7 : ρ[7]? = some (.dat (.int w))) (h8 : ρ[8]? = some (.dat (.int p))) : (mOp fCatS (mOp fCatS (mOp fCatS (mC (.str "door ")) (mCB fStr (mCons (mVar 7) mNil))) (mC (.str " "))) (mCB fStr (mCons (mVar 8) mNil))) ρ = .ret (.str (rowS w p)) := by
  have e7 : look ρ 7 = some (.int w) := by unfold look; rw [h7]
  have e8 : look ρ 8 = some (.int p) := by unfold look; rw [h8]
  have k1 : fStr [.int w] = some (.str (toString w : Str)) := by rcases nine hw with rfl | rfl | rfl | rfl | rfl | rfl | rfl | rfl | rfl <;> kernel_rfl
  have k2 : fStr [.int p] = some (.str (toString p : Str)) := by rcases two hp with rfl | rfl <;> kernel_rfl
  have k3 : fCatS (.str "door ") (.str (toString w : Str)) = some (.str (("door " : Str) ++ (toString w : Str))) := by rcases nine hw with rfl | rfl | rfl | rfl | rfl | rfl | rfl | rfl | rfl <;> kernel_rfl
  have k4 : fCatS (.str (("door " : Str) ++ (toString w : Str))) (.str " ") = some (.str ((("door " : Str) ++ (toString w : Str)) ++ (" " : Str))) := by rcases nine hw with rfl | rfl | rfl | rfl | rfl | rfl | rfl | rfl | rfl <;> kernel_rfl
  have k5 : fCatS (.str ((("door " : Str) ++ (toString w : Str)) ++ (" " : Str))) (.str (toString p : Str)) = some (.str (rowS w p)) := by rcases nine hw with rfl | rfl | rfl | rfl | rfl | rfl | rfl | rfl | rfl <;> rcases two hp with rfl | rfl <;> kernel_rfl
  simp -implicitDefEqProofs only [mOp, mCB, mCons, mNil, mVar, mC, e7, e8, M.ofO_some, M.bind_ret, k1, k2, k3, k4, k5]
end My

/-! Mi: data that may be compared -/
namespace Mi
open PySem L2 Cc
mutual
def datOk : Nat → D → Bool
  | _, .non => true
  | _, .bl _ => true
  | _, .int _ => true
  | _, .str x => PyData.strOk x
  | n + 1, .lst ds => datOks n ds
  | n + 1, .tup ds => datOks n ds
  | n + 1, .ptup ds => datOks n ds
  | _, _ => false
def datOks : Nat → List D → Bool
  | _, [] => true
  | n, d :: ds => datOk n d && datOks n ds
end
theorem datOks_iff {n : Nat} {ds : List D} : datOks n ds = true ↔ ∀ d ∈ ds, datOk n d = true := by
  induction ds with
  | nil => simp [datOks]
  | cons d ds ih => simp [datOks, ih]
mutual
theorem datOk_all : ∀ (n : Nat) (d : D), datOk n d = true → d.pl = true ∧ d.py.canLay0 = true ∧ d.py.depth ≤ n
  | n, .non, _ => ⟨rfl, rfl, Nat.zero_le _⟩
  | n, .bl _, _ => ⟨rfl, rfl, Nat.zero_le _⟩
  | n, .int _, _ => ⟨rfl, rfl, Nat.zero_le _⟩
  | n, .str x, h => ⟨rfl, by simpa [datOk, D.py, PyData.canLay0] using h, Nat.zero_le _⟩
  | n, .ob _ _ _, h => by cases n <;> simp [datOk] at h
  | n, .adr _, h => by cases n <;> simp [datOk] at h
  | 0, .lst _, h => by simp [datOk] at h
  | 0, .tup _, h => by simp [datOk] at h
  | 0, .ptup _, h => by simp [datOk] at h
  | n + 1, .lst ds, h => by
    obtain ⟨h1, h2, h3⟩ := datOks_all n ds (by simpa [datOk] using h)
    exact ⟨by simpa [D.pl] using h1, by simpa [D.py, PyData.canLay0] using h2, by simp only [D.py, PyData.depth]; omega⟩
  | n + 1, .tup ds, h => by
    obtain ⟨h1, h2, h3⟩ := datOks_all n ds (by simpa [datOk] using h)
    exact ⟨by simpa [D.pl] using h1, by simpa [D.py, PyData.canLay0] using h2, by simp only [D.py, PyData.depth]; omega⟩
  | n + 1, .ptup ds, h => by
    obtain ⟨h1, h2, h3⟩ := datOks_all n ds (by simpa [datOk] using h)
    exact ⟨by simpa [D.pl] using h1, by simpa [D.py, PyData.canLay0] using h2, by simp only [D.py, PyData.depth]; omega⟩
theorem datOks_all : ∀ (n : Nat) (ds : List D), datOks n ds = true → D.pls ds = true ∧ PyData.canLayAll0 (D.pys ds) = true ∧ PyData.depthAll (D.pys ds) ≤ n
  | n, [], _ => ⟨rfl, rfl, Nat.zero_le _⟩
  | n, d :: ds, h => by
    have h' : datOk n d = true ∧ datOks n ds = true := by simpa [datOks] using h
    obtain ⟨a1, a2, a3⟩ := datOk_all n d h'.1
    obtain ⟨b1, b2, b3⟩ := datOks_all n ds h'.2
    exact ⟨by simp [D.pls, a1, b1], by simp [D.pys, PyData.canLayAll0, a2, b2], by simp only [D.pys, PyData.depthAll]; omega⟩
end
theorem dat_pl {n : Nat} {d : D} (h : datOk n d = true) : d.pl = true := (datOk_all n d h).1
theorem dat_shp {n : Nat} {d : D} (h : datOk n d = true) (hn : n ≤ 64) : d.shp = true := by
  obtain ⟨_, h2, h3⟩ := datOk_all n d h
  have : d.py.depth ≤ 64 := by omega
  simp only [D.shp, SeqAt.shaped, h2, decide_eq_true this, Bool.and_self]
theorem dat_same {n : Nat} {d : D} (h : datOk n d = true) : d.eqv d = true := SeqAt.eqv_refl _ (datOk_all n d h).2.1
theorem f_eqD {n : Nat} {d e : D} (h : datOk n d = true) (h' : datOk n e = true) (hn : n ≤ 64) : fEq d e = some (.bl (d.eqv e)) := by
  unfold fEq
  rw [if_pos (by simp only [dat_pl h, dat_pl h', dat_shp h hn, dat_shp h' hn, Bool.and_self])]
theorem f_neD {n : Nat} {d e : D} (h : datOk n d = true) (h' : datOk n e = true) (hn : n ≤ 64) : fNe d e = some (.bl (!d.eqv e)) := by
  unfold fNe
  rw [if_pos (by simp only [dat_pl h, dat_pl h', dat_shp h hn, dat_shp h' hn, Bool.and_self])]
theorem f_eqSame {n : Nat} {d : D} (h : datOk n d = true) (hn : n ≤ 64) : fEq d d = some (.bl true) := by rw [f_eqD h h hn, dat_same h]
theorem f_neSame {n : Nat} {d : D} (h : datOk n d = true) (hn : n ≤ 64) : fNe d d = some (.bl false) := by rw [f_neD h h hn, dat_same h]; rfl
/-- a list beside the empty one -/
theorem f_neNil {n : Nat} {ds : List D} (h : datOks n ds = true) (hn : n ≤ 60) : fNe (.lst ds) (.lst []) = some (.bl !ds.isEmpty) := by
  rw [f_neD (n := n + 1) (by simpa [datOk] using h) (by simp [datOk, datOks]) (by omega)]
  cases ds <;> rfl
theorem f_eqNil {n : Nat} {ds : List D} (h : datOks n ds = true) (hn : n ≤ 60) : fEq (.lst ds) (.lst []) = some (.bl ds.isEmpty) := by
  rw [f_eqD (n := n + 1) (by simpa [datOk] using h) (by simp [datOk, datOks]) (by omega)]
  cases ds <;> rfl
theorem datOks_ints {α : Type} (f : α → Int) (l : List α) (n : Nat) : datOks n (l.map fun x => D.int (f x)) = true := datOks_iff.mpr fun d hd => by
  obtain ⟨i, _, rfl⟩ := List.mem_map.mp hd
  cases n <;> rfl
end Mi

namespace My
open PySem L2 Cc Mi Wm
def stI (c v : Int) : Int := (11 * c + v) % 251
def chkI (is : List Int) : Int := is.foldl stI 4
theorem f_mod {a : Int} : fMod (.int a) (.int 251) = some (.int (a % 251)) := rfl
theorem lt100 : ((2 : Nat) < 100) = True := by simp
theorem lt101 : ((0 : Nat) < 100) = True := by simp
theorem lt102 : ((1 : Nat) < 100) = True := by simp
theorem f_mul11 {c : Int} : fMul (.int 11) (.int c) = some (.int (11 * c)) := f_mul (cmul (.inl ⟨by decide, by decide⟩))
theorem x_chk (is : List Int) : m_checksum_of [.lst (iD is)] = .ret (.int (chkI is)) := by
  simp -implicitDefEqProofs only [defM, defR, lawM, fin, sSeq, sExpr, sAsg, sAsgB, sPat, sPatB, sOwn, sOwnB, sPar, sPar3, sRet, sRetN, sIf, sFor, sForB, sApp, sAppB, sExt, sExtB, sSet, sFz, sNext, sBreak, sCont, sAug, sAugL, sErrF, sErr, sParX, sParX3, agGo, Fl.next, Fl.turn, vB, ok1, okL, mVar, mC, mOp, mUn, mNil, mCons, mCB, mCBn, mCall, mTup, mLst, mNew, asB, cOf, cAnd, cOr, cNot, cYes, mAnd, mOr, mNot, mIf, mChain, oNone, asI, oSome, mOpN, mPt, iL, iT, mFld, mProp, mLenI, mSlT, mSlL, pName, pGo, pTup, pLst, wipeE, mIsT, mCallR, mDraw, isRow, look, M.bind_ret, M.bind_err, M.bind_bad, M.bind_draw, M.ofO_some, M.ofO_none, M.calm_ret, M.calm_bad, M.calm_draw, M.bind_assoc, M.wp_ret, List.length_cons, List.length_nil, List.map_cons, List.map_nil, List.replicate_zero, List.replicate_succ, List.cons_append, List.nil_append, List.set_cons_zero, List.set_cons_succ, List.getElem?_cons_zero, List.getElem?_cons_succ, Nat.reduceAdd, Nat.reduceSub, Nat.reduceLeDiff, Nat.reduceEqDiff, if_true, if_false, ite_true, ite_false, reduceIte, Bool.not_true, Bool.not_false, Bool.false_eq_true, m_checksum_of]
  refine forGo_bind D.int (fun xs ρ => ∃ (c : Int) (s2 : Sl), ρ = [.dat (.lst (iD is)), .dat (.int c), s2] ∧ xs.foldl stI c = chkI is) is (fun x xs ρ hρ => ?_) ⟨4, .no, rfl, rfl⟩ fun ρ hρ => ?_
  · obtain ⟨c, s2, rfl, hc⟩ := hρ
    refine ⟨_, _, rfl, ?_, stI c x, .dat (.int x), rfl, hc⟩
    simp -implicitDefEqProofs only [defM, defR, lawM, fin, sSeq, sExpr, sAsg, sAsgB, sPat, sPatB, sOwn, sOwnB, sPar, sPar3, sRet, sRetN, sIf, sFor, sForB, sApp, sAppB, sExt, sExtB, sSet, sFz, sNext, sBreak, sCont, sAug, sAugL, sErrF, sErr, sParX, sParX3, agGo, Fl.next, Fl.turn, vB, ok1, okL, mVar, mC, mOp, mUn, mNil, mCons, mCB, mCBn, mCall, mTup, mLst, mNew, asB, cOf, cAnd, cOr, cNot, cYes, mAnd, mOr, mNot, mIf, mChain, oNone, asI, oSome, mOpN, mPt, iL, iT, mFld, mProp, mLenI, mSlT, mSlL, pName, pGo, pTup, pLst, wipeE, mIsT, mCallR, mDraw, isRow, look, M.bind_ret, M.bind_err, M.bind_bad, M.bind_draw, M.ofO_some, M.ofO_none, M.calm_ret, M.calm_bad, M.calm_draw, M.bind_assoc, M.wp_ret, List.length_cons, List.length_nil, List.map_cons, List.map_nil, List.replicate_zero, List.replicate_succ, List.cons_append, List.nil_append, List.set_cons_zero, List.set_cons_succ, List.getElem?_cons_zero, List.getElem?_cons_succ, Nat.reduceAdd, Nat.reduceSub, Nat.reduceLeDiff, Nat.reduceEqDiff, if_true, if_false, ite_true, ite_false, reduceIte, Bool.not_true, Bool.not_false, Bool.false_eq_true, f_mul11, f_i, f_mod]
    rfl
  · obtain ⟨c, s2, rfl, hc⟩ := hρ
    simp -implicitDefEqProofs only [defM, defR, lawM, fin, sSeq, sExpr, sAsg, sAsgB, sPat, sPatB, sOwn, sOwnB, sPar, sPar3, sRet, sRetN, sIf, sFor, sForB, sApp, sAppB, sExt, sExtB, sSet, sFz, sNext, sBreak, sCont, sAug, sAugL, sErrF, sErr, sParX, sParX3, agGo, Fl.next, Fl.turn, vB, ok1, okL, mVar, mC, mOp, mUn, mNil, mCons, mCB, mCBn, mCall, mTup, mLst, mNew, asB, cOf, cAnd, cOr, cNot, cYes, mAnd, mOr, mNot, mIf, mChain, oNone, asI, oSome, mOpN, mPt, iL, iT, mFld, mProp, mLenI, mSlT, mSlL, pName, pGo, pTup, pLst, wipeE, mIsT, mCallR, mDraw, isRow, look, M.bind_ret, M.bind_err, M.bind_bad, M.bind_draw, M.ofO_some, M.ofO_none, M.calm_ret, M.calm_bad, M.calm_draw, M.bind_assoc, M.wp_ret, List.length_cons, List.length_nil, List.map_cons, List.map_nil, List.replicate_zero, List.replicate_succ, List.cons_append, List.nil_append, List.set_cons_zero, List.set_cons_succ, List.getElem?_cons_zero, List.getElem?_cons_succ, Nat.reduceAdd, Nat.reduceSub, Nat.reduceLeDiff, Nat.reduceEqDiff, if_true, if_false, ite_true, ite_false, reduceIte, Bool.not_true, Bool.not_false, Bool.false_eq_true]
    exact congrArg (fun z => M.ret (D.int z)) hc
/-- what cannot stand at n for a reading from lo to hi -/
def Bd (ds : List D) (n : Nat) (lo hi : Int) : Prop := ds.length = n ∨ ∃ b, ds[n]? = some b ∧ m_is_number [b, .int lo, .int hi] = .ret (.bl false)
/-- a code that is as vs ahead of n, and wrong there -/
structure Brk (ds : List D) (vs : List Int) (n : Nat) : Prop where
  small : ds.length ≤ 1000
  nle : n ≤ vs.length
  cut : ds.take n = iD (vs.take n)
  bad : n < vs.length → ∀ lo hi, 0 ≤ lo → hi ≤ 255 → (n + 1 = vs.length → lo = hi ∧ vs[n]? = some lo) → Bd ds n lo hi
  more : n = vs.length → n < ds.length
section
variable {A : Addr} {ds : List D} {vs : List Int} {n p : Nat}
theorem Brk.len (B : Brk ds vs n) : n ≤ ds.length := by
  have := congrArg List.length B.cut
  simp at this
  have := B.nle
  omega
theorem Brk.pre (B : Brk ds vs n) {j : Nat} {v : Int} (h : j < n) (hv : vs[j]? = some v) : ds[j]? = some (.int v) := by
  have e : (ds.take n)[j]? = (iD (vs.take n))[j]? := by rw [B.cut]
  rw [List.getElem?_take_of_lt h, List.getElem?_map, List.getElem?_take_of_lt h, hv] at e
  exact e
abbrev rdS (A : Addr) (ds : List D) (n : Nat) : Sl := .slf 1 A Ns_Reader [.lst ds, .int (n : Nat)]
theorem rd_p : P_Reader Ns_Reader = true := by decide
theorem at_vs {a b : D} : fAt Ns_Reader [a, b] "_values" = some a := rfl
theorem at_at {a b : D} : fAt Ns_Reader [a, b] "_at" = some b := rfl
theorem set_at {a b c : D} : setF Ns_Reader [a, b] "_at" c = [a, c] := rfl
theorem ns_cons : Ns_Reader = ("_values" : Str) :: (["_at"] : List Str) := rfl
abbrev erN {α : Type} (n : Nat) : M α := .err "DecodeError" [.int (n : Nat)]
def Or1 {α : Type} (m : M α) (a : α) (p n : Nat) : Prop := (p ≤ n ∧ m = .ret a) ∨ m = erN n
theorem x_readD {v lo hi : Int} (B : Brk ds vs n) (hp : p < n) (h : vs[p]? = some v) (h1 : lo ≤ v) (h2 : v ≤ hi) : m_Reader_read A [.lst ds, .int (p : Nat)] [.int lo, .int hi] = .ret (.int v, [.lst ds, .int ((p + 1 : Nat) : Int)]) := by
  have hn := B.len
  have hl := B.small
  have e1 : fLen [.lst ds] = some (.int (ds.length : Nat)) := f_lenL (by omega)
  have e2 : fEq (.int (p : Nat)) (.int (ds.length : Nat)) = some (.bl false) := by
    rw [f_eqI]
    have : ((p : Int) == (ds.length : Int)) = false := by simpa using (by omega : ¬ (p : Int) = ds.length)
    rw [this]
  have e3 : fIx (.lst ds) (.int (p : Nat)) = some (.int v) := f_ixL (B.pre hp h)
  have e4 : m_is_number [.int v, .int lo, .int hi] = .ret (.bl true) := by rw [x_num, decide_eq_true h1, decide_eq_true h2]; rfl
  have e5 : ((p : Nat) : Int) + 1 = ((p + 1 : Nat) : Int) := by omega
  have e6 : ((p + 1 : Nat) : Int) - 1 = ((p : Nat) : Int) := by omega
  simp -implicitDefEqProofs only [defM, defR, lawM, fin, sSeq, sExpr, sAsg, sAsgB, sPat, sPatB, sOwn, sOwnB, sPar, sPar3, sRet, sRetN, sIf, sFor, sForB, sApp, sAppB, sExt, sExtB, sSet, sFz, sNext, sBreak, sCont, sAug, sAugL, sErrF, sErr, sParX, sParX3, agGo, Fl.next, Fl.turn, vB, ok1, okL, mVar, mC, mOp, mUn, mNil, mCons, mCB, mCBn, mCall, mTup, mLst, mNew, asB, cOf, cAnd, cOr, cNot, cYes, mAnd, mOr, mNot, mIf, mChain, oNone, asI, oSome, mOpN, mPt, iL, iT, mFld, mProp, mLenI, mSlT, mSlL, pName, pGo, pTup, pLst, wipeE, mIsT, mCallR, mDraw, isRow, look, M.bind_ret, M.bind_err, M.bind_bad, M.bind_draw, M.ofO_some, M.ofO_none, M.calm_ret, M.calm_bad, M.calm_draw, M.bind_assoc, M.wp_ret, List.length_cons, List.length_nil, List.map_cons, List.map_nil, List.replicate_zero, List.replicate_succ, List.cons_append, List.nil_append, List.set_cons_zero, List.set_cons_succ, List.getElem?_cons_zero, List.getElem?_cons_succ, Nat.reduceAdd, Nat.reduceSub, Nat.reduceLeDiff, Nat.reduceEqDiff, if_true, if_false, ite_true, ite_false, reduceIte, Bool.not_true, Bool.not_false, Bool.false_eq_true, m_Reader_read, defJ, rd_p, at_vs, at_at, set_at, e1, e2, e3, e4, e5, e6, f_i, sFldAugJ, sRetJ, finJ, finJr, ns_cons, D.fix, D.pl, Bool.and_self, and_self, true_and, lt100, lt101, lt102]
theorem shown_nat {j : Nat} (h : j ≤ 1000) : shown (.int (j : Nat)) = true := by
  unfold shown
  have : ((j : Nat) : Int).natAbs.log2 < 1920 := by
    rw [Int.natAbs_natCast]
    exact Nat.lt_of_le_of_lt (Nat.log2_le_self j) (by omega)
  exact decide_eq_true this
theorem x_readE {lo hi : Int} (hl : ds.length ≤ 1000) (b : Bd ds n lo hi) : m_Reader_read A [.lst ds, .int (n : Nat)] [.int lo, .int hi] = erN n := by
  have e1 : fLen [.lst ds] = some (.int (ds.length : Nat)) := f_lenL (by omega)
  have hs : shown (.int (n : Nat)) = true := shown_nat (by
    rcases b with h | ⟨b, hb, _⟩
    · omega
    · have := (List.getElem?_eq_some_iff.mp hb).1
      omega)
  rcases b with rfl | ⟨b, hb, hn⟩
  · have e2 : fEq (.int (ds.length : Nat)) (.int (ds.length : Nat)) = some (.bl true) := by rw [f_eqI, beq_self_eq_true]
    simp -implicitDefEqProofs only [defM, defR, lawM, fin, sSeq, sExpr, sAsg, sAsgB, sPat, sPatB, sOwn, sOwnB, sPar, sPar3, sRet, sRetN, sIf, sFor, sForB, sApp, sAppB, sExt, sExtB, sSet, sFz, sNext, sBreak, sCont, sAug, sAugL, sErrF, sErr, sParX, sParX3, agGo, Fl.next, Fl.turn, vB, ok1, okL, mVar, mC, mOp, mUn, mNil, mCons, mCB, mCBn, mCall, mTup, mLst, mNew, asB, cOf, cAnd, cOr, cNot, cYes, mAnd, mOr, mNot, mIf, mChain, oNone, asI, oSome, mOpN, mPt, iL, iT, mFld, mProp, mLenI, mSlT, mSlL, pName, pGo, pTup, pLst, wipeE, mIsT, mCallR, mDraw, isRow, look, M.bind_ret, M.bind_err, M.bind_bad, M.bind_draw, M.ofO_some, M.ofO_none, M.calm_ret, M.calm_bad, M.calm_draw, M.bind_assoc, M.wp_ret, List.length_cons, List.length_nil, List.map_cons, List.map_nil, List.replicate_zero, List.replicate_succ, List.cons_append, List.nil_append, List.set_cons_zero, List.set_cons_succ, List.getElem?_cons_zero, List.getElem?_cons_succ, Nat.reduceAdd, Nat.reduceSub, Nat.reduceLeDiff, Nat.reduceEqDiff, if_true, if_false, ite_true, ite_false, reduceIte, Bool.not_true, Bool.not_false, Bool.false_eq_true, m_Reader_read, defJ, rd_p, at_vs, at_at, set_at, e1, e2, hs, f_i, sFldAugJ, sRetJ, finJ, finJr, sErrF, ns_cons, D.fix, D.pl, Bool.and_self, and_self, true_and, lt100, lt101, lt102]
  · have hlt : n < ds.length := (List.getElem?_eq_some_iff.mp hb).1
    have e2 : fEq (.int (n : Nat)) (.int (ds.length : Nat)) = some (.bl false) := by
      rw [f_eqI]
      have : ((n : Int) == (ds.length : Int)) = false := by simpa using (by omega : ¬ (n : Int) = ds.length)
      rw [this]
    have e3 : fIx (.lst ds) (.int (n : Nat)) = some b := f_ixL hb
    simp -implicitDefEqProofs only [defM, defR, lawM, fin, sSeq, sExpr, sAsg, sAsgB, sPat, sPatB, sOwn, sOwnB, sPar, sPar3, sRet, sRetN, sIf, sFor, sForB, sApp, sAppB, sExt, sExtB, sSet, sFz, sNext, sBreak, sCont, sAug, sAugL, sErrF, sErr, sParX, sParX3, agGo, Fl.next, Fl.turn, vB, ok1, okL, mVar, mC, mOp, mUn, mNil, mCons, mCB, mCBn, mCall, mTup, mLst, mNew, asB, cOf, cAnd, cOr, cNot, cYes, mAnd, mOr, mNot, mIf, mChain, oNone, asI, oSome, mOpN, mPt, iL, iT, mFld, mProp, mLenI, mSlT, mSlL, pName, pGo, pTup, pLst, wipeE, mIsT, mCallR, mDraw, isRow, look, M.bind_ret, M.bind_err, M.bind_bad, M.bind_draw, M.ofO_some, M.ofO_none, M.calm_ret, M.calm_bad, M.calm_draw, M.bind_assoc, M.wp_ret, List.length_cons, List.length_nil, List.map_cons, List.map_nil, List.replicate_zero, List.replicate_succ, List.cons_append, List.nil_append, List.set_cons_zero, List.set_cons_succ, List.getElem?_cons_zero, List.getElem?_cons_succ, Nat.reduceAdd, Nat.reduceSub, Nat.reduceLeDiff, Nat.reduceEqDiff, if_true, if_false, ite_true, ite_false, reduceIte, Bool.not_true, Bool.not_false, Bool.false_eq_true, m_Reader_read, defJ, rd_p, at_vs, at_at, set_at, e1, e2, e3, hn, hs, f_i, sFldAugJ, sRetJ, finJ, finJr, sErrF, ns_cons, D.fix, D.pl, Bool.and_self, and_self, true_and, lt100, lt101, lt102]
theorem x_read {v lo hi : Int} (B : Brk ds vs n) (hp : p ≤ n) (h : vs[p]? = some v) (h1 : lo ≤ v) (h2 : v ≤ hi) (h0 : 0 ≤ lo) (h3 : hi ≤ 255) (hq : p + 1 = vs.length → lo = hi) : Or1 (m_Reader_read A [.lst ds, .int (p : Nat)] [.int lo, .int hi]) (.int v, [.lst ds, .int ((p + 1 : Nat) : Int)]) (p + 1) n := by
  by_cases e : p = n
  · subst e
    have hlt : p < vs.length := (List.getElem?_eq_some_iff.mp h).1
    exact .inr (x_readE B.small (B.bad hlt lo hi h0 h3 fun q => by
      have := hq q
      have e : v = lo := by omega
      exact ⟨this, e ▸ h⟩))
  · exact .inl ⟨by omega, x_readD B (by omega) h h1 h2⟩
def mRd (A : Addr) (i : Nat) (m : Mi.Env → M (List D)) : XM := mCallJ i 1 Ns_Reader (m_Reader_read A) m
theorem rd {i : Nat} {ρ : Mi.Env} {m : Mi.Env → M (List D)} {v lo hi : Int} (hm : m ρ = .ret [.int lo, .int hi]) (hr : ρ[i]? = some (rdS A ds p)) (o : Or1 (m_Reader_read A [.lst ds, .int (p : Nat)] [.int lo, .int hi]) (.int v, [.lst ds, .int ((p + 1 : Nat) : Int)]) (p + 1) n) : Or1 (mRd A i m ρ) (ρ.set i (rdS A ds (p + 1)), .int v) (p + 1) n := by
  rcases o with ⟨h, o⟩ | o
  · refine .inl ⟨h, ?_⟩
    unfold mRd mCallJ
    rw [hr]
    simp -implicitDefEqProofs only [defM, defR, lawM, fin, sSeq, sExpr, sAsg, sAsgB, sPat, sPatB, sOwn, sOwnB, sPar, sPar3, sRet, sRetN, sIf, sFor, sForB, sApp, sAppB, sExt, sExtB, sSet, sFz, sNext, sBreak, sCont, sAug, sAugL, sErrF, sErr, sParX, sParX3, agGo, Fl.next, Fl.turn, vB, ok1, okL, mVar, mC, mOp, mUn, mNil, mCons, mCB, mCBn, mCall, mTup, mLst, mNew, asB, cOf, cAnd, cOr, cNot, cYes, mAnd, mOr, mNot, mIf, mChain, oNone, asI, oSome, mOpN, mPt, iL, iT, mFld, mProp, mLenI, mSlT, mSlL, pName, pGo, pTup, pLst, wipeE, mIsT, mCallR, mDraw, isRow, look, M.bind_ret, M.bind_err, M.bind_bad, M.bind_draw, M.ofO_some, M.ofO_none, M.calm_ret, M.calm_bad, M.calm_draw, M.bind_assoc, M.wp_ret, List.length_cons, List.length_nil, List.map_cons, List.map_nil, List.replicate_zero, List.replicate_succ, List.cons_append, List.nil_append, List.set_cons_zero, List.set_cons_succ, List.getElem?_cons_zero, List.getElem?_cons_succ, Nat.reduceAdd, Nat.reduceSub, Nat.reduceLeDiff, Nat.reduceEqDiff, if_true, if_false, ite_true, ite_false, reduceIte, Bool.not_true, Bool.not_false, Bool.false_eq_true, and_self, hm, o]
  · refine .inr ?_
    unfold mRd mCallJ
    rw [hr]
    simp -implicitDefEqProofs only [defM, defR, lawM, fin, sSeq, sExpr, sAsg, sAsgB, sPat, sPatB, sOwn, sOwnB, sPar, sPar3, sRet, sRetN, sIf, sFor, sForB, sApp, sAppB, sExt, sExtB, sSet, sFz, sNext, sBreak, sCont, sAug, sAugL, sErrF, sErr, sParX, sParX3, agGo, Fl.next, Fl.turn, vB, ok1, okL, mVar, mC, mOp, mUn, mNil, mCons, mCB, mCBn, mCall, mTup, mLst, mNew, asB, cOf, cAnd, cOr, cNot, cYes, mAnd, mOr, mNot, mIf, mChain, oNone, asI, oSome, mOpN, mPt, iL, iT, mFld, mProp, mLenI, mSlT, mSlL, pName, pGo, pTup, pLst, wipeE, mIsT, mCallR, mDraw, isRow, look, M.bind_ret, M.bind_err, M.bind_bad, M.bind_draw, M.ofO_some, M.ofO_none, M.calm_ret, M.calm_bad, M.calm_draw, M.bind_assoc, M.wp_ret, List.length_cons, List.length_nil, List.map_cons, List.map_nil, List.replicate_zero, List.replicate_succ, List.cons_append, List.nil_append, List.set_cons_zero, List.set_cons_succ, List.getElem?_cons_zero, List.getElem?_cons_succ, Nat.reduceAdd, Nat.reduceSub, Nat.reduceLeDiff, Nat.reduceEqDiff, if_true, if_false, ite_true, ite_false, reduceIte, Bool.not_true, Bool.not_false, Bool.false_eq_true, and_self, hm, o]
theorem x_end (B : Brk ds vs n) (hp : p ≤ n) (hq : p + 1 = vs.length) {v : Int} (h : vs[p]? = some v) (hv : v = chkI (vs.take p)) (h0 : 0 ≤ v) (h9 : v ≤ 255) : m_Reader_read_end A [.lst ds, .int (p : Nat)] [] = erN n := by
  have hn := B.len
  have hl := B.small
  have e1 : fLen [.lst ds] = some (.int (ds.length : Nat)) := f_lenL (by omega)
  have e2 : cutD ds none (some (p : Nat)) = iD (vs.take p) := by
    have := cut_to (α := D) id ds (i := (p : Nat)) (by omega)
    rw [List.map_id, List.map_id, Int.toNat_natCast] at this
    rw [this]
    have c := congrArg (List.take p) B.cut
    rw [List.take_take, Nat.min_eq_left hp] at c
    rw [c]
    show List.take p (List.map D.int (List.take n vs)) = _
    rw [← List.map_take, List.take_take, Nat.min_eq_left hp]
  have e4 : m_checksum_of [.lst (iD (vs.take p))] = .ret (.int v) := by rw [x_chk, hv]
  by_cases e : p = n
  · subst e
    have hlt : p < vs.length := by omega
    have r := x_readE (A := A) hl (B.bad hlt v v h0 h9 fun _ => ⟨rfl, h⟩)
    simp -implicitDefEqProofs only [defM, defR, lawM, fin, sSeq, sExpr, sAsg, sAsgB, sPat, sPatB, sOwn, sOwnB, sPar, sPar3, sRet, sRetN, sIf, sFor, sForB, sApp, sAppB, sExt, sExtB, sSet, sFz, sNext, sBreak, sCont, sAug, sAugL, sErrF, sErr, sParX, sParX3, agGo, Fl.next, Fl.turn, vB, ok1, okL, mVar, mC, mOp, mUn, mNil, mCons, mCB, mCBn, mCall, mTup, mLst, mNew, asB, cOf, cAnd, cOr, cNot, cYes, mAnd, mOr, mNot, mIf, mChain, oNone, asI, oSome, mOpN, mPt, iL, iT, mFld, mProp, mLenI, mSlT, mSlL, pName, pGo, pTup, pLst, wipeE, mIsT, mCallR, mDraw, isRow, look, M.bind_ret, M.bind_err, M.bind_bad, M.bind_draw, M.ofO_some, M.ofO_none, M.calm_ret, M.calm_bad, M.calm_draw, M.bind_assoc, M.wp_ret, List.length_cons, List.length_nil, List.map_cons, List.map_nil, List.replicate_zero, List.replicate_succ, List.cons_append, List.nil_append, List.set_cons_zero, List.set_cons_succ, List.getElem?_cons_zero, List.getElem?_cons_succ, Nat.reduceAdd, Nat.reduceSub, Nat.reduceLeDiff, Nat.reduceEqDiff, if_true, if_false, ite_true, ite_false, reduceIte, Bool.not_true, Bool.not_false, Bool.false_eq_true, m_Reader_read_end, defJ, rd_p, at_vs, at_at, set_at, e1, e2, e4, sExprX, mCallJ, r, finJ, finJn, ns_cons, D.fix, D.pl, Bool.and_self, and_self, true_and, lt100, lt101, lt102]
  · have en : n = p + 1 := by have := B.nle; omega
    subst en
    have r := x_readD (A := A) (lo := v) (hi := v) B (Nat.lt_succ_self p) h (Int.le_refl _) (Int.le_refl _)
    have e3 : fLt (.int ((p + 1 : Nat) : Int)) (.int (ds.length : Nat)) = some (.bl true) := by
      have : ((p + 1 : Nat) : Int) < (ds.length : Nat) := by have := B.more hq; omega
      exact congrArg (fun b => some (D.bl b)) (decide_eq_true this)
    have hs : shown (.int ((p + 1 : Nat) : Int)) = true := shown_nat (by omega)
    simp -implicitDefEqProofs only [defM, defR, lawM, fin, sSeq, sExpr, sAsg, sAsgB, sPat, sPatB, sOwn, sOwnB, sPar, sPar3, sRet, sRetN, sIf, sFor, sForB, sApp, sAppB, sExt, sExtB, sSet, sFz, sNext, sBreak, sCont, sAug, sAugL, sErrF, sErr, sParX, sParX3, agGo, Fl.next, Fl.turn, vB, ok1, okL, mVar, mC, mOp, mUn, mNil, mCons, mCB, mCBn, mCall, mTup, mLst, mNew, asB, cOf, cAnd, cOr, cNot, cYes, mAnd, mOr, mNot, mIf, mChain, oNone, asI, oSome, mOpN, mPt, iL, iT, mFld, mProp, mLenI, mSlT, mSlL, pName, pGo, pTup, pLst, wipeE, mIsT, mCallR, mDraw, isRow, look, M.bind_ret, M.bind_err, M.bind_bad, M.bind_draw, M.ofO_some, M.ofO_none, M.calm_ret, M.calm_bad, M.calm_draw, M.bind_assoc, M.wp_ret, List.length_cons, List.length_nil, List.map_cons, List.map_nil, List.replicate_zero, List.replicate_succ, List.cons_append, List.nil_append, List.set_cons_zero, List.set_cons_succ, List.getElem?_cons_zero, List.getElem?_cons_succ, Nat.reduceAdd, Nat.reduceSub, Nat.reduceLeDiff, Nat.reduceEqDiff, if_true, if_false, ite_true, ite_false, reduceIte, Bool.not_true, Bool.not_false, Bool.false_eq_true, m_Reader_read_end, defJ, rd_p, at_vs, at_at, set_at, e1, e2, e3, e4, hs, sExprX, mCallJ, r, finJ, finJn, sErrF, ns_cons, D.fix, D.pl, Bool.and_self, and_self, true_and, lt100, lt101, lt102]
theorem x_rinit : m_Reader___init__ A [.lst ds] = .ret (.ob A Ns_Reader [.lst ds, .int ((0 : Nat) : Int)]) := by
  simp -implicitDefEqProofs only [defM, defR, lawM, fin, sSeq, sExpr, sAsg, sAsgB, sPat, sPatB, sOwn, sOwnB, sPar, sPar3, sRet, sRetN, sIf, sFor, sForB, sApp, sAppB, sExt, sExtB, sSet, sFz, sNext, sBreak, sCont, sAug, sAugL, sErrF, sErr, sParX, sParX3, agGo, Fl.next, Fl.turn, vB, ok1, okL, mVar, mC, mOp, mUn, mNil, mCons, mCB, mCBn, mCall, mTup, mLst, mNew, asB, cOf, cAnd, cOr, cNot, cYes, mAnd, mOr, mNot, mIf, mChain, oNone, asI, oSome, mOpN, mPt, iL, iT, mFld, mProp, mLenI, mSlT, mSlL, pName, pGo, pTup, pLst, wipeE, mIsT, mCallR, mDraw, isRow, look, M.bind_ret, M.bind_err, M.bind_bad, M.bind_draw, M.ofO_some, M.ofO_none, M.calm_ret, M.calm_bad, M.calm_draw, M.bind_assoc, M.wp_ret, List.length_cons, List.length_nil, List.map_cons, List.map_nil, List.replicate_zero, List.replicate_succ, List.cons_append, List.nil_append, List.set_cons_zero, List.set_cons_succ, List.getElem?_cons_zero, List.getElem?_cons_succ, Nat.reduceAdd, Nat.reduceSub, Nat.reduceLeDiff, Nat.reduceEqDiff, if_true, if_false, ite_true, ite_false, reduceIte, Bool.not_true, Bool.not_false, Bool.false_eq_true, m_Reader___init__, defI, sFldA, finI, show P_Reader ["_values"] = true from by decide, show P_Reader ["_values", "_at"] = true from by decide, show (([] : List Str).contains "_values") = false from rfl, show ((["_values"] : List Str).contains "_at") = false from rfl, show (([] : List Str).length) = 0 from rfl, lt100, lt101, lt102, decide_true, Bool.and_self, Bool.not_false, List.isEmpty_cons, bne_self_eq_false, Bool.or_self, show (Str.ofString "_at" == "_values") = false from rfl]
  rfl
def mLet (A : Addr) : XM := xOp fIx (xOf (mC (.str "abcdefghijklmnopqrstuvwxyz"))) (xOp fSub (mRd A 0 (mCons (mC (.int 1)) (mCons (mCB fLen (mCons (mC (.str "abcdefghijklmnopqrstuvwxyz")) mNil)) mNil))) (xOf (mC (.int 1))))
theorem len26 : fLen [.str "abcdefghijklmnopqrstuvwxyz"] = some (.int 26) := by kernel_rfl
theorem x_let {ρ : Mi.Env} {v : Int} {c : Str} (B : Brk ds vs n) (hp : p ≤ n) (hr : ρ[(0 : Nat)]? = some (rdS A ds p)) (h : vs[p]? = some v) (h1 : 1 ≤ v) (h2 : v ≤ 26) (hq : p + 1 < vs.length) (hc : fIx (.str "abcdefghijklmnopqrstuvwxyz") (.int (v - 1)) = some (.str c)) : Or1 (mLet A ρ) (ρ.set 0 (rdS A ds (p + 1)), .str c) (p + 1) n := by
  have hm : (mCons (mC (.int 1)) (mCons (mCB fLen (mCons (mC (.str "abcdefghijklmnopqrstuvwxyz")) mNil)) mNil)) ρ = .ret [.int 1, .int 26] := by simp -implicitDefEqProofs only [defM, defR, lawM, fin, sSeq, sExpr, sAsg, sAsgB, sPat, sPatB, sOwn, sOwnB, sPar, sPar3, sRet, sRetN, sIf, sFor, sForB, sApp, sAppB, sExt, sExtB, sSet, sFz, sNext, sBreak, sCont, sAug, sAugL, sErrF, sErr, sParX, sParX3, agGo, Fl.next, Fl.turn, vB, ok1, okL, mVar, mC, mOp, mUn, mNil, mCons, mCB, mCBn, mCall, mTup, mLst, mNew, asB, cOf, cAnd, cOr, cNot, cYes, mAnd, mOr, mNot, mIf, mChain, oNone, asI, oSome, mOpN, mPt, iL, iT, mFld, mProp, mLenI, mSlT, mSlL, pName, pGo, pTup, pLst, wipeE, mIsT, mCallR, mDraw, isRow, look, M.bind_ret, M.bind_err, M.bind_bad, M.bind_draw, M.ofO_some, M.ofO_none, M.calm_ret, M.calm_bad, M.calm_draw, M.bind_assoc, M.wp_ret, List.length_cons, List.length_nil, List.map_cons, List.map_nil, List.replicate_zero, List.replicate_succ, List.cons_append, List.nil_append, List.set_cons_zero, List.set_cons_succ, List.getElem?_cons_zero, List.getElem?_cons_succ, Nat.reduceAdd, Nat.reduceSub, Nat.reduceLeDiff, Nat.reduceEqDiff, if_true, if_false, ite_true, ite_false, reduceIte, Bool.not_true, Bool.not_false, Bool.false_eq_true, len26]
  rcases rd (i := 0) hm hr (x_read (A := A) B hp h h1 h2 (by decide) (by decide) (by omega)) with ⟨q, o⟩ | o
  · refine .inl ⟨q, ?_⟩
    unfold mLet
    simp -implicitDefEqProofs only [defM, defR, lawM, fin, sSeq, sExpr, sAsg, sAsgB, sPat, sPatB, sOwn, sOwnB, sPar, sPar3, sRet, sRetN, sIf, sFor, sForB, sApp, sAppB, sExt, sExtB, sSet, sFz, sNext, sBreak, sCont, sAug, sAugL, sErrF, sErr, sParX, sParX3, agGo, Fl.next, Fl.turn, vB, ok1, okL, mVar, mC, mOp, mUn, mNil, mCons, mCB, mCBn, mCall, mTup, mLst, mNew, asB, cOf, cAnd, cOr, cNot, cYes, mAnd, mOr, mNot, mIf, mChain, oNone, asI, oSome, mOpN, mPt, iL, iT, mFld, mProp, mLenI, mSlT, mSlL, pName, pGo, pTup, pLst, wipeE, mIsT, mCallR, mDraw, isRow, look, M.bind_ret, M.bind_err, M.bind_bad, M.bind_draw, M.ofO_some, M.ofO_none, M.calm_ret, M.calm_bad, M.calm_draw, M.bind_assoc, M.wp_ret, List.length_cons, List.length_nil, List.map_cons, List.map_nil, List.replicate_zero, List.replicate_succ, List.cons_append, List.nil_append, List.set_cons_zero, List.set_cons_succ, List.getElem?_cons_zero, List.getElem?_cons_succ, Nat.reduceAdd, Nat.reduceSub, Nat.reduceLeDiff, Nat.reduceEqDiff, if_true, if_false, ite_true, ite_false, reduceIte, Bool.not_true, Bool.not_false, Bool.false_eq_true, xOp, xOf, o, f_i, hc]
  · refine .inr ?_
    unfold mLet
    simp -implicitDefEqProofs only [defM, defR, lawM, fin, sSeq, sExpr, sAsg, sAsgB, sPat, sPatB, sOwn, sOwnB, sPar, sPar3, sRet, sRetN, sIf, sFor, sForB, sApp, sAppB, sExt, sExtB, sSet, sFz, sNext, sBreak, sCont, sAug, sAugL, sErrF, sErr, sParX, sParX3, agGo, Fl.next, Fl.turn, vB, ok1, okL, mVar, mC, mOp, mUn, mNil, mCons, mCB, mCBn, mCall, mTup, mLst, mNew, asB, cOf, cAnd, cOr, cNot, cYes, mAnd, mOr, mNot, mIf, mChain, oNone, asI, oSome, mOpN, mPt, iL, iT, mFld, mProp, mLenI, mSlT, mSlL, pName, pGo, pTup, pLst, wipeE, mIsT, mCallR, mDraw, isRow, look, M.bind_ret, M.bind_err, M.bind_bad, M.bind_draw, M.ofO_some, M.ofO_none, M.calm_ret, M.calm_bad, M.calm_draw, M.bind_assoc, M.wp_ret, List.length_cons, List.length_nil, List.map_cons, List.map_nil, List.replicate_zero, List.replicate_succ, List.cons_append, List.nil_append, List.set_cons_zero, List.set_cons_succ, List.getElem?_cons_zero, List.getElem?_cons_succ, Nat.reduceAdd, Nat.reduceSub, Nat.reduceLeDiff, Nat.reduceEqDiff, if_true, if_false, ite_true, ite_false, reduceIte, Bool.not_true, Bool.not_false, Bool.false_eq_true, xOp, xOf, o]
end
end My

namespace My
open PySem L2 Cc Mi Wm
theorem drop_get {α : Type} {vs r : List α} {a : α} {n : Nat} (h : vs.drop n = a :: r) : vs[n]? = some a ∧ vs.drop (n + 1) = r := by
  refine ⟨?_, ?_⟩
  · have : (vs.drop n)[0]? = some a := by rw [h]; rfl
    rw [List.getElem?_drop] at this
    simpa using this
  · rw [← List.drop_drop, h]; rfl
theorem drop_len {α : Type} {vs r : List α} {n : Nat} (h : vs.drop n = r) : n + r.length ≤ vs.length ∨ r = [] := by
  have := congrArg List.length h
  rw [List.length_drop] at this
  cases r with
  | nil => exact .inr rfl
  | cons a r => simp at this ⊢; omega
def doorI (l : List (Int × Int)) : List Int := l.flatMap fun p => [p.1, p.2]
abbrev Wrd := List (Int × Str) × Str
def okL1 (p : Int × Str) : Bool := decide (1 ≤ p.1) && decide (p.1 ≤ 26) && (match fIx (.str "abcdefghijklmnopqrstuvwxyz") (.int (p.1 - 1)) with
  | some (.str c) => c == p.2
  | _ => false)
def okW (q : Wrd) : Bool := decide (1 ≤ q.1.length) && decide (q.1.length ≤ 8) && q.1.all okL1 && (Txt.join "" (q.1.map (·.2)) == q.2) && decide ((q.1.map (·.2.length)).sum ≤ 1000)
def wI (q : Wrd) : List Int := (q.1.length : Int) :: q.1.map (·.1)
def wsI (ws : List Wrd) : List Int := ws.flatMap wI
section
variable {A : Addr} {ds : List D} {vs : List Int} {rest : List Int} {n : Nat}
abbrev ar2 (lo hi : Int) : Mi.Env → M (List D) := mCons (mC (.int lo)) (mCons (mC (.int hi)) mNil)
theorem ar2_ret {lo hi : Int} {ρ : Mi.Env} : ar2 lo hi ρ = .ret [.int lo, .int hi] := rfl
def dB (A : Addr) : Mi.Env → M Fl := sSeq (sAsgX 5 (mRd A 1 (ar2 1 99))) (sAppX 2 (xTup (xCons (xOf (mVar 5)) (xCons (mRd A 1 (ar2 1 4)) xNil))))
theorem one_door {p : Nat} {w k : Int} {acc : List D} {r0 r3 r4 r5 r6 r7 : Sl} (B : Brk ds vs n) (hp : p ≤ n) (h1 : vs[p]? = some w) (h2 : vs[p + 1]? = some k) (hw : 1 ≤ w ∧ w ≤ 99) (hk : 1 ≤ k ∧ k ≤ 4) (hq : p + 2 < vs.length) (hd : acc.length < 1000) :
    Or1 (dB A [r0, rdS A ds p, .own acc, r3, r4, r5, r6, r7]) (.nx [r0, rdS A ds (p + 2), .own (acc ++ [dT (w, k)]), r3, r4, .dat (.int w), r6, r7]) (p + 2) n := by
  have e3 : acc.length < 100000 := by omega
  have e4 : (2 : Nat) ≤ 100000 := by omega
  rcases rd (A := A) (i := 1) (ρ := [r0, rdS A ds p, .own acc, r3, r4, r5, r6, r7]) (lo := 1) (hi := 99) ar2_ret rfl (x_read (A := A) B hp h1 hw.1 hw.2 (by decide) (by decide) (by omega)) with ⟨q, e1⟩ | e1
  · rw [List.set_cons_succ, List.set_cons_zero] at e1
    rcases rd (A := A) (i := 1) (ρ := [r0, rdS A ds (p + 1), .own acc, r3, r4, .dat (.int w), r6, r7]) (lo := 1) (hi := 4) ar2_ret rfl (x_read (A := A) B q h2 hk.1 hk.2 (by decide) (by decide) (by omega)) with ⟨q2, e2⟩ | e2
    · rw [List.set_cons_succ, List.set_cons_zero] at e2
      refine .inl ⟨q2, ?_⟩
      unfold dB
      simp -implicitDefEqProofs only [defM, defR, lawM, fin, sSeq, sExpr, sAsg, sAsgB, sPat, sPatB, sOwn, sOwnB, sPar, sPar3, sRet, sRetN, sIf, sFor, sForB, sApp, sAppB, sExt, sExtB, sSet, sFz, sNext, sBreak, sCont, sAug, sAugL, sErrF, sErr, sParX, sParX3, agGo, Fl.next, Fl.turn, vB, ok1, okL, mVar, mC, mOp, mUn, mNil, mCons, mCB, mCBn, mCall, mTup, mLst, mNew, asB, cOf, cAnd, cOr, cNot, cYes, mAnd, mOr, mNot, mIf, mChain, oNone, asI, oSome, mOpN, mPt, iL, iT, mFld, mProp, mLenI, mSlT, mSlL, pName, pGo, pTup, pLst, wipeE, mIsT, mCallR, mDraw, isRow, look, M.bind_ret, M.bind_err, M.bind_bad, M.bind_draw, M.ofO_some, M.ofO_none, M.calm_ret, M.calm_bad, M.calm_draw, M.bind_assoc, M.wp_ret, List.length_cons, List.length_nil, List.map_cons, List.map_nil, List.replicate_zero, List.replicate_succ, List.cons_append, List.nil_append, List.set_cons_zero, List.set_cons_succ, List.getElem?_cons_zero, List.getElem?_cons_succ, Nat.reduceAdd, Nat.reduceSub, Nat.reduceLeDiff, Nat.reduceEqDiff, if_true, if_false, ite_true, ite_false, reduceIte, Bool.not_true, Bool.not_false, Bool.false_eq_true, sAsgX, sAppX, xTup, xCons, xNil, xOf, e1, e2, e3, e4]
      rfl
    · refine .inr ?_
      unfold dB
      simp -implicitDefEqProofs only [defM, defR, lawM, fin, sSeq, sExpr, sAsg, sAsgB, sPat, sPatB, sOwn, sOwnB, sPar, sPar3, sRet, sRetN, sIf, sFor, sForB, sApp, sAppB, sExt, sExtB, sSet, sFz, sNext, sBreak, sCont, sAug, sAugL, sErrF, sErr, sParX, sParX3, agGo, Fl.next, Fl.turn, vB, ok1, okL, mVar, mC, mOp, mUn, mNil, mCons, mCB, mCBn, mCall, mTup, mLst, mNew, asB, cOf, cAnd, cOr, cNot, cYes, mAnd, mOr, mNot, mIf, mChain, oNone, asI, oSome, mOpN, mPt, iL, iT, mFld, mProp, mLenI, mSlT, mSlL, pName, pGo, pTup, pLst, wipeE, mIsT, mCallR, mDraw, isRow, look, M.bind_ret, M.bind_err, M.bind_bad, M.bind_draw, M.ofO_some, M.ofO_none, M.calm_ret, M.calm_bad, M.calm_draw, M.bind_assoc, M.wp_ret, List.length_cons, List.length_nil, List.map_cons, List.map_nil, List.replicate_zero, List.replicate_succ, List.cons_append, List.nil_append, List.set_cons_zero, List.set_cons_succ, List.getElem?_cons_zero, List.getElem?_cons_succ, Nat.reduceAdd, Nat.reduceSub, Nat.reduceLeDiff, Nat.reduceEqDiff, if_true, if_false, ite_true, ite_false, reduceIte, Bool.not_true, Bool.not_false, Bool.false_eq_true, sAsgX, sAppX, xTup, xCons, xNil, xOf, e1, e2, e3, e4]
  · refine .inr ?_
    unfold dB
    simp -implicitDefEqProofs only [defM, defR, lawM, fin, sSeq, sExpr, sAsg, sAsgB, sPat, sPatB, sOwn, sOwnB, sPar, sPar3, sRet, sRetN, sIf, sFor, sForB, sApp, sAppB, sExt, sExtB, sSet, sFz, sNext, sBreak, sCont, sAug, sAugL, sErrF, sErr, sParX, sParX3, agGo, Fl.next, Fl.turn, vB, ok1, okL, mVar, mC, mOp, mUn, mNil, mCons, mCB, mCBn, mCall, mTup, mLst, mNew, asB, cOf, cAnd, cOr, cNot, cYes, mAnd, mOr, mNot, mIf, mChain, oNone, asI, oSome, mOpN, mPt, iL, iT, mFld, mProp, mLenI, mSlT, mSlL, pName, pGo, pTup, pLst, wipeE, mIsT, mCallR, mDraw, isRow, look, M.bind_ret, M.bind_err, M.bind_bad, M.bind_draw, M.ofO_some, M.ofO_none, M.calm_ret, M.calm_bad, M.calm_draw, M.bind_assoc, M.wp_ret, List.length_cons, List.length_nil, List.map_cons, List.map_nil, List.replicate_zero, List.replicate_succ, List.cons_append, List.nil_append, List.set_cons_zero, List.set_cons_succ, List.getElem?_cons_zero, List.getElem?_cons_succ, Nat.reduceAdd, Nat.reduceSub, Nat.reduceLeDiff, Nat.reduceEqDiff, if_true, if_false, ite_true, ite_false, reduceIte, Bool.not_true, Bool.not_false, Bool.false_eq_true, sAsgX, sAppX, xTup, xCons, xNil, xOf, e1, e3, e4]
theorem doors_run (B : Brk ds vs n) {r0 r3 r6 r7 : Sl} : ∀ (l : List (Int × Int)) (p : Nat) (acc es : List D) (r4 r5 : Sl), p ≤ n → es.length = l.length → vs.drop p = doorI l ++ rest → rest ≠ [] → (∀ p ∈ l, (1 ≤ p.1 ∧ p.1 ≤ 99) ∧ 1 ≤ p.2 ∧ p.2 ≤ 4) → acc.length + l.length < 1000 →
    ∃ r4' r5', Or1 (forGo (pName 4) (dB A) es [r0, rdS A ds p, .own acc, r3, r4, r5, r6, r7]) (.nx [r0, rdS A ds (p + 2 * l.length), .own (acc ++ l.map dT), r3, r4', r5', r6, r7]) (p + 2 * l.length) n
  | [], p, acc, es, r4, r5, hp, he, _, _, _, _ => by
    obtain rfl := List.length_eq_zero_iff.mp he
    exact ⟨r4, r5, .inl ⟨by simpa using hp, by simp [forGo]⟩⟩
  | d :: l, p, acc, es, r4, r5, hp, he, hv, hr, hg, hd => by
    cases es with
    | nil => cases he
    | cons e es =>
      have hv' : vs.drop p = d.1 :: d.2 :: (doorI l ++ rest) := hv
      obtain ⟨a1, a2⟩ := drop_get hv'
      obtain ⟨a3, a4⟩ := drop_get a2
      have g := hg d (by simp)
      have hd' : acc.length + (l.length + 1) < 1000 := hd
      have hq : p + 2 < vs.length := by
        rcases drop_len hv' with h | h
        · simp at h
          have : 0 < rest.length := List.length_pos_iff.mpr hr
          omega
        · cases h
      have s1 : pName 4 e [r0, rdS A ds p, .own acc, r3, r4, r5, r6, r7] = some [r0, rdS A ds p, .own acc, r3, .dat e, r5, r6, r7] := rfl
      rcases one_door (A := A) (acc := acc) (r0 := r0) (r3 := r3) (r4 := .dat e) (r5 := r5) (r6 := r6) (r7 := r7) B hp a1 a3 g.1 g.2 hq (by omega) with ⟨q, o⟩ | o
      · obtain ⟨r4', r5', ih⟩ := doors_run B l (p + 2) (acc ++ [dT d]) es (.dat e) (.dat (.int d.1)) q (by simpa using he) a4 hr (fun q hq => hg q (List.mem_cons_of_mem _ hq)) (by simp; omega)
        refine ⟨r4', r5', ?_⟩
        rw [List.length_cons, List.map_cons, show p + 2 * (l.length + 1) = p + 2 + 2 * l.length by omega, forGo, s1]
        dsimp only
        rw [o, M.bind_ret]
        show Or1 (forGo (pName 4) (dB A) es _) _ _ _
        rw [List.append_assoc] at ih
        exact ih
      · refine ⟨r4, r5, .inr ?_⟩
        rw [forGo, s1]
        dsimp only
        rw [o]
        rfl
theorem x_lets (B : Brk ds vs n) {s1 : Sl} (hr : rest ≠ []) : ∀ (ks : List (Int × Str)) (p : Nat) (es : List D), p ≤ n → es.length = ks.length → vs.drop p = ks.map (·.1) ++ rest → ks.all okL1 = true → Or1 (lcGoX (pName 2) (mLet A) [2] es [rdS A ds p, s1, .no]) ([rdS A ds (p + ks.length), s1, .no], ks.map fun p => .str p.2) (p + ks.length) n
  | [], p, es, hp, he, _, _ => by
    obtain rfl := List.length_eq_zero_iff.mp he
    exact .inl ⟨hp, rfl⟩
  | k :: ks, p, es, hp, he, hv, hg => by
    cases es with
    | nil => cases he
    | cons e es =>
      obtain ⟨a1, a2⟩ := drop_get (show vs.drop p = k.1 :: (ks.map (·.1) ++ rest) from hv)
      rw [List.all_cons, Bool.and_eq_true] at hg
      have g := hg.1
      unfold okL1 at g
      simp only [Bool.and_eq_true, decide_eq_true_eq] at g
      obtain ⟨⟨g1, g2⟩, g3⟩ := g
      have g4 : fIx (.str "abcdefghijklmnopqrstuvwxyz") (.int (k.1 - 1)) = some (.str k.2) := by
        split at g3
        · rename_i c hc; rw [hc, eq_of_beq g3]
        · cases g3
      have hq : p + 1 < vs.length := by
        rcases drop_len hv with h | h
        · simp at h
          have : 0 < rest.length := List.length_pos_iff.mpr hr
          omega
        · simp at h
      have s2 : pName 2 e [rdS A ds p, s1, .no] = some [rdS A ds p, s1, .dat e] := rfl
      rcases x_let (A := A) (ρ := [rdS A ds p, s1, .dat e]) B hp rfl a1 g1 g2 hq g4 with ⟨q, s3⟩ | s3
      · have s4 : wipeE (List.set [rdS A ds p, s1, Sl.dat e] 0 (rdS A ds (p + 1))) [2] = [rdS A ds (p + 1), s1, .no] := rfl
        rcases x_lets B hr ks (p + 1) es q (by simpa using he) a2 hg.2 (s1 := s1) with ⟨q2, ih⟩ | ih
        · refine .inl ⟨by rw [List.length_cons]; omega, ?_⟩
          rw [lcGoX, s2]
          dsimp only
          rw [s3, M.bind_ret]
          dsimp only
          rw [s4, ih, M.bind_ret, List.length_cons, show p + (ks.length + 1) = p + 1 + ks.length by omega]
          rfl
        · refine .inr ?_
          rw [lcGoX, s2]
          dsimp only
          rw [s3, M.bind_ret]
          dsimp only
          rw [s4, ih]
          rfl
      · refine .inr ?_
        rw [lcGoX, s2]
        dsimp only
        rw [s3]
        rfl
theorem x_word (B : Brk ds vs n) (hr : rest ≠ []) {q : Wrd} {p : Nat} (hp : p ≤ n) (hq : okW q = true) (hv : vs.drop p = wI q ++ rest) : Or1 (m_read_word A [.lst ds, .int (p : Nat)] []) (.str q.2, [.lst ds, .int ((p + (wI q).length : Nat) : Int)]) (p + (wI q).length) n := by
  unfold okW at hq
  simp only [Bool.and_eq_true, decide_eq_true_eq] at hq
  obtain ⟨⟨⟨⟨h1, h2⟩, h3⟩, h4⟩, h5⟩ := hq
  obtain ⟨a1, a2⟩ := drop_get (show vs.drop p = (q.1.length : Int) :: (q.1.map (·.1) ++ rest) from hv)
  have hlt : p + 1 < vs.length := by
    rcases drop_len a2 with h | h
    · have : 0 < rest.length := List.length_pos_iff.mpr hr
      simp at h
      omega
    · simp at h
      exact absurd h.2 hr
  have e2 : rgOk 0 (q.1.length : Int) = true := rg_ok' (by omega)
  have e4 : (rgD 0 (q.1.length : Int)).length ≤ 100000 := by rw [rgD_nat]; simp; omega
  have e5 : fJoin (.str "") [.lst (q.1.map fun p => .str p.2)] = some (.str q.2) := by
    have := f_join (x := "") (ys := q.1.map (·.2)) (by
      have e0 : ("" : Str).length = 0 := rfl
      rw [e0, List.map_map]
      have : (q.1.map ((·.length) ∘ fun x => x.2)).sum = (q.1.map (·.2.length)).sum := rfl
      omega)
    rw [List.map_map, eq_of_beq h4] at this
    exact this
  rcases rd (A := A) (i := 0) (ρ := [rdS A ds p, .no, .no]) (lo := 1) (hi := 8) ar2_ret rfl (x_read (A := A) B hp a1 (by omega) (by omega) (by decide) (by decide) (by omega)) with ⟨q1, e1⟩ | e1
  · rw [List.set_cons_zero] at e1
    unfold mRd at e1
    rcases x_lets (A := A) B hr (s1 := .dat (.int (q.1.length : Int))) q.1 (p + 1) (rgD 0 (q.1.length : Int)) q1 (by rw [rgD_nat]; simp) a2 h3 with ⟨q2, e3⟩ | e3
    · unfold mLet mRd at e3
      have el : (wI q).length = q.1.length + 1 := by unfold wI; simp
      refine .inl ⟨by rw [el]; omega, ?_⟩
      simp -implicitDefEqProofs only [defM, defR, lawM, fin, sSeq, sExpr, sAsg, sAsgB, sPat, sPatB, sOwn, sOwnB, sPar, sPar3, sRet, sRetN, sIf, sFor, sForB, sApp, sAppB, sExt, sExtB, sSet, sFz, sNext, sBreak, sCont, sAug, sAugL, sErrF, sErr, sParX, sParX3, agGo, Fl.next, Fl.turn, vB, ok1, okL, mVar, mC, mOp, mUn, mNil, mCons, mCB, mCBn, mCall, mTup, mLst, mNew, asB, cOf, cAnd, cOr, cNot, cYes, mAnd, mOr, mNot, mIf, mChain, oNone, asI, oSome, mOpN, mPt, iL, iT, mFld, mProp, mLenI, mSlT, mSlL, pName, pGo, pTup, pLst, wipeE, mIsT, mCallR, mDraw, isRow, look, M.bind_ret, M.bind_err, M.bind_bad, M.bind_draw, M.ofO_some, M.ofO_none, M.calm_ret, M.calm_bad, M.calm_draw, M.bind_assoc, M.wp_ret, List.length_cons, List.length_nil, List.map_cons, List.map_nil, List.replicate_zero, List.replicate_succ, List.cons_append, List.nil_append, List.set_cons_zero, List.set_cons_succ, List.getElem?_cons_zero, List.getElem?_cons_succ, Nat.reduceAdd, Nat.reduceSub, Nat.reduceLeDiff, Nat.reduceEqDiff, if_true, if_false, ite_true, ite_false, reduceIte, Bool.not_true, Bool.not_false, Bool.false_eq_true, m_read_word, defJ, sAsgX, e1, sRetX, xMt, xOf, xCons, xNil, xNew, xLc, rg1, e2, e4, e3, e5, finJ, finJr, and_self]
      rw [el, show p + 1 + q.1.length = p + (q.1.length + 1) by omega]
    · unfold mLet mRd at e3
      refine .inr ?_
      simp -implicitDefEqProofs only [defM, defR, lawM, fin, sSeq, sExpr, sAsg, sAsgB, sPat, sPatB, sOwn, sOwnB, sPar, sPar3, sRet, sRetN, sIf, sFor, sForB, sApp, sAppB, sExt, sExtB, sSet, sFz, sNext, sBreak, sCont, sAug, sAugL, sErrF, sErr, sParX, sParX3, agGo, Fl.next, Fl.turn, vB, ok1, okL, mVar, mC, mOp, mUn, mNil, mCons, mCB, mCBn, mCall, mTup, mLst, mNew, asB, cOf, cAnd, cOr, cNot, cYes, mAnd, mOr, mNot, mIf, mChain, oNone, asI, oSome, mOpN, mPt, iL, iT, mFld, mProp, mLenI, mSlT, mSlL, pName, pGo, pTup, pLst, wipeE, mIsT, mCallR, mDraw, isRow, look, M.bind_ret, M.bind_err, M.bind_bad, M.bind_draw, M.ofO_some, M.ofO_none, M.calm_ret, M.calm_bad, M.calm_draw, M.bind_assoc, M.wp_ret, List.length_cons, List.length_nil, List.map_cons, List.map_nil, List.replicate_zero, List.replicate_succ, List.cons_append, List.nil_append, List.set_cons_zero, List.set_cons_succ, List.getElem?_cons_zero, List.getElem?_cons_succ, Nat.reduceAdd, Nat.reduceSub, Nat.reduceLeDiff, Nat.reduceEqDiff, if_true, if_false, ite_true, ite_false, reduceIte, Bool.not_true, Bool.not_false, Bool.false_eq_true, m_read_word, defJ, sAsgX, e1, sRetX, xMt, xOf, xCons, xNil, xNew, xLc, rg1, e2, e4, e3, e5, finJ, finJr, and_self]
  · unfold mRd at e1
    refine .inr ?_
    simp -implicitDefEqProofs only [defM, defR, lawM, fin, sSeq, sExpr, sAsg, sAsgB, sPat, sPatB, sOwn, sOwnB, sPar, sPar3, sRet, sRetN, sIf, sFor, sForB, sApp, sAppB, sExt, sExtB, sSet, sFz, sNext, sBreak, sCont, sAug, sAugL, sErrF, sErr, sParX, sParX3, agGo, Fl.next, Fl.turn, vB, ok1, okL, mVar, mC, mOp, mUn, mNil, mCons, mCB, mCBn, mCall, mTup, mLst, mNew, asB, cOf, cAnd, cOr, cNot, cYes, mAnd, mOr, mNot, mIf, mChain, oNone, asI, oSome, mOpN, mPt, iL, iT, mFld, mProp, mLenI, mSlT, mSlL, pName, pGo, pTup, pLst, wipeE, mIsT, mCallR, mDraw, isRow, look, M.bind_ret, M.bind_err, M.bind_bad, M.bind_draw, M.ofO_some, M.ofO_none, M.calm_ret, M.calm_bad, M.calm_draw, M.bind_assoc, M.wp_ret, List.length_cons, List.length_nil, List.map_cons, List.map_nil, List.replicate_zero, List.replicate_succ, List.cons_append, List.nil_append, List.set_cons_zero, List.set_cons_succ, List.getElem?_cons_zero, List.getElem?_cons_succ, Nat.reduceAdd, Nat.reduceSub, Nat.reduceLeDiff, Nat.reduceEqDiff, if_true, if_false, ite_true, ite_false, reduceIte, Bool.not_true, Bool.not_false, Bool.false_eq_true, m_read_word, defJ, sAsgX, e1, sRetX, xMt, xOf, xCons, xNil, xNew, xLc, rg1, finJ, finJr, and_self]
def wB (A : Addr) : Mi.Env → M Fl := sAppX 6 (mCallJ 1 1 Ns_Reader (m_read_word A) mNil)
theorem words_run (B : Brk ds vs n) (hr : rest ≠ []) {r0 r2 r3 r5 r7 : Sl} : ∀ (ws : List Wrd) (p : Nat) (acc es : List D) (r4 : Sl), p ≤ n → es.length = ws.length → vs.drop p = wsI ws ++ rest → ws.all okW = true → acc.length + ws.length < 1000 →
    ∃ r4', Or1 (forGo (pName 4) (wB A) es [r0, rdS A ds p, r2, r3, r4, r5, .own acc, r7]) (.nx [r0, rdS A ds (p + (wsI ws).length), r2, r3, r4', r5, .own (acc ++ ws.map fun q => .str q.2), r7]) (p + (wsI ws).length) n
  | [], p, acc, es, r4, hp, he, _, _, _ => by
    obtain rfl := List.length_eq_zero_iff.mp he
    exact ⟨r4, .inl ⟨by simpa [wsI] using hp, by simp [forGo, wsI]⟩⟩
  | q :: ws, p, acc, es, r4, hp, he, hv, hg, hd => by
    cases es with
    | nil => cases he
    | cons e es =>
      have hv' : vs.drop p = wI q ++ (wsI ws ++ rest) := by rw [hv]; simp [wsI]
      rw [List.all_cons, Bool.and_eq_true] at hg
      have hd' : acc.length + (ws.length + 1) < 1000 := hd
      have a2 : vs.drop (p + (wI q).length) = wsI ws ++ rest := by rw [← List.drop_drop, hv', List.drop_left]
      have s1 : pName 4 e [r0, rdS A ds p, r2, r3, r4, r5, .own acc, r7] = some [r0, rdS A ds p, r2, r3, .dat e, r5, .own acc, r7] := rfl
      have e3 : acc.length < 100000 := by omega
      rcases x_word (A := A) B (by simp [hr]) hp hg.1 hv' with ⟨q1, o⟩ | o
      · obtain ⟨r4', ih⟩ := words_run B hr ws (p + (wI q).length) (acc ++ [.str q.2]) es (.dat e) q1 (by simpa using he) a2 hg.2 (by simp; omega)
        refine ⟨r4', ?_⟩
        have s2 : wB A [r0, rdS A ds p, r2, r3, .dat e, r5, .own acc, r7] = .ret (.nx [r0, rdS A ds (p + (wI q).length), r2, r3, .dat e, r5, .own (acc ++ [.str q.2]), r7]) := by
          unfold wB
          simp -implicitDefEqProofs only [defM, defR, lawM, fin, sSeq, sExpr, sAsg, sAsgB, sPat, sPatB, sOwn, sOwnB, sPar, sPar3, sRet, sRetN, sIf, sFor, sForB, sApp, sAppB, sExt, sExtB, sSet, sFz, sNext, sBreak, sCont, sAug, sAugL, sErrF, sErr, sParX, sParX3, agGo, Fl.next, Fl.turn, vB, ok1, okL, mVar, mC, mOp, mUn, mNil, mCons, mCB, mCBn, mCall, mTup, mLst, mNew, asB, cOf, cAnd, cOr, cNot, cYes, mAnd, mOr, mNot, mIf, mChain, oNone, asI, oSome, mOpN, mPt, iL, iT, mFld, mProp, mLenI, mSlT, mSlL, pName, pGo, pTup, pLst, wipeE, mIsT, mCallR, mDraw, isRow, look, M.bind_ret, M.bind_err, M.bind_bad, M.bind_draw, M.ofO_some, M.ofO_none, M.calm_ret, M.calm_bad, M.calm_draw, M.bind_assoc, M.wp_ret, List.length_cons, List.length_nil, List.map_cons, List.map_nil, List.replicate_zero, List.replicate_succ, List.cons_append, List.nil_append, List.set_cons_zero, List.set_cons_succ, List.getElem?_cons_zero, List.getElem?_cons_succ, Nat.reduceAdd, Nat.reduceSub, Nat.reduceLeDiff, Nat.reduceEqDiff, if_true, if_false, ite_true, ite_false, reduceIte, Bool.not_true, Bool.not_false, Bool.false_eq_true, sAppX, mCallJ, and_self, o, e3]
        have e4 : p + (wsI (q :: ws)).length = p + (wI q).length + (wsI ws).length := by simp [wsI]; omega
        rw [forGo, s1, e4, List.map_cons]
        dsimp only
        rw [s2, M.bind_ret]
        show Or1 (forGo (pName 4) (wB A) es _) _ _ _
        rw [List.append_assoc] at ih
        exact ih
      · refine ⟨r4, .inr ?_⟩
        have s2 : wB A [r0, rdS A ds p, r2, r3, .dat e, r5, .own acc, r7] = erN n := by
          unfold wB
          simp -implicitDefEqProofs only [defM, defR, lawM, fin, sSeq, sExpr, sAsg, sAsgB, sPat, sPatB, sOwn, sOwnB, sPar, sPar3, sRet, sRetN, sIf, sFor, sForB, sApp, sAppB, sExt, sExtB, sSet, sFz, sNext, sBreak, sCont, sAug, sAugL, sErrF, sErr, sParX, sParX3, agGo, Fl.next, Fl.turn, vB, ok1, okL, mVar, mC, mOp, mUn, mNil, mCons, mCB, mCBn, mCall, mTup, mLst, mNew, asB, cOf, cAnd, cOr, cNot, cYes, mAnd, mOr, mNot, mIf, mChain, oNone, asI, oSome, mOpN, mPt, iL, iT, mFld, mProp, mLenI, mSlT, mSlL, pName, pGo, pTup, pLst, wipeE, mIsT, mCallR, mDraw, isRow, look, M.bind_ret, M.bind_err, M.bind_bad, M.bind_draw, M.ofO_some, M.ofO_none, M.calm_ret, M.calm_bad, M.calm_draw, M.bind_assoc, M.wp_ret, List.length_cons, List.length_nil, List.map_cons, List.map_nil, List.replicate_zero, List.replicate_succ, List.cons_append, List.nil_append, List.set_cons_zero, List.set_cons_succ, List.getElem?_cons_zero, List.getElem?_cons_succ, Nat.reduceAdd, Nat.reduceSub, Nat.reduceLeDiff, Nat.reduceEqDiff, if_true, if_false, ite_true, ite_false, reduceIte, Bool.not_true, Bool.not_false, Bool.false_eq_true, sAppX, mCallJ, and_self, o, e3]
        rw [forGo, s1]
        dsimp only
        rw [s2]
        rfl
end
end My

namespace My
open PySem L2 Cc Mi Wm
def words3 : List Wrd := [([(6, "f"), (9, "i"), (7, "g")], "fig"), ([(11, "k"), (9, "i"), (23, "w"), (9, "i")], "kiwi"), ([(16, "p"), (12, "l"), (21, "u"), (13, "m")], "plum")]
def itI (l : List (Int × Int)) (m : Nat) : List Int := 71 :: (l.length : Int) :: (doorI l ++ (m : Int) :: wsI (words3.take m))
def valI (l : List (Int × Int)) (m : Nat) : List Int := itI l m ++ [chkI (itI l m)]
theorem door_len (l : List (Int × Int)) : (doorI l).length = 2 * l.length := by
  induction l with
  | nil => rfl
  | cons p l ih =>
    unfold doorI at ih ⊢
    simp only [List.flatMap_cons, List.length_append, ih, List.length_cons, List.length_nil]
    omega
theorem seq_nx {a b : Mi.Env → M Fl} {ρ ρ' : Mi.Env} (h : a ρ = .ret (.nx ρ')) : sSeq a b ρ = b ρ' := by
  unfold sSeq
  rw [h]
  rfl
theorem seq_or {a b : Mi.Env → M Fl} {ρ ρ' : Mi.Env} {p n : Nat} (h : Or1 (a ρ) (.nx ρ') p n) (k : p ≤ n → b ρ' = erN n) : sSeq a b ρ = erN n := by
  rcases h with ⟨q, h⟩ | h
  · rw [seq_nx h]; exact k q
  · unfold sSeq
    rw [h]
    rfl
theorem for_or {mi : Mi.Env → M (List D)} {q : Pat} {b : Mi.Env → M Fl} {ρ ρ' : Mi.Env} {es : List D} {p n : Nat} (h : mi ρ = .ret es) (k : Or1 (forGo q b es ρ) (.nx ρ') p n) : Or1 (sFor mi q b ρ) (.nx ρ') p n := by
  unfold sFor
  rw [h]
  exact k
theorem rg_run {m : Mi.Env → M D} {ρ : Mi.Env} {n : Nat} (h : m ρ = .ret (.int (n : Int))) (hn : n ≤ 1000) : rg1 m ρ = .ret (rgD 0 (n : Int)) := by
  unfold rg1
  rw [h]
  exact if_pos (rg_ok' (by omega))
theorem words_ok {m : Nat} (h1 : 1 ≤ m) (h3 : m ≤ 3) : (words3.take m).all okW = true := by
  have hk : m = 1 ∨ m = 2 ∨ m = 3 := by omega
  rcases hk with rfl | rfl | rfl <;> decide +kernel
theorem words_cr {m : Nat} (h1 : 1 ≤ m) (h3 : m ≤ 3) : ((words3.take m).map fun q => D.str q.2) = crD m ∧ (words3.take m).length = m ∧ (wsI (words3.take m)).length ≤ 100 := by
  have hk : m = 1 ∨ m = 2 ∨ m = 3 := by omega
  rcases hk with rfl | rfl | rfl <;> exact ⟨rfl, rfl, by decide⟩
theorem chk_rng : ∀ (is : List Int) (c : Int), 0 ≤ c → c ≤ 250 → 0 ≤ is.foldl stI c ∧ is.foldl stI c ≤ 250
  | [], c, h0, h1 => ⟨h0, h1⟩
  | v :: is, c, h0, h1 => chk_rng is (stI c v) (Int.emod_nonneg _ (by decide)) (by
    have := Int.emod_lt_of_pos (11 * c + v) (show (0 : Int) < 251 by decide)
    unfold stI
    omega)
theorem or_map {α β : Type} {m : M α} {a : α} {p n : Nat} {f : α → M β} {b : β} (h : Or1 m a p n) (k : f a = .ret b) : Or1 (m.bind f) b p n := by
  rcases h with ⟨q, h⟩ | h
  · exact .inl ⟨q, by rw [h, M.bind_ret, k]⟩
  · exact .inr (by rw [h]; rfl)
theorem x_decE {C A : Addr} {l : List (Int × Int)} {m n : Nat} {ds : List D} (G : GoodL l m) (B : Brk ds (valI l m) n) : m_decode_store C A [.lst ds] = erN n := by
  obtain ⟨w1, w2, w3⟩ := words_cr G.m1 G.m3
  generalize hvs : valI l m = vs at B
  have hll := G.hi
  have hlo := G.lo
  have hlen : vs.length = 4 + 2 * l.length + (wsI (words3.take m)).length := by
    rw [← hvs]
    unfold valI itI
    simp only [List.length_append, List.length_cons, List.length_nil, door_len]
    omega
  have v0 : vs.drop 0 = 71 :: (l.length : Int) :: (doorI l ++ ((m : Int) :: (wsI (words3.take m) ++ [chkI (itI l m)]))) := by
    rw [← hvs]; simp [valI, itI]
  obtain ⟨a0, b0⟩ := drop_get v0
  obtain ⟨a1, b1⟩ := drop_get b0
  have b2 : vs.drop (2 + 2 * l.length) = (m : Int) :: (wsI (words3.take m) ++ [chkI (itI l m)]) := by
    rw [← List.drop_drop, show vs.drop 2 = _ from b1, List.drop_left' (door_len l)]
  obtain ⟨a3, b3⟩ := drop_get b2
  have b4 : vs.drop (2 + 2 * l.length + 1 + (wsI (words3.take m)).length) = [chkI (itI l m)] := by
    rw [← List.drop_drop, b3, List.drop_left]
  obtain ⟨a5, _⟩ := drop_get b4
  have htake : vs.take (2 + 2 * l.length + 1 + (wsI (words3.take m)).length) = itI l m := by
    rw [← hvs]
    unfold valI
    rw [List.take_left']
    unfold itI
    simp only [List.length_append, List.length_cons, door_len]
    omega
  have s1 : sMkJ 1 1 (m_Reader___init__ A) (mCons (mVar 0) mNil) [.dat (.lst ds), .no, .no, .no, .no, .no, .no, .no] = .ret (.nx [.dat (.lst ds), rdS A ds 0, .no, .no, .no, .no, .no, .no]) := by
    simp -implicitDefEqProofs only [defM, defR, lawM, fin, sSeq, sExpr, sAsg, sAsgB, sPat, sPatB, sOwn, sOwnB, sPar, sPar3, sRet, sRetN, sIf, sFor, sForB, sApp, sAppB, sExt, sExtB, sSet, sFz, sNext, sBreak, sCont, sAug, sAugL, sErrF, sErr, sParX, sParX3, agGo, Fl.next, Fl.turn, vB, ok1, okL, mVar, mC, mOp, mUn, mNil, mCons, mCB, mCBn, mCall, mTup, mLst, mNew, asB, cOf, cAnd, cOr, cNot, cYes, mAnd, mOr, mNot, mIf, mChain, oNone, asI, oSome, mOpN, mPt, iL, iT, mFld, mProp, mLenI, mSlT, mSlL, pName, pGo, pTup, pLst, wipeE, mIsT, mCallR, mDraw, isRow, look, M.bind_ret, M.bind_err, M.bind_bad, M.bind_draw, M.ofO_some, M.ofO_none, M.calm_ret, M.calm_bad, M.calm_draw, M.bind_assoc, M.wp_ret, List.length_cons, List.length_nil, List.map_cons, List.map_nil, List.replicate_zero, List.replicate_succ, List.cons_append, List.nil_append, List.set_cons_zero, List.set_cons_succ, List.getElem?_cons_zero, List.getElem?_cons_succ, Nat.reduceAdd, Nat.reduceSub, Nat.reduceLeDiff, Nat.reduceEqDiff, if_true, if_false, ite_true, ite_false, reduceIte, Bool.not_true, Bool.not_false, Bool.false_eq_true, sMkJ, x_rinit]
  have s2 : Or1 (sExprX (mRd A 1 (ar2 71 71)) [.dat (.lst ds), rdS A ds 0, .no, .no, .no, .no, .no, .no]) (.nx [.dat (.lst ds), rdS A ds 1, .no, .no, .no, .no, .no, .no]) 1 n := or_map (rd (i := 1) ar2_ret rfl (x_read (A := A) B (Nat.zero_le _) a0 (by decide) (by decide) (by decide) (by decide) (fun _ => rfl))) rfl
  have s3 : sOwn 2 (mLst mNil) [.dat (.lst ds), rdS A ds 1, .no, .no, .no, .no, .no, .no] = .ret (.nx [.dat (.lst ds), rdS A ds 1, .own [], .no, .no, .no, .no, .no]) := by
    simp -implicitDefEqProofs only [defM, defR, lawM, fin, sSeq, sExpr, sAsg, sAsgB, sPat, sPatB, sOwn, sOwnB, sPar, sPar3, sRet, sRetN, sIf, sFor, sForB, sApp, sAppB, sExt, sExtB, sSet, sFz, sNext, sBreak, sCont, sAug, sAugL, sErrF, sErr, sParX, sParX3, agGo, Fl.next, Fl.turn, vB, ok1, okL, mVar, mC, mOp, mUn, mNil, mCons, mCB, mCBn, mCall, mTup, mLst, mNew, asB, cOf, cAnd, cOr, cNot, cYes, mAnd, mOr, mNot, mIf, mChain, oNone, asI, oSome, mOpN, mPt, iL, iT, mFld, mProp, mLenI, mSlT, mSlL, pName, pGo, pTup, pLst, wipeE, mIsT, mCallR, mDraw, isRow, look, M.bind_ret, M.bind_err, M.bind_bad, M.bind_draw, M.ofO_some, M.ofO_none, M.calm_ret, M.calm_bad, M.calm_draw, M.bind_assoc, M.wp_ret, List.length_cons, List.length_nil, List.map_cons, List.map_nil, List.replicate_zero, List.replicate_succ, List.cons_append, List.nil_append, List.set_cons_zero, List.set_cons_succ, List.getElem?_cons_zero, List.getElem?_cons_succ, Nat.reduceAdd, Nat.reduceSub, Nat.reduceLeDiff, Nat.reduceEqDiff, if_true, if_false, ite_true, ite_false, reduceIte, Bool.not_true, Bool.not_false, Bool.false_eq_true, Nat.zero_le]
  have s4 : 1 ≤ n → Or1 (sAsgX 3 (mRd A 1 (ar2 1 4)) [.dat (.lst ds), rdS A ds 1, .own [], .no, .no, .no, .no, .no]) (.nx [.dat (.lst ds), rdS A ds 2, .own [], .dat (.int (l.length : Int)), .no, .no, .no, .no]) 2 n := fun h => or_map (rd (i := 1) ar2_ret rfl (x_read (A := A) B h a1 (by omega) (by omega) (by decide) (by decide) (fun _ => by omega))) rfl
  have s6 : ∀ {p : Nat} {r4 r5 : Sl}, sOwn 6 (mLst mNil) [.dat (.lst ds), rdS A ds p, .own (l.map dT), .dat (.int (l.length : Int)), r4, r5, .no, .no] = .ret (.nx [.dat (.lst ds), rdS A ds p, .own (l.map dT), .dat (.int (l.length : Int)), r4, r5, .own [], .no]) := fun {p r4 r5} => by
    simp -implicitDefEqProofs only [defM, defR, lawM, fin, sSeq, sExpr, sAsg, sAsgB, sPat, sPatB, sOwn, sOwnB, sPar, sPar3, sRet, sRetN, sIf, sFor, sForB, sApp, sAppB, sExt, sExtB, sSet, sFz, sNext, sBreak, sCont, sAug, sAugL, sErrF, sErr, sParX, sParX3, agGo, Fl.next, Fl.turn, vB, ok1, okL, mVar, mC, mOp, mUn, mNil, mCons, mCB, mCBn, mCall, mTup, mLst, mNew, asB, cOf, cAnd, cOr, cNot, cYes, mAnd, mOr, mNot, mIf, mChain, oNone, asI, oSome, mOpN, mPt, iL, iT, mFld, mProp, mLenI, mSlT, mSlL, pName, pGo, pTup, pLst, wipeE, mIsT, mCallR, mDraw, isRow, look, M.bind_ret, M.bind_err, M.bind_bad, M.bind_draw, M.ofO_some, M.ofO_none, M.calm_ret, M.calm_bad, M.calm_draw, M.bind_assoc, M.wp_ret, List.length_cons, List.length_nil, List.map_cons, List.map_nil, List.replicate_zero, List.replicate_succ, List.cons_append, List.nil_append, List.set_cons_zero, List.set_cons_succ, List.getElem?_cons_zero, List.getElem?_cons_succ, Nat.reduceAdd, Nat.reduceSub, Nat.reduceLeDiff, Nat.reduceEqDiff, if_true, if_false, ite_true, ite_false, reduceIte, Bool.not_true, Bool.not_false, Bool.false_eq_true, Nat.zero_le]
  unfold m_decode_store defM
  rw [if_pos (by rfl)]
  refine congrArg (fun x => M.bind x fin) ((seq_nx (b := _) s1).trans (seq_or (b := _) s2 fun h1 => (seq_nx (b := _) s3).trans (seq_or (b := _) (s4 h1) fun h2 => ?_))) |>.trans rfl
  obtain ⟨r4, r5, hd⟩ := doors_run (A := A) (rest := (m : Int) :: (wsI (words3.take m) ++ [chkI (itI l m)])) B (r0 := .dat (.lst ds)) (r3 := .dat (.int (l.length : Int))) (r6 := .no) (r7 := .no) l 2 [] (rgD 0 (l.length : Int)) .no .no h2 (by rw [rgD_nat]; simp) b1 (by simp) (fun p hp => ⟨⟨(G.each p hp).1.1, by have := (G.each p hp).1.2; omega⟩, (G.each p hp).2.1, by have := (G.each p hp).2.2; omega⟩) (by simp; omega)
  rw [List.nil_append] at hd
  refine seq_or (b := _) (for_or (mi := rg1 (mVar 3)) (rg_run (n := l.length) rfl (by omega)) hd) fun h3 => (seq_nx (b := _) s6).trans ?_
  have s7 : Or1 (sAsgX 7 (mRd A 1 (ar2 1 5)) [.dat (.lst ds), rdS A ds (2 + 2 * l.length), .own (l.map dT), .dat (.int (l.length : Int)), r4, r5, .own [], .no]) (.nx [.dat (.lst ds), rdS A ds (2 + 2 * l.length + 1), .own (l.map dT), .dat (.int (l.length : Int)), r4, r5, .own [], .dat (.int (m : Int))]) (2 + 2 * l.length + 1) n := or_map (rd (i := 1) ar2_ret rfl (x_read (A := A) B h3 a3 (by have := G.m1; omega) (by have := G.m3; omega) (by decide) (by decide) (fun _ => by
    have : 0 < (wsI (words3.take m)).length := by
      have hk : m = 1 ∨ m = 2 ∨ m = 3 := by have := G.m1; have := G.m3; omega
      rcases hk with rfl | rfl | rfl <;> decide
    omega))) rfl
  refine seq_or (b := _) s7 fun h4 => ?_
  obtain ⟨r4', hw⟩ := words_run (A := A) (rest := [chkI (itI l m)]) B (by simp) (r0 := .dat (.lst ds)) (r2 := .own (l.map dT)) (r3 := .dat (.int (l.length : Int))) (r5 := r5) (r7 := .dat (.int (m : Int))) (words3.take m) (2 + 2 * l.length + 1) [] (rgD 0 (m : Int)) r4 h4 (by rw [rgD_nat, w2]; simp) b3 (words_ok G.m1 G.m3) (by rw [w2]; simp; have := G.m3; omega)
  rw [List.nil_append, w1] at hw
  refine seq_or (b := _) (for_or (mi := rg1 (mVar 7)) (rg_run (n := m) rfl (by have := G.m3; omega)) hw) fun h5 => ?_
  have he := x_end (A := A) B h5 (by omega) a5 (by rw [htake]) (chk_rng _ 4 (by decide) (by decide)).1 (Int.le_trans (chk_rng _ 4 (by decide) (by decide)).2 (by decide))
  show sSeq (sExprX (mCallJ 1 1 Ns_Reader (m_Reader_read_end A) mNil)) _ _ = _
  unfold sSeq
  have s9 : sExprX (mCallJ 1 1 Ns_Reader (m_Reader_read_end A) mNil) [.dat (.lst ds), rdS A ds (2 + 2 * l.length + 1 + (wsI (words3.take m)).length), .own (l.map dT), .dat (.int (l.length : Int)), r4', r5, .own (crD m), .dat (.int (m : Int))] = erN n := by
    simp -implicitDefEqProofs only [defM, defR, lawM, fin, sSeq, sExpr, sAsg, sAsgB, sPat, sPatB, sOwn, sOwnB, sPar, sPar3, sRet, sRetN, sIf, sFor, sForB, sApp, sAppB, sExt, sExtB, sSet, sFz, sNext, sBreak, sCont, sAug, sAugL, sErrF, sErr, sParX, sParX3, agGo, Fl.next, Fl.turn, vB, ok1, okL, mVar, mC, mOp, mUn, mNil, mCons, mCB, mCBn, mCall, mTup, mLst, mNew, asB, cOf, cAnd, cOr, cNot, cYes, mAnd, mOr, mNot, mIf, mChain, oNone, asI, oSome, mOpN, mPt, iL, iT, mFld, mProp, mLenI, mSlT, mSlL, pName, pGo, pTup, pLst, wipeE, mIsT, mCallR, mDraw, isRow, look, M.bind_ret, M.bind_err, M.bind_bad, M.bind_draw, M.ofO_some, M.ofO_none, M.calm_ret, M.calm_bad, M.calm_draw, M.bind_assoc, M.wp_ret, List.length_cons, List.length_nil, List.map_cons, List.map_nil, List.replicate_zero, List.replicate_succ, List.cons_append, List.nil_append, List.set_cons_zero, List.set_cons_succ, List.getElem?_cons_zero, List.getElem?_cons_succ, Nat.reduceAdd, Nat.reduceSub, Nat.reduceLeDiff, Nat.reduceEqDiff, if_true, if_false, ite_true, ite_false, reduceIte, Bool.not_true, Bool.not_false, Bool.false_eq_true, sExprX, mCallJ, and_self, he]
  rw [s9]
  rfl
end My

namespace My
open PySem L2 Cc Mi Wm
def P11 (ρ : Mi.Env) : Prop := ∃ s2 s3 s4 s5 s6 s7 s8 s9 s10 : Sl, ρ = [.no, .row, s2, s3, s4, s5, s6, s7, s8, s9, s10]
section
variable {C A : Addr} {s2 s3 s4 s5 s6 s7 s8 s9 s10 : Sl}
theorem off_err {ds : List D} {n : Nat} (h : m_decode_store C A [.lst ds] = erN n) : m__law_offset C A [.lst ds] = .ret (.int (n : Nat)) := by
  have e : sExpr (mCall (m_decode_store C A) (mCons (mVar 0) mNil)) [.dat (.lst ds), .no] = erN n := by simp -implicitDefEqProofs only [defM, defR, lawM, fin, sSeq, sExpr, sAsg, sAsgB, sPat, sPatB, sOwn, sOwnB, sPar, sPar3, sRet, sRetN, sIf, sFor, sForB, sApp, sAppB, sExt, sExtB, sSet, sFz, sNext, sBreak, sCont, sAug, sAugL, sErrF, sErr, sParX, sParX3, agGo, Fl.next, Fl.turn, vB, ok1, okL, mVar, mC, mOp, mUn, mNil, mCons, mCB, mCBn, mCall, mTup, mLst, mNew, asB, cOf, cAnd, cOr, cNot, cYes, mAnd, mOr, mNot, mIf, mChain, oNone, asI, oSome, mOpN, mPt, iL, iT, mFld, mProp, mLenI, mSlT, mSlL, pName, pGo, pTup, pLst, wipeE, mIsT, mCallR, mDraw, isRow, look, M.bind_ret, M.bind_err, M.bind_bad, M.bind_draw, M.ofO_some, M.ofO_none, M.calm_ret, M.calm_bad, M.calm_draw, M.bind_assoc, M.wp_ret, List.length_cons, List.length_nil, List.map_cons, List.map_nil, List.replicate_zero, List.replicate_succ, List.cons_append, List.nil_append, List.set_cons_zero, List.set_cons_succ, List.getElem?_cons_zero, List.getElem?_cons_succ, Nat.reduceAdd, Nat.reduceSub, Nat.reduceLeDiff, Nat.reduceEqDiff, if_true, if_false, ite_true, ite_false, reduceIte, Bool.not_true, Bool.not_false, Bool.false_eq_true, h]
  have e2 : sSeq (sTry 2 errNames (sExpr (mCall (m_decode_store C A) (mCons (mVar 0) mNil))) [("DecodeError", (some 1), fun p => (sRet (mXf 1 0 p))), ("InvalidStore", (some 1), fun p => (sRet (mTup (mCons (mC (.str "store")) (mCons (mXf 1 0 p) mNil)))))]) (sRet (mC .non)) [.dat (.lst ds), .no] = .ret (.rt (.int (n : Nat))) := by
    unfold sSeq sTry
    rw [e]
    rfl
  unfold m__law_offset defM
  rw [if_pos (by rfl)]
  exact congrArg (fun x => M.bind x fin) e2
end
end My

namespace My
open PySem L2 Cc Mi Wm
theorem enc11 {C : Addr} {a b : D} {w1 p1 : Int} : m_encode_store [(stT C [(w1, p1)] a b (.ptup (crD 1)))] = .ret (.lst (iD (valI [(w1, p1)] 1))) := by kernel_rfl
theorem enc12 {C : Addr} {a b : D} {w1 p1 : Int} : m_encode_store [(stT C [(w1, p1)] a b (.ptup (crD 2)))] = .ret (.lst (iD (valI [(w1, p1)] 2))) := by kernel_rfl
theorem enc13 {C : Addr} {a b : D} {w1 p1 : Int} : m_encode_store [(stT C [(w1, p1)] a b (.ptup (crD 3)))] = .ret (.lst (iD (valI [(w1, p1)] 3))) := by kernel_rfl
theorem enc21 {C : Addr} {a b : D} {w1 p1 w2 p2 : Int} : m_encode_store [(stT C [(w1, p1), (w2, p2)] a b (.ptup (crD 1)))] = .ret (.lst (iD (valI [(w1, p1), (w2, p2)] 1))) := by kernel_rfl
theorem enc22 {C : Addr} {a b : D} {w1 p1 w2 p2 : Int} : m_encode_store [(stT C [(w1, p1), (w2, p2)] a b (.ptup (crD 2)))] = .ret (.lst (iD (valI [(w1, p1), (w2, p2)] 2))) := by kernel_rfl
theorem enc23 {C : Addr} {a b : D} {w1 p1 w2 p2 : Int} : m_encode_store [(stT C [(w1, p1), (w2, p2)] a b (.ptup (crD 3)))] = .ret (.lst (iD (valI [(w1, p1), (w2, p2)] 3))) := by kernel_rfl
theorem enc31 {C : Addr} {a b : D} {w1 p1 w2 p2 w3 p3 : Int} : m_encode_store [(stT C [(w1, p1), (w2, p2), (w3, p3)] a b (.ptup (crD 1)))] = .ret (.lst (iD (valI [(w1, p1), (w2, p2), (w3, p3)] 1))) := by kernel_rfl
theorem enc32 {C : Addr} {a b : D} {w1 p1 w2 p2 w3 p3 : Int} : m_encode_store [(stT C [(w1, p1), (w2, p2), (w3, p3)] a b (.ptup (crD 2)))] = .ret (.lst (iD (valI [(w1, p1), (w2, p2), (w3, p3)] 2))) := by kernel_rfl
theorem enc33 {C : Addr} {a b : D} {w1 p1 w2 p2 w3 p3 : Int} : m_encode_store [(stT C [(w1, p1), (w2, p2), (w3, p3)] a b (.ptup (crD 3)))] = .ret (.lst (iD (valI [(w1, p1), (w2, p2), (w3, p3)] 3))) := by kernel_rfl
theorem x_enc {C : Addr} {a b : D} {l : List (Int × Int)} {m : Nat} (G : GoodL l m) : m_encode_store [stT C l a b (.ptup (crD m))] = .ret (.lst (iD (valI l m))) := by
  have h1 := G.lo
  have h2 := G.hi
  have hm : m = 1 ∨ m = 2 ∨ m = 3 := by have := G.m1; have := G.m3; omega
  clear G
  match l, h1, h2 with
  | [(w1, p1)], _, _ => exact hm.elim (fun e => e ▸ enc11) fun h => h.elim (fun e => e ▸ enc12) fun e => e ▸ enc13
  | [(w1, p1), (w2, p2)], _, _ => exact hm.elim (fun e => e ▸ enc21) fun h => h.elim (fun e => e ▸ enc22) fun e => e ▸ enc23
  | [(w1, p1), (w2, p2), (w3, p3)], _, _ => exact hm.elim (fun e => e ▸ enc31) fun h => h.elim (fun e => e ▸ enc32) fun e => e ▸ enc33
  | [], h, _ => exact absurd h (by simp)
  | _ :: _ :: _ :: _ :: _, _, h => exact absurd h (by simp)
end My

namespace My
open PySem L2 Cc Mi Wm
section
variable {C A : Addr} {s2 s3 s4 s5 s6 s7 s8 s9 s10 : Sl}
theorem fixed : u1 C A [.no, .row, s2, s3, s4, s5, s6, s7, s8, s9, s10] = .ret (.rt (.bl true)) := by kernel_rfl
end
end My

namespace My
open PySem L2 Cc Mi Wm
section
variable {vs : List Int} {k : Nat}
theorem take_k {α : Type} {xs ys : List α} (h : k ≤ xs.length) (hk : k = (xs.take k).length) : (xs.take k ++ ys).take k = xs.take k := by
  rw [List.take_append_of_le_length (by omega), List.take_take, Nat.min_self]
theorem iD_take {n : Nat} : iD (vs.take n) = (iD vs).take n := by simp [iD]
theorem brk1 (hk : k < vs.length) (hl : vs.length ≤ 500) : Brk (iD (vs.take k)) vs k where
  small := by simp; omega
  nle := by omega
  cut := by rw [iD_take, List.take_take, Nat.min_self]
  bad := fun _ lo hi _ _ _ => .inl (by simp; omega)
  more := fun h => by omega
theorem brk2 (x : D) (hl : vs.length ≤ 500) : Brk (iD vs ++ [x]) vs vs.length where
  small := by simp; omega
  nle := Nat.le_refl _
  cut := by
    rw [List.take_length, List.take_append_of_le_length (by simp)]
    exact List.take_of_length_le (by simp)
  bad := fun h => absurd h (Nat.lt_irrefl _)
  more := fun _ => by simp
theorem brk3 (b : D) (ys : List D) (hk : k < vs.length) (hl : vs.length ≤ 500) (hy : ys.length ≤ 499) (hb : ∀ lo hi, 0 ≤ lo → hi ≤ 255 → (k + 1 = vs.length → lo = hi ∧ vs[k]? = some lo) → m_is_number [b, .int lo, .int hi] = .ret (.bl false)) : Brk (iD (vs.take k) ++ [b] ++ ys) vs k where
  small := by simp; omega
  nle := by omega
  cut := by
    rw [List.append_assoc, List.take_append_of_le_length (by simp; omega), iD_take, List.take_take, Nat.min_self]
  bad := fun _ lo hi h0 h1 h2 => .inr ⟨b, by
    rw [List.append_assoc, List.getElem?_append_right (by simp; omega)]
    simp [Nat.min_eq_left (Nat.le_of_lt hk)], hb lo hi h0 h1 h2⟩
  more := fun h => by omega
theorem brk4 (b : D) (hk : k < vs.length) (hl : vs.length ≤ 500) (hb : ∀ lo hi, 0 ≤ lo → hi ≤ 255 → (k + 1 = vs.length → lo = hi ∧ vs[k]? = some lo) → m_is_number [b, .int lo, .int hi] = .ret (.bl false)) : Brk (iD (vs.take k) ++ [b]) vs k := by
  have := brk3 b [] hk hl (by simp) hb
  rwa [List.append_nil] at this
theorem num256 {lo hi : Int} (h : hi ≤ 255) : m_is_number [.int 256, .int lo, .int hi] = .ret (.bl false) := by
  rw [x_num, decide_eq_false (show ¬ (256 : Int) ≤ hi by omega), Bool.and_false]
theorem numNeg {lo hi : Int} (h : 0 ≤ lo) : m_is_number [.int (-1), .int lo, .int hi] = .ret (.bl false) := by
  rw [x_num, decide_eq_false (show ¬ lo ≤ (-1 : Int) by omega), Bool.false_and]
theorem numNe {lo hi y : Int} (h : lo = hi) (hy : y ≠ lo) : m_is_number [.int y, .int lo, .int hi] = .ret (.bl false) := by
  subst h
  rw [x_num]
  by_cases h : lo ≤ y
  · rw [decide_eq_false (show ¬ y ≤ lo by omega), Bool.and_false]
  · rw [decide_eq_false h, Bool.false_and]
theorem numBl {b : Bool} {lo hi : Int} : m_is_number [.bl b, .int lo, .int hi] = .ret (.bl false) := by
  simp -implicitDefEqProofs only [defM, defR, lawM, fin, sSeq, sExpr, sAsg, sAsgB, sPat, sPatB, sOwn, sOwnB, sPar, sPar3, sRet, sRetN, sIf, sFor, sForB, sApp, sAppB, sExt, sExtB, sSet, sFz, sNext, sBreak, sCont, sAug, sAugL, sErrF, sErr, sParX, sParX3, agGo, Fl.next, Fl.turn, vB, ok1, okL, mVar, mC, mOp, mUn, mNil, mCons, mCB, mCBn, mCall, mTup, mLst, mNew, asB, cOf, cAnd, cOr, cNot, cYes, mAnd, mOr, mNot, mIf, mChain, oNone, asI, oSome, mOpN, mPt, iL, iT, mFld, mProp, mLenI, mSlT, mSlL, pName, pGo, pTup, pLst, wipeE, mIsT, mCallR, mDraw, isRow, look, M.bind_ret, M.bind_err, M.bind_bad, M.bind_draw, M.ofO_some, M.ofO_none, M.calm_ret, M.calm_bad, M.calm_draw, M.bind_assoc, M.wp_ret, List.length_cons, List.length_nil, List.map_cons, List.map_nil, List.replicate_zero, List.replicate_succ, List.cons_append, List.nil_append, List.set_cons_zero, List.set_cons_succ, List.getElem?_cons_zero, List.getElem?_cons_succ, Nat.reduceAdd, Nat.reduceSub, Nat.reduceLeDiff, Nat.reduceEqDiff, if_true, if_false, ite_true, ite_false, reduceIte, Bool.not_true, Bool.not_false, Bool.false_eq_true, m_is_number, D.noob, D.isT]
  try rfl
end
end My

namespace My
open PySem L2 Cc Mi Wm
theorem val_facts {l : List (Int × Int)} {m : Nat} (G : GoodL l m) : ∃ c : Int, 0 ≤ c ∧ c ≤ 250 ∧ 1 ≤ (valI l m).length ∧ (valI l m).length ≤ 500 ∧ (valI l m)[(valI l m).length - 1]? = some c := by
  obtain ⟨w1, w2, w3⟩ := words_cr G.m1 G.m3
  have hll := G.hi
  refine ⟨chkI (itI l m), (chk_rng _ 4 (by decide) (by decide)).1, (chk_rng _ 4 (by decide) (by decide)).2, ?_, ?_, ?_⟩
  · unfold valI; simp
  · unfold valI itI
    simp only [List.length_append, List.length_cons, List.length_nil, door_len]
    omega
  · unfold valI
    simp
section
variable {C A : Addr} {E : Str → List D → Prop} {l : List (Int × Int)} {m : Nat}
theorem off_brk (G : GoodL l m) {ds : List D} {n : Nat} (B : Brk ds (valI l m) n) : m__law_offset C A [.lst ds] = .ret (.int (n : Nat)) := off_err (x_decE G B)
theorem cut_k {vs : List Int} {k : Nat} : cutD (iD vs) none (some (k : Int)) = iD (vs.take k) := by
  rw [cut_to D.int vs (by omega), Int.toNat_natCast]
theorem cut_k1 {vs : List Int} {k : Nat} (h : k < vs.length) : cutD (iD vs) (some ((k : Int) + 1)) none = iD (vs.drop (k + 1)) := by
  have := cut_from D.int vs (i := k + 1) (by omega)
  exact this
theorem ne_self {i : Int} : fNe (.int i) (.int i) = some (.bl false) := by rw [f_neI, beq_self_eq_true]; rfl
theorem x_turnV (G : GoodL l m) {s2 s4 s5 s6 s7 s8 s9 s10 : Sl} : Wp (v1 C A [.no, .row, s2, .dat (.lst (iD (valI l m))), s4, s5, s6, s7, s8, s9, s10]) (fun fl => ∃ ρ', fl = .nx ρ' ∧ P11 ρ') E := by
  obtain ⟨c, c0, c1, n1, n5, hc⟩ := val_facts G
  have off := fun {ds : List D} {n : Nat} (B : Brk ds (valI l m) n) => off_brk (C := C) (A := A) G B
  generalize valI l m = vs at n1 n5 hc off ⊢
  have eL : fLen [.lst (iD vs)] = some (.int (vs.length : Nat)) := by rw [f_lenL (by simp; omega)]; simp
  unfold v1
  refine wp_seq ⟨?_⟩
  simp -implicitDefEqProofs only [defM, defR, lawM, fin, sSeq, sExpr, sAsg, sAsgB, sPat, sPatB, sOwn, sOwnB, sPar, sPar3, sRet, sRetN, sIf, sFor, sForB, sApp, sAppB, sExt, sExtB, sSet, sFz, sNext, sBreak, sCont, sAug, sAugL, sErrF, sErr, sParX, sParX3, agGo, Fl.next, Fl.turn, vB, ok1, okL, mVar, mC, mOp, mUn, mNil, mCons, mCB, mCBn, mCall, mTup, mLst, mNew, asB, cOf, cAnd, cOr, cNot, cYes, mAnd, mOr, mNot, mIf, mChain, oNone, asI, oSome, mOpN, mPt, iL, iT, mFld, mProp, mLenI, mSlT, mSlL, pName, pGo, pTup, pLst, wipeE, mIsT, mCallR, mDraw, isRow, look, M.bind_ret, M.bind_err, M.bind_bad, M.bind_draw, M.ofO_some, M.ofO_none, M.calm_ret, M.calm_bad, M.calm_draw, M.bind_assoc, M.wp_ret, List.length_cons, List.length_nil, List.map_cons, List.map_nil, List.replicate_zero, List.replicate_succ, List.cons_append, List.nil_append, List.set_cons_zero, List.set_cons_succ, List.getElem?_cons_zero, List.getElem?_cons_succ, Nat.reduceAdd, Nat.reduceSub, Nat.reduceLeDiff, Nat.reduceEqDiff, if_true, if_false, ite_true, ite_false, reduceIte, Bool.not_true, Bool.not_false, Bool.false_eq_true, eL]
  rw [M.wp_draw]
  refine ⟨⟨by omega, by omega⟩, fun ki k0 k1 => ?_⟩
  obtain ⟨k, rfl⟩ : ∃ k : Nat, ki = k := ⟨ki.toNat, by omega⟩
  have hk : k < vs.length := by omega
  have eq : ((vs.length : Nat) : Int) - 1 = ((vs.length - 1 : Nat) : Int) := by omega
  simp -implicitDefEqProofs only [defM, defR, lawM, fin, sSeq, sExpr, sAsg, sAsgB, sPat, sPatB, sOwn, sOwnB, sPar, sPar3, sRet, sRetN, sIf, sFor, sForB, sApp, sAppB, sExt, sExtB, sSet, sFz, sNext, sBreak, sCont, sAug, sAugL, sErrF, sErr, sParX, sParX3, agGo, Fl.next, Fl.turn, vB, ok1, okL, mVar, mC, mOp, mUn, mNil, mCons, mCB, mCBn, mCall, mTup, mLst, mNew, asB, cOf, cAnd, cOr, cNot, cYes, mAnd, mOr, mNot, mIf, mChain, oNone, asI, oSome, mOpN, mPt, iL, iT, mFld, mProp, mLenI, mSlT, mSlL, pName, pGo, pTup, pLst, wipeE, mIsT, mCallR, mDraw, isRow, look, M.bind_ret, M.bind_err, M.bind_bad, M.bind_draw, M.ofO_some, M.ofO_none, M.calm_ret, M.calm_bad, M.calm_draw, M.bind_assoc, M.wp_ret, List.length_cons, List.length_nil, List.map_cons, List.map_nil, List.replicate_zero, List.replicate_succ, List.cons_append, List.nil_append, List.set_cons_zero, List.set_cons_succ, List.getElem?_cons_zero, List.getElem?_cons_succ, Nat.reduceAdd, Nat.reduceSub, Nat.reduceLeDiff, Nat.reduceEqDiff, if_true, if_false, ite_true, ite_false, reduceIte, Bool.not_true, Bool.not_false, Bool.false_eq_true, eL, f_i, eq]
  refine ⟨_, rfl, ?_⟩
  -- cut short; too long
  unfold v2
  refine wp_seq ⟨?_⟩
  have o1 := off (brk1 hk n5)
  simp -implicitDefEqProofs only [defM, defR, lawM, fin, sSeq, sExpr, sAsg, sAsgB, sPat, sPatB, sOwn, sOwnB, sPar, sPar3, sRet, sRetN, sIf, sFor, sForB, sApp, sAppB, sExt, sExtB, sSet, sFz, sNext, sBreak, sCont, sAug, sAugL, sErrF, sErr, sParX, sParX3, agGo, Fl.next, Fl.turn, vB, ok1, okL, mVar, mC, mOp, mUn, mNil, mCons, mCB, mCBn, mCall, mTup, mLst, mNew, asB, cOf, cAnd, cOr, cNot, cYes, mAnd, mOr, mNot, mIf, mChain, oNone, asI, oSome, mOpN, mPt, iL, iT, mFld, mProp, mLenI, mSlT, mSlL, pName, pGo, pTup, pLst, wipeE, mIsT, mCallR, mDraw, isRow, look, M.bind_ret, M.bind_err, M.bind_bad, M.bind_draw, M.ofO_some, M.ofO_none, M.calm_ret, M.calm_bad, M.calm_draw, M.bind_assoc, M.wp_ret, List.length_cons, List.length_nil, List.map_cons, List.map_nil, List.replicate_zero, List.replicate_succ, List.cons_append, List.nil_append, List.set_cons_zero, List.set_cons_succ, List.getElem?_cons_zero, List.getElem?_cons_succ, Nat.reduceAdd, Nat.reduceSub, Nat.reduceLeDiff, Nat.reduceEqDiff, if_true, if_false, ite_true, ite_false, reduceIte, Bool.not_true, Bool.not_false, Bool.false_eq_true, cut_k, o1, ne_self]
  rw [M.wp_draw]
  refine ⟨⟨by omega, by omega⟩, fun x x0 x1 => ?_⟩
  have o2 := off (brk2 (.int x) n5)
  have ec : fCatL (.lst (iD vs)) (.lst [.int x]) = some (iD vs ++ [.int x]) := f_catL (by simp; omega)
  have e1 : (1 : Nat) ≤ 100000 := by omega
  simp -implicitDefEqProofs only [defM, defR, lawM, fin, sSeq, sExpr, sAsg, sAsgB, sPat, sPatB, sOwn, sOwnB, sPar, sPar3, sRet, sRetN, sIf, sFor, sForB, sApp, sAppB, sExt, sExtB, sSet, sFz, sNext, sBreak, sCont, sAug, sAugL, sErrF, sErr, sParX, sParX3, agGo, Fl.next, Fl.turn, vB, ok1, okL, mVar, mC, mOp, mUn, mNil, mCons, mCB, mCBn, mCall, mTup, mLst, mNew, asB, cOf, cAnd, cOr, cNot, cYes, mAnd, mOr, mNot, mIf, mChain, oNone, asI, oSome, mOpN, mPt, iL, iT, mFld, mProp, mLenI, mSlT, mSlL, pName, pGo, pTup, pLst, wipeE, mIsT, mCallR, mDraw, isRow, look, M.bind_ret, M.bind_err, M.bind_bad, M.bind_draw, M.ofO_some, M.ofO_none, M.calm_ret, M.calm_bad, M.calm_draw, M.bind_assoc, M.wp_ret, List.length_cons, List.length_nil, List.map_cons, List.map_nil, List.replicate_zero, List.replicate_succ, List.cons_append, List.nil_append, List.set_cons_zero, List.set_cons_succ, List.getElem?_cons_zero, List.getElem?_cons_succ, Nat.reduceAdd, Nat.reduceSub, Nat.reduceLeDiff, Nat.reduceEqDiff, if_true, if_false, ite_true, ite_false, reduceIte, Bool.not_true, Bool.not_false, Bool.false_eq_true, e1, ec, o2, eL, ne_self]
  refine ⟨_, rfl, ?_⟩
  -- one item changed
  unfold v3
  refine wp_seq ⟨?_⟩
  have e4 : (4 : Nat) ≤ 100000 := by omega
  simp -implicitDefEqProofs only [defM, defR, lawM, fin, sSeq, sExpr, sAsg, sAsgB, sPat, sPatB, sOwn, sOwnB, sPar, sPar3, sRet, sRetN, sIf, sFor, sForB, sApp, sAppB, sExt, sExtB, sSet, sFz, sNext, sBreak, sCont, sAug, sAugL, sErrF, sErr, sParX, sParX3, agGo, Fl.next, Fl.turn, vB, ok1, okL, mVar, mC, mOp, mUn, mNil, mCons, mCB, mCBn, mCall, mTup, mLst, mNew, asB, cOf, cAnd, cOr, cNot, cYes, mAnd, mOr, mNot, mIf, mChain, oNone, asI, oSome, mOpN, mPt, iL, iT, mFld, mProp, mLenI, mSlT, mSlL, pName, pGo, pTup, pLst, wipeE, mIsT, mCallR, mDraw, isRow, look, M.bind_ret, M.bind_err, M.bind_bad, M.bind_draw, M.ofO_some, M.ofO_none, M.calm_ret, M.calm_bad, M.calm_draw, M.bind_assoc, M.wp_ret, List.length_cons, List.length_nil, List.map_cons, List.map_nil, List.replicate_zero, List.replicate_succ, List.cons_append, List.nil_append, List.set_cons_zero, List.set_cons_succ, List.getElem?_cons_zero, List.getElem?_cons_succ, Nat.reduceAdd, Nat.reduceSub, Nat.reduceLeDiff, Nat.reduceEqDiff, if_true, if_false, ite_true, ite_false, reduceIte, Bool.not_true, Bool.not_false, Bool.false_eq_true, f_i, e4]
  rw [M.wp_draw]
  refine ⟨⟨by omega, by omega⟩, fun d d0 d1 => ?_⟩
  have hb : ∃ b : D, fIx (.lst [.int 256, .int (0 - 1), .bl true, .bl false]) (.int d) = some b ∧ ∀ lo hi : Int, 0 ≤ lo → hi ≤ 255 → m_is_number [b, .int lo, .int hi] = .ret (.bl false) := by
    have hd : d = 0 ∨ d = 1 ∨ d = 2 ∨ d = 3 := by omega
    rcases hd with rfl | rfl | rfl | rfl
    · exact ⟨.int 256, rfl, fun lo hi _ h => num256 h⟩
    · exact ⟨.int (-1), rfl, fun lo hi h _ => numNeg h⟩
    · exact ⟨.bl true, rfl, fun lo hi _ _ => numBl⟩
    · exact ⟨.bl false, rfl, fun lo hi _ _ => numBl⟩
  obtain ⟨b, hb1, hb2⟩ := hb
  simp -implicitDefEqProofs only [defM, defR, lawM, fin, sSeq, sExpr, sAsg, sAsgB, sPat, sPatB, sOwn, sOwnB, sPar, sPar3, sRet, sRetN, sIf, sFor, sForB, sApp, sAppB, sExt, sExtB, sSet, sFz, sNext, sBreak, sCont, sAug, sAugL, sErrF, sErr, sParX, sParX3, agGo, Fl.next, Fl.turn, vB, ok1, okL, mVar, mC, mOp, mUn, mNil, mCons, mCB, mCBn, mCall, mTup, mLst, mNew, asB, cOf, cAnd, cOr, cNot, cYes, mAnd, mOr, mNot, mIf, mChain, oNone, asI, oSome, mOpN, mPt, iL, iT, mFld, mProp, mLenI, mSlT, mSlL, pName, pGo, pTup, pLst, wipeE, mIsT, mCallR, mDraw, isRow, look, M.bind_ret, M.bind_err, M.bind_bad, M.bind_draw, M.ofO_some, M.ofO_none, M.calm_ret, M.calm_bad, M.calm_draw, M.bind_assoc, M.wp_ret, List.length_cons, List.length_nil, List.map_cons, List.map_nil, List.replicate_zero, List.replicate_succ, List.cons_append, List.nil_append, List.set_cons_zero, List.set_cons_succ, List.getElem?_cons_zero, List.getElem?_cons_succ, Nat.reduceAdd, Nat.reduceSub, Nat.reduceLeDiff, Nat.reduceEqDiff, if_true, if_false, ite_true, ite_false, reduceIte, Bool.not_true, Bool.not_false, Bool.false_eq_true, hb1]
  refine ⟨_, rfl, ?_⟩
  unfold v4
  refine wp_seq ⟨?_⟩
  have o3 := off (brk3 b (iD (vs.drop (k + 1))) hk n5 (by simp; omega) fun lo hi h0 h1 _ => hb2 lo hi h0 h1)
  have ec1 : fCatL (.lst (iD (vs.take k))) (.lst [b]) = some (iD (vs.take k) ++ [b]) := f_catL (by simp; omega)
  have ec2 : fCatL (.lst (iD (vs.take k) ++ [b])) (.lst (iD (vs.drop (k + 1)))) = some (iD (vs.take k) ++ [b] ++ iD (vs.drop (k + 1))) := f_catL (by simp; omega)
  simp -implicitDefEqProofs only [defM, defR, lawM, fin, sSeq, sExpr, sAsg, sAsgB, sPat, sPatB, sOwn, sOwnB, sPar, sPar3, sRet, sRetN, sIf, sFor, sForB, sApp, sAppB, sExt, sExtB, sSet, sFz, sNext, sBreak, sCont, sAug, sAugL, sErrF, sErr, sParX, sParX3, agGo, Fl.next, Fl.turn, vB, ok1, okL, mVar, mC, mOp, mUn, mNil, mCons, mCB, mCBn, mCall, mTup, mLst, mNew, asB, cOf, cAnd, cOr, cNot, cYes, mAnd, mOr, mNot, mIf, mChain, oNone, asI, oSome, mOpN, mPt, iL, iT, mFld, mProp, mLenI, mSlT, mSlL, pName, pGo, pTup, pLst, wipeE, mIsT, mCallR, mDraw, isRow, look, M.bind_ret, M.bind_err, M.bind_bad, M.bind_draw, M.ofO_some, M.ofO_none, M.calm_ret, M.calm_bad, M.calm_draw, M.bind_assoc, M.wp_ret, List.length_cons, List.length_nil, List.map_cons, List.map_nil, List.replicate_zero, List.replicate_succ, List.cons_append, List.nil_append, List.set_cons_zero, List.set_cons_succ, List.getElem?_cons_zero, List.getElem?_cons_succ, Nat.reduceAdd, Nat.reduceSub, Nat.reduceLeDiff, Nat.reduceEqDiff, if_true, if_false, ite_true, ite_false, reduceIte, Bool.not_true, Bool.not_false, Bool.false_eq_true, f_i, cut_k, cut_k1 hk, e1, ec1, ec2, o3, ne_self]
  refine ⟨_, rfl, ?_⟩
  unfold v5
  refine ⟨?_⟩
  have ex : fIx (.lst (iD vs)) (.int ((vs.length - 1 : Nat) : Int)) = some (.int c) := f_ixL (by simp [hc])
  simp -implicitDefEqProofs only [defM, defR, lawM, fin, sSeq, sExpr, sAsg, sAsgB, sPat, sPatB, sOwn, sOwnB, sPar, sPar3, sRet, sRetN, sIf, sFor, sForB, sApp, sAppB, sExt, sExtB, sSet, sFz, sNext, sBreak, sCont, sAug, sAugL, sErrF, sErr, sParX, sParX3, agGo, Fl.next, Fl.turn, vB, ok1, okL, mVar, mC, mOp, mUn, mNil, mCons, mCB, mCBn, mCall, mTup, mLst, mNew, asB, cOf, cAnd, cOr, cNot, cYes, mAnd, mOr, mNot, mIf, mChain, oNone, asI, oSome, mOpN, mPt, iL, iT, mFld, mProp, mLenI, mSlT, mSlL, pName, pGo, pTup, pLst, wipeE, mIsT, mCallR, mDraw, isRow, look, M.bind_ret, M.bind_err, M.bind_bad, M.bind_draw, M.ofO_some, M.ofO_none, M.calm_ret, M.calm_bad, M.calm_draw, M.bind_assoc, M.wp_ret, List.length_cons, List.length_nil, List.map_cons, List.map_nil, List.replicate_zero, List.replicate_succ, List.cons_append, List.nil_append, List.set_cons_zero, List.set_cons_succ, List.getElem?_cons_zero, List.getElem?_cons_succ, Nat.reduceAdd, Nat.reduceSub, Nat.reduceLeDiff, Nat.reduceEqDiff, if_true, if_false, ite_true, ite_false, reduceIte, Bool.not_true, Bool.not_false, Bool.false_eq_true, cut_k, f_i, ex]
  rw [M.wp_draw]
  refine ⟨⟨by omega, by omega⟩, fun y y0 y1 => ?_⟩
  have o4 := off (brk4 (k := vs.length - 1) (.int ((c + 1 + y) % 251)) (by omega) n5 fun lo hi h0 h1 h2 => numNe (h2 (by omega)).1 (by
    have := (h2 (by omega)).2
    rw [hc] at this
    cases this
    omega))
  have ec3 : fCatL (.lst (iD (vs.take (vs.length - 1)))) (.lst [.int ((c + 1 + y) % 251)]) = some (iD (vs.take (vs.length - 1)) ++ [.int ((c + 1 + y) % 251)]) := f_catL (by simp; omega)
  simp -implicitDefEqProofs only [defM, defR, lawM, fin, sSeq, sExpr, sAsg, sAsgB, sPat, sPatB, sOwn, sOwnB, sPar, sPar3, sRet, sRetN, sIf, sFor, sForB, sApp, sAppB, sExt, sExtB, sSet, sFz, sNext, sBreak, sCont, sAug, sAugL, sErrF, sErr, sParX, sParX3, agGo, Fl.next, Fl.turn, vB, ok1, okL, mVar, mC, mOp, mUn, mNil, mCons, mCB, mCBn, mCall, mTup, mLst, mNew, asB, cOf, cAnd, cOr, cNot, cYes, mAnd, mOr, mNot, mIf, mChain, oNone, asI, oSome, mOpN, mPt, iL, iT, mFld, mProp, mLenI, mSlT, mSlL, pName, pGo, pTup, pLst, wipeE, mIsT, mCallR, mDraw, isRow, look, M.bind_ret, M.bind_err, M.bind_bad, M.bind_draw, M.ofO_some, M.ofO_none, M.calm_ret, M.calm_bad, M.calm_draw, M.bind_assoc, M.wp_ret, List.length_cons, List.length_nil, List.map_cons, List.map_nil, List.replicate_zero, List.replicate_succ, List.cons_append, List.nil_append, List.set_cons_zero, List.set_cons_succ, List.getElem?_cons_zero, List.getElem?_cons_succ, Nat.reduceAdd, Nat.reduceSub, Nat.reduceLeDiff, Nat.reduceEqDiff, if_true, if_false, ite_true, ite_false, reduceIte, Bool.not_true, Bool.not_false, Bool.false_eq_true, f_i, fInt, f_mod, e1, ec3, o4, ne_self]
  exact ⟨_, rfl, _, _, _, _, _, _, _, _, _, rfl⟩
theorem x_turn {s2 s3 s4 s5 s6 s7 s8 s9 s10 : Sl} : Wp (v0 C A [.no, .row, s2, s3, s4, s5, s6, s7, s8, s9, s10]) (fun fl => ∃ ρ', fl = .nx ρ' ∧ P11 ρ') E := by
  unfold v0
  refine wp_seq ⟨?_⟩
  simp -implicitDefEqProofs only [defM, defR, lawM, fin, sSeq, sExpr, sAsg, sAsgB, sPat, sPatB, sOwn, sOwnB, sPar, sPar3, sRet, sRetN, sIf, sFor, sForB, sApp, sAppB, sExt, sExtB, sSet, sFz, sNext, sBreak, sCont, sAug, sAugL, sErrF, sErr, sParX, sParX3, agGo, Fl.next, Fl.turn, vB, ok1, okL, mVar, mC, mOp, mUn, mNil, mCons, mCB, mCBn, mCall, mTup, mLst, mNew, asB, cOf, cAnd, cOr, cNot, cYes, mAnd, mOr, mNot, mIf, mChain, oNone, asI, oSome, mOpN, mPt, iL, iT, mFld, mProp, mLenI, mSlT, mSlL, pName, pGo, pTup, pLst, wipeE, mIsT, mCallR, mDraw, isRow, look, M.bind_ret, M.bind_err, M.bind_bad, M.bind_draw, M.ofO_some, M.ofO_none, M.calm_ret, M.calm_bad, M.calm_draw, M.bind_assoc, M.wp_ret, List.length_cons, List.length_nil, List.map_cons, List.map_nil, List.replicate_zero, List.replicate_succ, List.cons_append, List.nil_append, List.set_cons_zero, List.set_cons_succ, List.getElem?_cons_zero, List.getElem?_cons_succ, Nat.reduceAdd, Nat.reduceSub, Nat.reduceLeDiff, Nat.reduceEqDiff, if_true, if_false, ite_true, ite_false, reduceIte, Bool.not_true, Bool.not_false, Bool.false_eq_true, i_store_eq]
  rw [M.wp_bind]
  refine M.calm_wp _ ?_
  refine x_storeM ?_
  intro l m G hs hs6
  simp -implicitDefEqProofs only [defM, defR, lawM, fin, sSeq, sExpr, sAsg, sAsgB, sPat, sPatB, sOwn, sOwnB, sPar, sPar3, sRet, sRetN, sIf, sFor, sForB, sApp, sAppB, sExt, sExtB, sSet, sFz, sNext, sBreak, sCont, sAug, sAugL, sErrF, sErr, sParX, sParX3, agGo, Fl.next, Fl.turn, vB, ok1, okL, mVar, mC, mOp, mUn, mNil, mCons, mCB, mCBn, mCall, mTup, mLst, mNew, asB, cOf, cAnd, cOr, cNot, cYes, mAnd, mOr, mNot, mIf, mChain, oNone, asI, oSome, mOpN, mPt, iL, iT, mFld, mProp, mLenI, mSlT, mSlL, pName, pGo, pTup, pLst, wipeE, mIsT, mCallR, mDraw, isRow, look, M.bind_ret, M.bind_err, M.bind_bad, M.bind_draw, M.ofO_some, M.ofO_none, M.calm_ret, M.calm_bad, M.calm_draw, M.bind_assoc, M.wp_ret, List.length_cons, List.length_nil, List.map_cons, List.map_nil, List.replicate_zero, List.replicate_succ, List.cons_append, List.nil_append, List.set_cons_zero, List.set_cons_succ, List.getElem?_cons_zero, List.getElem?_cons_succ, Nat.reduceAdd, Nat.reduceSub, Nat.reduceLeDiff, Nat.reduceEqDiff, if_true, if_false, ite_true, ite_false, reduceIte, Bool.not_true, Bool.not_false, Bool.false_eq_true, x_enc G]
  exact ⟨_, rfl, x_turnV G⟩
theorem law_pure (C A : Addr) : Wp (m_law C A) (fun d => d = .bl true) (fun _ _ => False) := by
  unfold m_law
  rw [law_u]
  refine law_ofW ?_
  show Wp (u0 C A [.no, .row, .no, .no, .no, .no, .no, .no, .no, .no, .no]) _ _
  unfold u0
  refine wp_rng (n := 3) P11 rfl (by decide) ⟨_, _, _, _, _, _, _, _, _, rfl⟩ (fun ρ k hk hρ => ?_) fun ρ hρ => ?_
  · obtain ⟨s2, s3, s4, s5, s6, s7, s8, s9, s10, rfl⟩ := hρ
    exact x_turn
  · obtain ⟨s2, s3, s4, s5, s6, s7, s8, s9, s10, rfl⟩ := hρ
    exact wp_ret (fl := .rt (.bl true)) fixed rfl
end
end My

namespace My
open PySem L2 RZ Cc Mi
structure TkT (mg : Str → Option Value) : Prop where
  int : mg "int" = none
  len : mg "len" = none
section
variable {P : Program} {w : World} {K : Fg} {mg : Str → Option Value} {base : Heap}
theorem ok_taken {f : Addr} {fd : FuncData} (F : Fun K "_law_taken" "_law_taken" s__law_taken f fd) (T : TkT mg) : FnOk P w K mg base CX0 1 f fd ["_law_row", "_law_many"] (spTaken K) := by
  refine F.ok sc__law_taken (fun vs H Q E h => ?_) (fun cdv A outer s H vs Q E hr h => ?_)
  · obtain ⟨S, r, n, rfl, _⟩ := h
    rfl
  · obtain ⟨⟨a, ns⟩, r, n, rfl, ⟨pos, rng, rest, hr0, hs, hne, hl, hp⟩, hn, hn2, k⟩ := h
    dsimp only at hr0 hs hl
    refine ⟨_, (pss_cons (ps_if (pt_cmpR op_gt (pe_ix (ixL K) (pv 0) pe_int (fun _ _ => rfl)) pe_int (nomark _)) (pss_cons (ps_set (i := 2) sc__law_taken.nd rfl (Or.inl rfl) (pe_op op_mod (pe_callTy call_int1 (by rfl) T.int (by decide +kernel) (pa_cons (pe_ix (ixL K) (pv 0) pe_int (fun _ _ => rfl)) pa_nil)) (pv 1)))
      (pss_cons (ps_asg (pe_op op_fdiv (pe_ix (ixL K) (pv 0) pe_int (fun _ _ => rfl)) (pv 1)) (pg_sub (pv 0) pe_int set_list))
      (pss_one (ps_ret (pv 2))))) pss_nil)
      (pss_cons (ps_asg (pe_op op_add (pe_ix (ixL K) (pv 0) pe_int (fun _ _ => rfl)) pe_int) (pg_sub (pv 0) pe_int set_list))
      (pss_cons (ps_if (pt_cmpR op_gt (pe_ix (ixL K) (pv 0) pe_int (fun _ _ => rfl)) (pe_callB (lenK K) (by rfl) T.len PySem.boot_len (pa_cons (pe_ix (ixL K) (pv 0) pe_int (fun _ _ => rfl)) pa_nil)) (nomark _)) (pss_cons (ps_asg (pe_op op_mod (pe_callTy call_int1 (by rfl) T.int (by decide +kernel) (pa_cons (pe_op op_add (pe_op op_mul (pe_ix (ixL K) (pv 0) pe_int (fun _ _ => rfl)) pe_int) pe_int) pa_nil)) pe_int) (pg_sub (pv 0) pe_int set_list))
      (pss_one (ps_ret (pe_op op_mod (pe_callTy call_int1 (by rfl) T.int (by decide +kernel) (pa_cons (pe_op op_fdiv (pe_ix (ixL K) (pv 0) pe_int (fun _ _ => rfl)) pe_int) pa_nil)) (pv 1))))) pss_nil)
      (pss_cons (ps_set (i := 3) sc__law_taken.nd rfl (Or.inl rfl) (pe_ix (ixA K) (pe_ix (ixL K) (pv 0) pe_int (fun _ _ => rfl)) (pe_op op_sub (pe_ix (ixL K) (pv 0) pe_int (fun _ _ => rfl)) pe_int) (fun _ _ => rfl)))
      (pss_cons (ps_asg (pe_op op_mod (pe_callTy call_int1 (by rfl) T.int (by decide +kernel) (pa_cons (pe_op op_add (pe_op op_add (pe_op op_mul (pe_ix (ixL K) (pv 0) pe_int (fun _ _ => rfl)) pe_int) (pv 3)) pe_int) pa_nil)) pe_int) (pg_sub (pv 0) pe_int set_list))
      (pss_cons (ps_if (pt_cmpR op_ge (pv 3) (pe_op op_pow pe_int pe_int) (nomark _)) (pss_one (ps_asg (pe_op op_fdiv (pv 3) (pv 1)) (pg_sub (pv 0) pe_int set_list))) pss_nil)
      (pss_one (ps_ret (pe_op op_mod (pe_callTy call_int1 (by rfl) T.int (by decide +kernel) (pa_cons (pv 3) pa_nil)) (pv 1)))))))))), ?_⟩
    refine s_when (gt_test (gd_op (gd_ixV (j := 3) (i := 0) rfl hr0 rfl (.int rest)) gd_i r_intB)) (fun e H1 e1 => ?_) fun e H1 e1 => ?_
    · -- what is left of a great number
      have h1 := e1 _ _ hr0
      refine s_asg (K := K) (gd_op (gd_cb (ga1 (gd_ixV (j := 3) (i := 0) rfl h1 rfl (.int rest))) rc_int) (gd_var rfl (.int n)) (r_intC (by omega))) fun v H2 e2 hv => ?_
      cases hv
      have h2 := e2 _ _ h1
      dsimp only
      refine s_setL (K := K) (j := 3) h2 (at_var rfl) gd_i (by simp) (gd_op (gd_ixV (j := 3) (i := 0) rfl h2 rfl (.int rest)) (gd_var rfl (.int n)) (r_intC ⟨hn, hn2⟩)) fun v H3 e3 hv => ?_
      cases hv
      dsimp only
      refine s_ret (K := K) (gd_var rfl (.int _)) fun v H4 e4 hv => ?_
      cases hv
      have e13 := (e1.trans e2).trans e3
      refine k _ H4 (Int.emod_nonneg _ (by omega)) (Int.emod_lt_of_pos _ hn) (((But.of e13).trans (But.upd (by simp))).trans (.of e4)) ⟨pos, rng, _, e4 _ _ upd_same, same_l e4 (lkeep (S := (a, ns)) (same_l e13 hs) hne), hne, hl, hp⟩
    · dsimp only
      have h1 := e1 _ _ hr0
      refine s_setL (K := K) (j := 1) h1 (at_var rfl) gd_i (by simp) (gd_op (gd_ixV (j := 1) (i := 0) rfl h1 rfl (.int pos)) gd_i r_int) fun v H2 e2 hv => ?_
      cases hv
      have e12 := e1.trans e2
      generalize hG : upd H2 r _ = G
      have hGr : G r = some (.lst [.ref a, .int (pos + 1), .int rng, .int rest]) := by rw [← hG]; exact upd_same
      have hGs : SqL K G a (ns.map V.int) := by rw [← hG]; exact lkeep (S := (a, ns)) (same_l e12 hs) hne
      have hGb : But [r] H G := by rw [← hG]; exact (But.of e12).trans (But.upd (by simp))
      dsimp only
      have hlen : GD K (tCB (Cc.rLen K) (tCons (tOp (rIxL K) (tVar 0) (tC (.int 0))) tNil)) [some (.ref r), some (.int n), none, none] G (.int (ns.length : Nat)) := fun H3 e Q q =>
        ⟨.ref r, rfl, r, _, 0, .ref a, rfl, rfl, SqL.of (e _ _ hGr), rfl, .ref a, ns.length, rfl, .inl ⟨_, same_l e hGs, by simp⟩, q _ H3 (Same.refl _) (.int _)⟩
      refine s_when (gt_test (gd_op (gd_ixV (j := 1) (i := 0) rfl hGr rfl (.int (pos + 1))) hlen r_intB)) (fun e H3 e3 => ?_) fun e H3 e3 => ?_
      · -- behind the script's end
        have h3 := e3 _ _ hGr
        refine s_setL (K := K) (j := 2) h3 (at_var rfl) gd_i (by simp) (gd_op (gd_cb (ga1 (gd_op (gd_op (gd_ixV (j := 2) (i := 0) rfl h3 rfl (.int rng)) gd_i (r_intC (.inr (by decide)))) gd_i r_int)) rc_int) gd_i (r_intC (by decide))) fun v H4 e4 hv => ?_
        cases hv
        dsimp only
        generalize hR : (rng * 48271 + 11) % 2147483647 = R
        refine s_ret (K := K) (gd_op (gd_cb (ga1 (gd_op (gd_ixV (xs := [.ref a, .int (pos + 1), .int R, .int rest]) (j := 2) (i := 0) rfl upd_same rfl (.int R)) gd_i (r_intC ⟨by decide, by decide⟩))) rc_int) (gd_var rfl (.int n)) (r_intC hn)) fun v H5 e5 hv => ?_
        cases hv
        refine k _ H5 (Int.emod_nonneg _ (by omega)) (Int.emod_lt_of_pos _ hn) ((hGb.trans (.of (e3.trans e4))).trans ((But.upd (by simp)).trans (.of e5))) ⟨pos + 1, R, rest, e5 _ _ upd_same, same_l e5 (lkeep (S := (a, ns)) (same_l (e3.trans e4) hGs) hne), hne, hl, by omega⟩
      · have hlt : pos < ns.length := by
          simp at e
          omega
        obtain ⟨j, rfl⟩ : ∃ j : Nat, pos = j := ⟨pos.toNat, by omega⟩
        obtain ⟨c, hc⟩ : ∃ c, ns[j]? = some c := ⟨ns[j]'(by omega), by simp⟩
        have h3 := e3 _ _ hGr
        have hcell : GD K (tOp (rIx K) (tOp (rIxL K) (tVar 0) (tC (.int 0))) (tOp (rI0 fun i j => .int (i - j)) (tOp (rIxL K) (tVar 0) (tC (.int 1))) (tC (.int 1)))) [some (.ref r), some (.int n), none, none] H3 (.int c) := fun H4 e Q q =>
          ⟨.ref r, rfl, r, _, 0, .ref a, rfl, rfl, SqL.of (e _ _ h3), rfl, .ref r, rfl, r, _, 1, .int ((j : Nat) + 1), rfl, rfl, SqL.of (e _ _ h3), rfl, (j : Nat) + 1, 1, rfl, rfl, .inl ⟨a, _, (j : Nat) + 1 - 1, .int c, rfl, rfl, same_l (e3.trans e) hGs, by
            rw [show ((j : Nat) : Int) + 1 - 1 = (j : Nat) by omega]
            exact atI_nat (by rw [List.getElem?_map, hc]; rfl), q _ H4 (Same.refl _) (.int _)⟩⟩
        dsimp only
        refine s_asg (K := K) hcell fun v H4 e4 hv => ?_
        cases hv
        have h4 := e4 _ _ h3
        dsimp only
        refine s_setL (K := K) (j := 2) h4 (at_var rfl) gd_i (by simp) (gd_op (gd_cb (ga1 (gd_op (gd_op (gd_op (gd_ixV (j := 2) (i := 0) rfl h4 rfl (.int rng)) gd_i (r_intC (.inr (by decide)))) (gd_var rfl (.int c)) r_int) gd_i r_int)) rc_int) gd_i (r_intC (by decide))) fun v H5 e5 hv => ?_
        cases hv
        generalize hR : (rng * 48271 + c + 11) % 2147483647 = R
        dsimp only
        have hu : upd H5 r (.lst ([.ref a, .int ((j : Nat) + 1), .int rng, .int rest].set 2 (.int R))) r = some (.lst [.ref a, .int ((j : Nat) + 1), .int R, .int rest]) := upd_same
        generalize hV : upd H5 r (.lst ([.ref a, .int ((j : Nat) + 1), .int rng, .int rest].set 2 (.int R))) = W at hu
        have hWb : But [r] H W := by rw [← hV]; exact (hGb.trans (.of ((e3.trans e4).trans e5))).trans (But.upd (by simp))
        have hWs : SqL K W a (ns.map V.int) := by rw [← hV]; exact lkeep (S := (a, ns)) (same_l ((e3.trans e4).trans e5) hGs) hne
        have big : Cc.GT (tTest (tOp (rI0 fun i j => .bl (decide (j ≤ i))) (tVar 3) (tOp (rI CPow fun i j => .int (i ^ j.toNat)) (tC (.int 10)) (tC (.int 18))))) [some (.ref r), some (.int n), none, some (.int c)] W (decide ((10 : Int) ^ ((18 : Int).toNat) ≤ c)) := gt_test (K := K) (gd_op (gd_var rfl (.int c)) (gd_op gd_i gd_i (r_intC ⟨by decide, by decide, by decide⟩)) r_intB)
        refine s_if big (fun _ H6 e6 => ?_) (fun _ H6 e6 => ?_)
        · have hu6 := e6 _ _ hu
          refine s_setL (K := K) (j := 3) hu6 (at_var rfl) gd_i (by simp) (gd_op (gd_var rfl (.int c)) (gd_var rfl (.int n)) (r_intC ⟨hn, hn2⟩)) fun v H7 e7 hv => ?_
          cases hv
          dsimp only
          refine s_ret (K := K) (gd_op (gd_cb (ga1 (gd_var rfl (.int c))) rc_int) (gd_var rfl (.int n)) (r_intC hn)) fun v H8 e8 hv => ?_
          cases hv
          exact k _ H8 (Int.emod_nonneg _ (by omega)) (Int.emod_lt_of_pos _ hn) ((hWb.trans (.of (e6.trans e7))).trans ((But.upd (by simp)).trans (.of e8))) ⟨(j : Nat) + 1, R, c / n, e8 _ _ upd_same, same_l e8 (lkeep (S := (a, ns)) (same_l (e6.trans e7) hWs) hne), hne, hl, by omega⟩
        · dsimp only
          refine s_ret (K := K) (gd_op (gd_cb (ga1 (gd_var rfl (.int c))) rc_int) (gd_var rfl (.int n)) (r_intC hn)) fun v H7 e7 hv => ?_
          cases hv
          exact k _ H7 (Int.emod_nonneg _ (by omega)) (Int.emod_lt_of_pos _ hn) (hWb.trans (.of (e6.trans e7))) ⟨(j : Nat) + 1, R, rest, (e6.trans e7) _ _ hu, same_l (e6.trans e7) hWs, hne, hl, by omega⟩
end
end My

namespace My
open PySem L2 RZ Cc Mi PyProof.Rows
abbrev pwK : Program := PySem.Challenge.pw_coldcrates_k47_codes_rejected
def CT (C A_Reader : Addr) : List Str → Option Addr := fun ns => if stP ns = true then some C else if P_Reader ns = true then some A_Reader else none
def CL (C A_Reader : Addr) : Nat → Addr
  | 1 => A_Reader
  | _ => C
theorem dis_Reader {ns : List Str} (h : P_Reader ns = true) : stP ns = false := by
  cases h2 : stP ns with
  | false => rfl
  | true =>
    exfalso
    cases ns with
    | nil => cases h
    | cons x r =>
      simp only [stP, P_Reader, List.isEmpty_cons, Bool.not_false, Bool.true_and, List.isPrefixOf, Bool.and_eq_true, beq_iff_eq] at h h2
      exact absurd (h.1.symm.trans h2.1) (by decide)
theorem CT_Reader {C A_Reader : Addr} {ns : List Str} (h : P_Reader ns = true) : CT C A_Reader ns = some A_Reader := by
  unfold CT
  rw [dis_Reader h, if_neg Bool.false_ne_true, if_pos h]
def EAf (e_DecodeError e_InvalidStore A_Reader : Addr) : Str → Addr := fun x => if x = ("DecodeError" : Str) then e_DecodeError else if x = ("InvalidStore" : Str) then e_InvalidStore else if x = ("Reader" : Str) then A_Reader else 0
def FIf (fI_DecodeError fI_InvalidStore : Addr) : Str → Addr := fun x => if x = ("DecodeError" : Str) then fI_DecodeError else if x = ("InvalidStore" : Str) then fI_InvalidStore else 0
def EFf : Str → List Str := fun x => if x = ("DecodeError" : Str) then ["offset"] else if x = ("InvalidStore" : Str) then ["part"] else []
theorem all_mk {w : World} {K : Fg} {h : Heap} {mg : Str → Option Value} {fa : Addr} (X : K.In h) (G : h.Ns mainGlobals mg) (hfa : mg "law" = some (.ref fa))
    {C CE : Addr}
    {oc_is_number kV_is_number dc_is_number pm_is_number ct_is_number cd_is_number : Value}
    {od_is_number an_is_number : Option Addr}
    {sl_is_number : Array (Option Value)}
    {f_is_number : Addr}
    {oc_is_word kV_is_word dc_is_word pm_is_word ct_is_word cd_is_word : Value}
    {od_is_word an_is_word : Option Addr}
    {sl_is_word : Array (Option Value)}
    {f_is_word : Addr}
    {oc_is_door kV_is_door dc_is_door pm_is_door ct_is_door cd_is_door : Value}
    {od_is_door an_is_door : Option Addr}
    {sl_is_door : Array (Option Value)}
    {f_is_door : Addr}
    {oc_doors_fit kV_doors_fit dc_doors_fit pm_doors_fit ct_doors_fit cd_doors_fit : Value}
    {od_doors_fit an_doors_fit : Option Addr}
    {sl_doors_fit : Array (Option Value)}
    {f_doors_fit : Addr}
    {oc_crates_fit kV_crates_fit dc_crates_fit pm_crates_fit ct_crates_fit cd_crates_fit : Value}
    {od_crates_fit an_crates_fit : Option Addr}
    {sl_crates_fit : Array (Option Value)}
    {f_crates_fit : Addr}
    {oc_places_behind kV_places_behind dc_places_behind pm_places_behind ct_places_behind cd_places_behind : Value}
    {od_places_behind an_places_behind : Option Addr}
    {sl_places_behind : Array (Option Value)}
    {f_places_behind : Addr}
    {oc_checksum_of kV_checksum_of dc_checksum_of pm_checksum_of ct_checksum_of cd_checksum_of : Value}
    {od_checksum_of an_checksum_of : Option Addr}
    {sl_checksum_of : Array (Option Value)}
    {f_checksum_of : Addr}
    {oc_encode_store kV_encode_store dc_encode_store pm_encode_store ct_encode_store cd_encode_store : Value}
    {od_encode_store an_encode_store : Option Addr}
    {sl_encode_store : Array (Option Value)}
    {f_encode_store : Addr}
    {oc_read_word kV_read_word dc_read_word pm_read_word ct_read_word cd_read_word : Value}
    {od_read_word an_read_word : Option Addr}
    {sl_read_word : Array (Option Value)}
    {f_read_word : Addr}
    {oc_decode_store kV_decode_store dc_decode_store pm_decode_store ct_decode_store cd_decode_store : Value}
    {od_decode_store an_decode_store : Option Addr}
    {sl_decode_store : Array (Option Value)}
    {f_decode_store : Addr}
    {oc__law_taken kV__law_taken dc__law_taken pm__law_taken ct__law_taken cd__law_taken : Value}
    {od__law_taken an__law_taken : Option Addr}
    {sl__law_taken : Array (Option Value)}
    {f__law_taken : Addr}
    {oc__law_store kV__law_store dc__law_store pm__law_store ct__law_store cd__law_store : Value}
    {od__law_store an__law_store : Option Addr}
    {sl__law_store : Array (Option Value)}
    {f__law_store : Addr}
    {oc__law_checked kV__law_checked dc__law_checked pm__law_checked ct__law_checked cd__law_checked : Value}
    {od__law_checked an__law_checked : Option Addr}
    {sl__law_checked : Array (Option Value)}
    {f__law_checked : Addr}
    {oc__law_offset kV__law_offset dc__law_offset pm__law_offset ct__law_offset cd__law_offset : Value}
    {od__law_offset an__law_offset : Option Addr}
    {sl__law_offset : Array (Option Value)}
    {f__law_offset : Addr}
    {oc_law kV_law dc_law pm_law ct_law cd_law : Value}
    {od_law an_law : Option Addr}
    {sl_law : Array (Option Value)}
    {f_law : Addr}
    {oc_m__len__ kV_m__len__ dc_m__len__ pm_m__len__ ct_m__len__ cd_m__len__ : Value}
    {od_m__len__ an_m__len__ : Option Addr}
    {sl_m__len__ : Array (Option Value)}
    {f_m__len__ : Addr}
    {oc_m__init__ kV_m__init__ dc_m__init__ pm_m__init__ ct_m__init__ cd_m__init__ : Value}
    {od_m__init__ an_m__init__ : Option Addr}
    {sl_m__init__ : Array (Option Value)}
    {f_m__init__ : Addr}
    {p_pcrates : Addr}
    {r_pcrates : List Value}
    {oc_pcrates kV_pcrates dc_pcrates pm_pcrates ct_pcrates cd_pcrates : Value}
    {od_pcrates an_pcrates : Option Addr}
    {sl_pcrates : Array (Option Value)}
    {f_pcrates : Addr}
    {p_pdoors : Addr}
    {r_pdoors : List Value}
    {oc_pdoors kV_pdoors dc_pdoors pm_pdoors ct_pdoors cd_pdoors : Value}
    {od_pdoors an_pdoors : Option Addr}
    {sl_pdoors : Array (Option Value)}
    {f_pdoors : Addr}
    {e_DecodeError : Addr}
    {nm_DecodeError qn_DecodeError : Str}
    {N_DecodeError : Addr}
    {bs_DecodeError sub_DecodeError : List Value}
    {sn_DecodeError : List Str}
    {ab_DecodeError : Bool}
    {col_DecodeError : Option Bool}
    {dd_DecodeError : Option Addr}
    {k0_DecodeError k1_DecodeError k2_DecodeError k3_DecodeError k5_DecodeError : Option Value}
    {fI_DecodeError cda_DecodeError ccI_DecodeError : Addr}
    {ocI_DecodeError dcI_DecodeError pmI_DecodeError ctI_DecodeError cclI_DecodeError clI_DecodeError : Value}
    {odI_DecodeError anI_DecodeError cddI_DecodeError cldI_DecodeError : Option Addr}
    {slI_DecodeError ccsI_DecodeError cslI_DecodeError : Array (Option Value)}
    {vsI_DecodeError : Array Value}
    {fileI_DecodeError : Str}
    {tfI_DecodeError : Tok}
    {e_InvalidStore : Addr}
    {nm_InvalidStore qn_InvalidStore : Str}
    {N_InvalidStore : Addr}
    {bs_InvalidStore sub_InvalidStore : List Value}
    {sn_InvalidStore : List Str}
    {ab_InvalidStore : Bool}
    {col_InvalidStore : Option Bool}
    {dd_InvalidStore : Option Addr}
    {k0_InvalidStore k1_InvalidStore k2_InvalidStore k3_InvalidStore k5_InvalidStore : Option Value}
    {fI_InvalidStore cda_InvalidStore ccI_InvalidStore : Addr}
    {ocI_InvalidStore dcI_InvalidStore pmI_InvalidStore ctI_InvalidStore cclI_InvalidStore clI_InvalidStore : Value}
    {odI_InvalidStore anI_InvalidStore cddI_InvalidStore cldI_InvalidStore : Option Addr}
    {slI_InvalidStore ccsI_InvalidStore cslI_InvalidStore : Array (Option Value)}
    {vsI_InvalidStore : Array Value}
    {fileI_InvalidStore : Str}
    {tfI_InvalidStore : Tok}
    {t_CHECKSUM_AT_FIRST : Tok}
    {t_CHECKSUM_FACTOR : Tok}
    {t_CHECKSUM_MODULUS : Tok}
    {t_LETTERS : Tok}
    {t_LONGEST_WORD : Tok}
    {t_MARK : Tok}
    {t_MOST_BEHIND : Tok}
    {t_MOST_CRATES : Tok}
    {t_MOST_DOORS : Tok}
    {t_MOST_PLACES : Tok}
    {t_MOST_WARMTH : Tok}
    {A_Reader : Addr}
    {oc_mReader___init__ kV_mReader___init__ dc_mReader___init__ pm_mReader___init__ ct_mReader___init__ cd_mReader___init__ : Value}
    {od_mReader___init__ an_mReader___init__ : Option Addr}
    {sl_mReader___init__ : Array (Option Value)}
    {f_mReader___init__ : Addr}
    {oc_mReader_read kV_mReader_read dc_mReader_read pm_mReader_read ct_mReader_read cd_mReader_read : Value}
    {od_mReader_read an_mReader_read : Option Addr}
    {sl_mReader_read : Array (Option Value)}
    {f_mReader_read : Addr}
    {oc_mReader_read_end kV_mReader_read_end dc_mReader_read_end pm_mReader_read_end ct_mReader_read_end cd_mReader_read_end : Value}
    {od_mReader_read_end an_mReader_read_end : Option Addr}
    {sl_mReader_read_end : Array (Option Value)}
    {f_mReader_read_end : Addr}
    (a_is_number : PySem.W.nsIn K mainGlobals "is_number" = some (some (.ref f_is_number)))
    (l_is_number : K.lookup f_is_number = some ⟨oc_is_number, od_is_number, .func (PySem.W.fnOf "is_number" "is_number" (defArgs s_is_number) (defBody s_is_number) (defScope s_is_number) .none kV_is_number dc_is_number pm_is_number an_is_number cd_is_number ct_is_number), sl_is_number⟩)
    (c_is_number : PySem.W.codeIn K cd_is_number "is_number" = true)
    (k_is_number : PySem.W.keepIn K (.ref f_is_number) = true)
    (a_is_word : PySem.W.nsIn K mainGlobals "is_word" = some (some (.ref f_is_word)))
    (l_is_word : K.lookup f_is_word = some ⟨oc_is_word, od_is_word, .func (PySem.W.fnOf "is_word" "is_word" (defArgs s_is_word) (defBody s_is_word) (defScope s_is_word) .none kV_is_word dc_is_word pm_is_word an_is_word cd_is_word ct_is_word), sl_is_word⟩)
    (c_is_word : PySem.W.codeIn K cd_is_word "is_word" = true)
    (k_is_word : PySem.W.keepIn K (.ref f_is_word) = true)
    (a_is_door : PySem.W.nsIn K mainGlobals "is_door" = some (some (.ref f_is_door)))
    (l_is_door : K.lookup f_is_door = some ⟨oc_is_door, od_is_door, .func (PySem.W.fnOf "is_door" "is_door" (defArgs s_is_door) (defBody s_is_door) (defScope s_is_door) .none kV_is_door dc_is_door pm_is_door an_is_door cd_is_door ct_is_door), sl_is_door⟩)
    (c_is_door : PySem.W.codeIn K cd_is_door "is_door" = true)
    (k_is_door : PySem.W.keepIn K (.ref f_is_door) = true)
    (a_doors_fit : PySem.W.nsIn K mainGlobals "doors_fit" = some (some (.ref f_doors_fit)))
    (l_doors_fit : K.lookup f_doors_fit = some ⟨oc_doors_fit, od_doors_fit, .func (PySem.W.fnOf "doors_fit" "doors_fit" (defArgs s_doors_fit) (defBody s_doors_fit) (defScope s_doors_fit) .none kV_doors_fit dc_doors_fit pm_doors_fit an_doors_fit cd_doors_fit ct_doors_fit), sl_doors_fit⟩)
    (c_doors_fit : PySem.W.codeIn K cd_doors_fit "doors_fit" = true)
    (k_doors_fit : PySem.W.keepIn K (.ref f_doors_fit) = true)
    (a_crates_fit : PySem.W.nsIn K mainGlobals "crates_fit" = some (some (.ref f_crates_fit)))
    (l_crates_fit : K.lookup f_crates_fit = some ⟨oc_crates_fit, od_crates_fit, .func (PySem.W.fnOf "crates_fit" "crates_fit" (defArgs s_crates_fit) (defBody s_crates_fit) (defScope s_crates_fit) .none kV_crates_fit dc_crates_fit pm_crates_fit an_crates_fit cd_crates_fit ct_crates_fit), sl_crates_fit⟩)
    (c_crates_fit : PySem.W.codeIn K cd_crates_fit "crates_fit" = true)
    (k_crates_fit : PySem.W.keepIn K (.ref f_crates_fit) = true)
    (a_places_behind : PySem.W.nsIn K mainGlobals "places_behind" = some (some (.ref f_places_behind)))
    (l_places_behind : K.lookup f_places_behind = some ⟨oc_places_behind, od_places_behind, .func (PySem.W.fnOf "places_behind" "places_behind" (defArgs s_places_behind) (defBody s_places_behind) (defScope s_places_behind) .none kV_places_behind dc_places_behind pm_places_behind an_places_behind cd_places_behind ct_places_behind), sl_places_behind⟩)
    (c_places_behind : PySem.W.codeIn K cd_places_behind "places_behind" = true)
    (k_places_behind : PySem.W.keepIn K (.ref f_places_behind) = true)
    (a_checksum_of : PySem.W.nsIn K mainGlobals "checksum_of" = some (some (.ref f_checksum_of)))
    (l_checksum_of : K.lookup f_checksum_of = some ⟨oc_checksum_of, od_checksum_of, .func (PySem.W.fnOf "checksum_of" "checksum_of" (defArgs s_checksum_of) (defBody s_checksum_of) (defScope s_checksum_of) .none kV_checksum_of dc_checksum_of pm_checksum_of an_checksum_of cd_checksum_of ct_checksum_of), sl_checksum_of⟩)
    (c_checksum_of : PySem.W.codeIn K cd_checksum_of "checksum_of" = true)
    (k_checksum_of : PySem.W.keepIn K (.ref f_checksum_of) = true)
    (a_encode_store : PySem.W.nsIn K mainGlobals "encode_store" = some (some (.ref f_encode_store)))
    (l_encode_store : K.lookup f_encode_store = some ⟨oc_encode_store, od_encode_store, .func (PySem.W.fnOf "encode_store" "encode_store" (defArgs s_encode_store) (defBody s_encode_store) (defScope s_encode_store) .none kV_encode_store dc_encode_store pm_encode_store an_encode_store cd_encode_store ct_encode_store), sl_encode_store⟩)
    (c_encode_store : PySem.W.codeIn K cd_encode_store "encode_store" = true)
    (k_encode_store : PySem.W.keepIn K (.ref f_encode_store) = true)
    (a_read_word : PySem.W.nsIn K mainGlobals "read_word" = some (some (.ref f_read_word)))
    (l_read_word : K.lookup f_read_word = some ⟨oc_read_word, od_read_word, .func (PySem.W.fnOf "read_word" "read_word" (defArgs s_read_word) (defBody s_read_word) (defScope s_read_word) .none kV_read_word dc_read_word pm_read_word an_read_word cd_read_word ct_read_word), sl_read_word⟩)
    (c_read_word : PySem.W.codeIn K cd_read_word "read_word" = true)
    (k_read_word : PySem.W.keepIn K (.ref f_read_word) = true)
    (a_decode_store : PySem.W.nsIn K mainGlobals "decode_store" = some (some (.ref f_decode_store)))
    (l_decode_store : K.lookup f_decode_store = some ⟨oc_decode_store, od_decode_store, .func (PySem.W.fnOf "decode_store" "decode_store" (defArgs s_decode_store) (defBody s_decode_store) (defScope s_decode_store) .none kV_decode_store dc_decode_store pm_decode_store an_decode_store cd_decode_store ct_decode_store), sl_decode_store⟩)
    (c_decode_store : PySem.W.codeIn K cd_decode_store "decode_store" = true)
    (k_decode_store : PySem.W.keepIn K (.ref f_decode_store) = true)
    (a__law_taken : PySem.W.nsIn K mainGlobals "_law_taken" = some (some (.ref f__law_taken)))
    (l__law_taken : K.lookup f__law_taken = some ⟨oc__law_taken, od__law_taken, .func (PySem.W.fnOf "_law_taken" "_law_taken" (defArgs s__law_taken) (defBody s__law_taken) (defScope s__law_taken) .none kV__law_taken dc__law_taken pm__law_taken an__law_taken cd__law_taken ct__law_taken), sl__law_taken⟩)
    (c__law_taken : PySem.W.codeIn K cd__law_taken "_law_taken" = true)
    (k__law_taken : PySem.W.keepIn K (.ref f__law_taken) = true)
    (a__law_store : PySem.W.nsIn K mainGlobals "_law_store" = some (some (.ref f__law_store)))
    (l__law_store : K.lookup f__law_store = some ⟨oc__law_store, od__law_store, .func (PySem.W.fnOf "_law_store" "_law_store" (defArgs s__law_store) (defBody s__law_store) (defScope s__law_store) .none kV__law_store dc__law_store pm__law_store an__law_store cd__law_store ct__law_store), sl__law_store⟩)
    (c__law_store : PySem.W.codeIn K cd__law_store "_law_store" = true)
    (k__law_store : PySem.W.keepIn K (.ref f__law_store) = true)
    (a__law_checked : PySem.W.nsIn K mainGlobals "_law_checked" = some (some (.ref f__law_checked)))
    (l__law_checked : K.lookup f__law_checked = some ⟨oc__law_checked, od__law_checked, .func (PySem.W.fnOf "_law_checked" "_law_checked" (defArgs s__law_checked) (defBody s__law_checked) (defScope s__law_checked) .none kV__law_checked dc__law_checked pm__law_checked an__law_checked cd__law_checked ct__law_checked), sl__law_checked⟩)
    (c__law_checked : PySem.W.codeIn K cd__law_checked "_law_checked" = true)
    (k__law_checked : PySem.W.keepIn K (.ref f__law_checked) = true)
    (a__law_offset : PySem.W.nsIn K mainGlobals "_law_offset" = some (some (.ref f__law_offset)))
    (l__law_offset : K.lookup f__law_offset = some ⟨oc__law_offset, od__law_offset, .func (PySem.W.fnOf "_law_offset" "_law_offset" (defArgs s__law_offset) (defBody s__law_offset) (defScope s__law_offset) .none kV__law_offset dc__law_offset pm__law_offset an__law_offset cd__law_offset ct__law_offset), sl__law_offset⟩)
    (c__law_offset : PySem.W.codeIn K cd__law_offset "_law_offset" = true)
    (k__law_offset : PySem.W.keepIn K (.ref f__law_offset) = true)
    (a_law : PySem.W.nsIn K mainGlobals "law" = some (some (.ref f_law)))
    (l_law : K.lookup f_law = some ⟨oc_law, od_law, .func (PySem.W.fnOf "law" "law" (defArgs s_law) (defBody s_law) (defScope s_law) .none kV_law dc_law pm_law an_law cd_law ct_law), sl_law⟩)
    (c_law : PySem.W.codeIn K cd_law "law" = true)
    (k_law : PySem.W.keepIn K (.ref f_law) = true)
    (a_Store : PySem.W.nsIn K mainGlobals "Store" = some (some (.ref C)))
    (a_m__len__ : PySem.W.findIn K (.ref C) "__len__" = some (some (.ref f_m__len__)))
    (i_m__len__ : PySem.W.isFn K (.ref f_m__len__) = true)
    (l_m__len__ : K.lookup f_m__len__ = some ⟨oc_m__len__, od_m__len__, .func (PySem.W.fnOf "__len__" "Store.__len__" (defArgs s_Store___len__) (defBody s_Store___len__) (defScope s_Store___len__) .none kV_m__len__ dc_m__len__ pm_m__len__ an_m__len__ cd_m__len__ ct_m__len__), sl_m__len__⟩)
    (c_m__len__ : PySem.W.codeIn K cd_m__len__ "Store.__len__" = true)
    (k_m__len__ : PySem.W.keepIn K (.ref f_m__len__) = true)
    (a_m__init__ : PySem.W.findIn K (.ref C) "__init__" = some (some (.ref f_m__init__)))
    (i_m__init__ : PySem.W.isFn K (.ref f_m__init__) = true)
    (l_m__init__ : K.lookup f_m__init__ = some ⟨oc_m__init__, od_m__init__, .func (PySem.W.fnOf "__init__" "Store.__init__" (defArgs s_Store___init__) (defBody s_Store___init__) (defScope s_Store___init__) .none kV_m__init__ dc_m__init__ pm_m__init__ an_m__init__ cd_m__init__ ct_m__init__), sl_m__init__⟩)
    (c_m__init__ : PySem.W.codeIn K cd_m__init__ "Store.__init__" = true)
    (k_m__init__ : PySem.W.keepIn K (.ref f_m__init__) = true)
    (a_pcrates : PySem.W.findIn K (.ref C) "crates" = some (some (.ref p_pcrates)))
    (g_pcrates : PySem.W.specialIn K (.ref p_pcrates) "__get__" = some (some (.builtin "property.__get__")))
    (t_pcrates : PySem.W.takesIn K (.ref p_pcrates) = some true)
    (e_pcrates : PySem.W.recIn K p_pcrates "property" = some (.ref f_pcrates :: r_pcrates))
    (l_pcrates : K.lookup f_pcrates = some ⟨oc_pcrates, od_pcrates, .func (PySem.W.fnOf "crates" "Store.crates" (defArgs s_Store_crates) (defBody s_Store_crates) (defScope s_Store_crates) .none kV_pcrates dc_pcrates pm_pcrates an_pcrates cd_pcrates ct_pcrates), sl_pcrates⟩)
    (c_pcrates : PySem.W.codeIn K cd_pcrates "Store.crates" = true)
    (k_pcrates : PySem.W.keepIn K (.ref f_pcrates) = true)
    (a_pdoors : PySem.W.findIn K (.ref C) "doors" = some (some (.ref p_pdoors)))
    (g_pdoors : PySem.W.specialIn K (.ref p_pdoors) "__get__" = some (some (.builtin "property.__get__")))
    (t_pdoors : PySem.W.takesIn K (.ref p_pdoors) = some true)
    (e_pdoors : PySem.W.recIn K p_pdoors "property" = some (.ref f_pdoors :: r_pdoors))
    (l_pdoors : K.lookup f_pdoors = some ⟨oc_pdoors, od_pdoors, .func (PySem.W.fnOf "doors" "Store.doors" (defArgs s_Store_doors) (defBody s_Store_doors) (defScope s_Store_doors) .none kV_pdoors dc_pdoors pm_pdoors an_pdoors cd_pdoors ct_pdoors), sl_pdoors⟩)
    (c_pdoors : PySem.W.codeIn K cd_pdoors "Store.doors" = true)
    (k_pdoors : PySem.W.keepIn K (.ref f_pdoors) = true)
    (s_pg : PySem.W.plainGet K C Str.empty = true)
    (s_hd : PySem.W.hasDictIn K C = true)
    (s_po : PySem.W.plainOver K C = true)
    (s_sa : PySem.W.findIn K (.ref C) "__setattr__" = some (some (.builtin "object.__setattr__")))
    (s_mk : PySem.W.makesIn K C = true)
    (s_kc : PySem.W.keepIn K (.ref C) = true)
    (s_nplaces : PySem.W.findIn K (.ref C) "_places" = some none)
    (s_nsize : PySem.W.findIn K (.ref C) "_size" = some none)
    (s_ndoors : PySem.W.findIn K (.ref C) "_doors" = some none)
    (s_ncrates : PySem.W.findIn K (.ref C) "_crates" = some none)
    (a_DecodeError : PySem.W.nsIn K mainGlobals "DecodeError" = some (some (.ref e_DecodeError)))
    (ob_DecodeError : K.lookup e_DecodeError = some (excClassObj nm_DecodeError qn_DecodeError e_DecodeError N_DecodeError bs_DecodeError [.ref CE, .type "ValueError", .type "Exception", .type "BaseException", .type "object"] true sn_DecodeError sub_DecodeError ab_DecodeError col_DecodeError dd_DecodeError k0_DecodeError k1_DecodeError k2_DecodeError k3_DecodeError k5_DecodeError "ValueError.__new__"))
    (sa_DecodeError : PySem.W.findIn K (.ref e_DecodeError) "__setattr__" = some (some (.builtin "object.__setattr__")))
    (iC_DecodeError : PySem.W.findIn K (.ref e_DecodeError) "__init__" = some (some (.ref fI_DecodeError)))
    (tC_DecodeError : PySem.W.typeIn K (.ref fI_DecodeError) = some (.type "function"))
    (ve_DecodeError : PySem.W.subIn K (.ref e_DecodeError) (.type "ValueError") = some true)
    (slf_DecodeError : PySem.W.mroIn K e_DecodeError (.ref e_DecodeError) = some true)
    (op_DecodeError : PySem.W.nsIn K cStatics "thirdparty.any" = some none)
    (al_DecodeError : PySem.W.ks_superIn K e_DecodeError e_DecodeError "__init__" = some (some (.builtin "ValueError.__init__")))
    (li_DecodeError : K.lookup fI_DecodeError = some ⟨ocI_DecodeError, odI_DecodeError, .func (PySem.W.ksFn "__init__" "DecodeError.__init__" (defArgs s_DecodeError___init__) (defBody s_DecodeError___init__) (defScope s_DecodeError___init__) .none .none dcI_DecodeError pmI_DecodeError anI_DecodeError (.ref cda_DecodeError) ctI_DecodeError ccI_DecodeError), slI_DecodeError⟩)
    (ci_DecodeError : PySem.W.codeIn K (.ref cda_DecodeError) "DecodeError.__init__" = true)
    (cd_DecodeError : K.lookup cda_DecodeError = some ⟨cclI_DecodeError, cddI_DecodeError, .fields vsI_DecodeError, ccsI_DecodeError⟩)
    (v2_DecodeError : vsI_DecodeError[2]? = some (.str fileI_DecodeError tfI_DecodeError))
    (fi_DecodeError : ((PySem.Challenge.pw_coldcrates_k47_codes_rejected.main.file : Str) == fileI_DecodeError) = true)
    (cc_DecodeError : K.lookup ccI_DecodeError = some ⟨clI_DecodeError, cldI_DecodeError, .cell (some (.ref e_DecodeError)), cslI_DecodeError⟩)
    (no_DecodeError : PySem.W.findIn K (.ref e_DecodeError) "offset" = some none)
    (kC_DecodeError : PySem.W.keepIn K (.ref e_DecodeError) = true)
    (exC_DecodeError : PySem.W.subIn K (.ref e_DecodeError) (.type "BaseException") = some true)
    (tyC_DecodeError : PySem.W.typeIn K (.ref e_DecodeError) = some (.type "type"))
    (a_InvalidStore : PySem.W.nsIn K mainGlobals "InvalidStore" = some (some (.ref e_InvalidStore)))
    (ob_InvalidStore : K.lookup e_InvalidStore = some (excClassObj nm_InvalidStore qn_InvalidStore e_InvalidStore N_InvalidStore bs_InvalidStore [.ref CE, .type "ValueError", .type "Exception", .type "BaseException", .type "object"] true sn_InvalidStore sub_InvalidStore ab_InvalidStore col_InvalidStore dd_InvalidStore k0_InvalidStore k1_InvalidStore k2_InvalidStore k3_InvalidStore k5_InvalidStore "ValueError.__new__"))
    (sa_InvalidStore : PySem.W.findIn K (.ref e_InvalidStore) "__setattr__" = some (some (.builtin "object.__setattr__")))
    (iC_InvalidStore : PySem.W.findIn K (.ref e_InvalidStore) "__init__" = some (some (.ref fI_InvalidStore)))
    (tC_InvalidStore : PySem.W.typeIn K (.ref fI_InvalidStore) = some (.type "function"))
    (ve_InvalidStore : PySem.W.subIn K (.ref e_InvalidStore) (.type "ValueError") = some true)
    (slf_InvalidStore : PySem.W.mroIn K e_InvalidStore (.ref e_InvalidStore) = some true)
    (op_InvalidStore : PySem.W.nsIn K cStatics "thirdparty.any" = some none)
    (al_InvalidStore : PySem.W.ks_superIn K e_InvalidStore e_InvalidStore "__init__" = some (some (.builtin "ValueError.__init__")))
    (li_InvalidStore : K.lookup fI_InvalidStore = some ⟨ocI_InvalidStore, odI_InvalidStore, .func (PySem.W.ksFn "__init__" "InvalidStore.__init__" (defArgs s_InvalidStore___init__) (defBody s_InvalidStore___init__) (defScope s_InvalidStore___init__) .none .none dcI_InvalidStore pmI_InvalidStore anI_InvalidStore (.ref cda_InvalidStore) ctI_InvalidStore ccI_InvalidStore), slI_InvalidStore⟩)
    (ci_InvalidStore : PySem.W.codeIn K (.ref cda_InvalidStore) "InvalidStore.__init__" = true)
    (cd_InvalidStore : K.lookup cda_InvalidStore = some ⟨cclI_InvalidStore, cddI_InvalidStore, .fields vsI_InvalidStore, ccsI_InvalidStore⟩)
    (v2_InvalidStore : vsI_InvalidStore[2]? = some (.str fileI_InvalidStore tfI_InvalidStore))
    (fi_InvalidStore : ((PySem.Challenge.pw_coldcrates_k47_codes_rejected.main.file : Str) == fileI_InvalidStore) = true)
    (cc_InvalidStore : K.lookup ccI_InvalidStore = some ⟨clI_InvalidStore, cldI_InvalidStore, .cell (some (.ref e_InvalidStore)), cslI_InvalidStore⟩)
    (no_InvalidStore : PySem.W.findIn K (.ref e_InvalidStore) "part" = some none)
    (kC_InvalidStore : PySem.W.keepIn K (.ref e_InvalidStore) = true)
    (exC_InvalidStore : PySem.W.subIn K (.ref e_InvalidStore) (.type "BaseException") = some true)
    (tyC_InvalidStore : PySem.W.typeIn K (.ref e_InvalidStore) = some (.type "type"))
    (z_all : PySem.W.nsIn K mainGlobals "all" = some none)
    (z_bool : PySem.W.nsIn K mainGlobals "bool" = some none)
    (z_int : PySem.W.nsIn K mainGlobals "int" = some none)
    (z_isinstance : PySem.W.nsIn K mainGlobals "isinstance" = some none)
    (z_len : PySem.W.nsIn K mainGlobals "len" = some none)
    (z_min : PySem.W.nsIn K mainGlobals "min" = some none)
    (z_range : PySem.W.nsIn K mainGlobals "range" = some none)
    (z_str : PySem.W.nsIn K mainGlobals "str" = some none)
    (z_sum : PySem.W.nsIn K mainGlobals "sum" = some none)
    (z_super : PySem.W.nsIn K mainGlobals "super" = some none)
    (z_tuple : PySem.W.nsIn K mainGlobals "tuple" = some none)
    (z_zip : PySem.W.nsIn K mainGlobals "zip" = some none)
    (v_CHECKSUM_AT_FIRST : PySem.W.nsIn K mainGlobals "CHECKSUM_AT_FIRST" = some (some (.int 4 t_CHECKSUM_AT_FIRST)))
    (v_CHECKSUM_FACTOR : PySem.W.nsIn K mainGlobals "CHECKSUM_FACTOR" = some (some (.int 11 t_CHECKSUM_FACTOR)))
    (v_CHECKSUM_MODULUS : PySem.W.nsIn K mainGlobals "CHECKSUM_MODULUS" = some (some (.int 251 t_CHECKSUM_MODULUS)))
    (v_LETTERS : PySem.W.nsIn K mainGlobals "LETTERS" = some (some (.str "abcdefghijklmnopqrstuvwxyz" t_LETTERS)))
    (v_LONGEST_WORD : PySem.W.nsIn K mainGlobals "LONGEST_WORD" = some (some (.int 8 t_LONGEST_WORD)))
    (v_MARK : PySem.W.nsIn K mainGlobals "MARK" = some (some (.int 71 t_MARK)))
    (v_MOST_BEHIND : PySem.W.nsIn K mainGlobals "MOST_BEHIND" = some (some (.int 4 t_MOST_BEHIND)))
    (v_MOST_CRATES : PySem.W.nsIn K mainGlobals "MOST_CRATES" = some (some (.int 5 t_MOST_CRATES)))
    (v_MOST_DOORS : PySem.W.nsIn K mainGlobals "MOST_DOORS" = some (some (.int 4 t_MOST_DOORS)))
    (v_MOST_PLACES : PySem.W.nsIn K mainGlobals "MOST_PLACES" = some (some (.int 6 t_MOST_PLACES)))
    (v_MOST_WARMTH : PySem.W.nsIn K mainGlobals "MOST_WARMTH" = some (some (.int 99 t_MOST_WARMTH)))
    (a_Reader : PySem.W.nsIn K mainGlobals "Reader" = some (some (.ref A_Reader)))
    (a_mReader___init__ : PySem.W.findIn K (.ref A_Reader) "__init__" = some (some (.ref f_mReader___init__)))
    (i_mReader___init__ : PySem.W.isFn K (.ref f_mReader___init__) = true)
    (l_mReader___init__ : K.lookup f_mReader___init__ = some ⟨oc_mReader___init__, od_mReader___init__, .func (PySem.W.fnOf "__init__" "Reader.__init__" (defArgs s_Reader___init__) (defBody s_Reader___init__) (defScope s_Reader___init__) .none kV_mReader___init__ dc_mReader___init__ pm_mReader___init__ an_mReader___init__ cd_mReader___init__ ct_mReader___init__), sl_mReader___init__⟩)
    (c_mReader___init__ : PySem.W.codeIn K cd_mReader___init__ "Reader.__init__" = true)
    (k_mReader___init__ : PySem.W.keepIn K (.ref f_mReader___init__) = true)
    (a_mReader_read : PySem.W.findIn K (.ref A_Reader) "read" = some (some (.ref f_mReader_read)))
    (i_mReader_read : PySem.W.isFn K (.ref f_mReader_read) = true)
    (l_mReader_read : K.lookup f_mReader_read = some ⟨oc_mReader_read, od_mReader_read, .func (PySem.W.fnOf "read" "Reader.read" (defArgs s_Reader_read) (defBody s_Reader_read) (defScope s_Reader_read) .none kV_mReader_read dc_mReader_read pm_mReader_read an_mReader_read cd_mReader_read ct_mReader_read), sl_mReader_read⟩)
    (c_mReader_read : PySem.W.codeIn K cd_mReader_read "Reader.read" = true)
    (k_mReader_read : PySem.W.keepIn K (.ref f_mReader_read) = true)
    (a_mReader_read_end : PySem.W.findIn K (.ref A_Reader) "read_end" = some (some (.ref f_mReader_read_end)))
    (i_mReader_read_end : PySem.W.isFn K (.ref f_mReader_read_end) = true)
    (l_mReader_read_end : K.lookup f_mReader_read_end = some ⟨oc_mReader_read_end, od_mReader_read_end, .func (PySem.W.fnOf "read_end" "Reader.read_end" (defArgs s_Reader_read_end) (defBody s_Reader_read_end) (defScope s_Reader_read_end) .none kV_mReader_read_end dc_mReader_read_end pm_mReader_read_end an_mReader_read_end cd_mReader_read_end ct_mReader_read_end), sl_mReader_read_end⟩)
    (c_mReader_read_end : PySem.W.codeIn K cd_mReader_read_end "Reader.read_end" = true)
    (k_mReader_read_end : PySem.W.keepIn K (.ref f_mReader_read_end) = true)
    (Reader_pg : PySem.W.plainGet K A_Reader Str.empty = true)
    (Reader_hd : PySem.W.hasDictIn K A_Reader = true)
    (Reader_po : PySem.W.plainOver K A_Reader = true)
    (Reader_sa : PySem.W.findIn K (.ref A_Reader) "__setattr__" = some (some (.builtin "object.__setattr__")))
    (Reader_mk : PySem.W.makesIn K A_Reader = true)
    (Reader_kc : PySem.W.keepIn K (.ref A_Reader) = true)
    (Reader_n_values : PySem.W.findIn K (.ref A_Reader) "_values" = some none)
    (Reader_n_at : PySem.W.findIn K (.ref A_Reader) "_at" = some none)
    (s_cl : PySem.W.findIn K (.ref C) "__class__" = some (some (.builtin "object.__class__")))
    (g_cl : PySem.W.specialIn K (.builtin "object.__class__") "__get__" = some (some (.builtin "getset_descriptor.__get__")))
    (g_tk : PySem.W.takesIn K (.builtin "object.__class__") = some true)
    (s_mo : PySem.W.mroIn K C (.type "object") = some true)
    (xm_DecodeError_DecodeError : PySem.W.exmOne K (.ref e_DecodeError) (.ref e_DecodeError) = some true)
    (xm_DecodeError_InvalidStore : PySem.W.exmOne K (.ref e_InvalidStore) (.ref e_DecodeError) = some false)
    (xg_DecodeError : PySem.W.findIn K (.ref e_DecodeError) "__getattribute__" = some (some (.builtin "BaseException.__getattribute__")))
    (xa_DecodeError : PySem.W.findIn K (.ref e_DecodeError) "__getattr__" = some none)
    (xh_DecodeError : PySem.W.hasDictIn K e_DecodeError = true)
    (xm_InvalidStore_DecodeError : PySem.W.exmOne K (.ref e_DecodeError) (.ref e_InvalidStore) = some false)
    (xm_InvalidStore_InvalidStore : PySem.W.exmOne K (.ref e_InvalidStore) (.ref e_InvalidStore) = some true)
    (xg_InvalidStore : PySem.W.findIn K (.ref e_InvalidStore) "__getattribute__" = some (some (.builtin "BaseException.__getattribute__")))
    (xa_InvalidStore : PySem.W.findIn K (.ref e_InvalidStore) "__getattr__" = some none)
    (xh_InvalidStore : PySem.W.hasDictIn K e_InvalidStore = true) :
    ∃ fd : FuncData, (∀ (s : Shared) (v : Value), BindsTo s fd ⟨[v], []⟩ [("_law_script", v)]) ∧ ∀ base : Heap, K.In base → base.Ns mainGlobals mg → FnOk pwK w K mg base CX0 8 fa fd ["_law_script"] (spLaw K) := by
  have e := hfa.symm.trans (PySem.W.mg_of X G a_law)
  cases e
  have SC_DecodeError : CcX.SupC pwK K e_DecodeError fI_DecodeError "DecodeError.__init__" "offset" (defBody s_DecodeError___init__) (defArgs s_DecodeError___init__) (defScope s_DecodeError___init__) := { cls := ⟨_, _, _, _, _, _, _, _, _, _, _, _, _, _, _, ob_DecodeError, rfl⟩, sa := sa_DecodeError, noN := no_DecodeError, iC := iC_DecodeError, tC := tC_DecodeError, kC := kC_DecodeError, exC := exC_DecodeError, veC := ve_DecodeError, slfC := slf_DecodeError, tyC := tyC_DecodeError, opq := op_DecodeError, alg := al_DecodeError, top := by decide +kernel, fn := ⟨_, _, _, _, _, _, _, _, _, _, _, _, _, _, _, _, _, _, li_DecodeError, ci_DecodeError, cd_DecodeError, v2_DecodeError, fi_DecodeError, cc_DecodeError⟩ }
  have SI_DecodeError : CcX.SupI pwK w K mg e_DecodeError fI_DecodeError "offset" := CcX.sup_of (ar := "offset") SC_DecodeError (by first | exact .inl rfl | exact .inr (.inl rfl) | exact .inr (.inr (.inl rfl)) | exact .inr (.inr (.inr (.inl rfl))) | exact .inr (.inr (.inr (.inr rfl)))) (fun e he => by
    simp only [List.mem_cons, List.not_mem_nil, or_false] at he
    first
      | (rcases he with rfl | rfl | rfl <;> first | exact .inr ⟨_, _, rfl⟩ | exact .inl ⟨_, _, _, rfl, by decide +kernel⟩)
      | (rcases he with rfl | rfl <;> first | exact .inr ⟨_, _, rfl⟩ | exact .inl ⟨_, _, _, rfl, by decide +kernel⟩)
      | (subst he; first | exact .inr ⟨_, _, rfl⟩ | exact .inl ⟨_, _, _, rfl, by decide +kernel⟩)) (by decide) (by decide +kernel) (PySem.W.mg_none_of X G z_super)
  have SC_InvalidStore : CcX.SupC pwK K e_InvalidStore fI_InvalidStore "InvalidStore.__init__" "part" (defBody s_InvalidStore___init__) (defArgs s_InvalidStore___init__) (defScope s_InvalidStore___init__) := { cls := ⟨_, _, _, _, _, _, _, _, _, _, _, _, _, _, _, ob_InvalidStore, rfl⟩, sa := sa_InvalidStore, noN := no_InvalidStore, iC := iC_InvalidStore, tC := tC_InvalidStore, kC := kC_InvalidStore, exC := exC_InvalidStore, veC := ve_InvalidStore, slfC := slf_InvalidStore, tyC := tyC_InvalidStore, opq := op_InvalidStore, alg := al_InvalidStore, top := by decide +kernel, fn := ⟨_, _, _, _, _, _, _, _, _, _, _, _, _, _, _, _, _, _, li_InvalidStore, ci_InvalidStore, cd_InvalidStore, v2_InvalidStore, fi_InvalidStore, cc_InvalidStore⟩ }
  have SI_InvalidStore : CcX.SupI pwK w K mg e_InvalidStore fI_InvalidStore "part" := CcX.sup_of (ar := "part") SC_InvalidStore (by first | exact .inl rfl | exact .inr (.inl rfl) | exact .inr (.inr (.inl rfl)) | exact .inr (.inr (.inr (.inl rfl))) | exact .inr (.inr (.inr (.inr rfl)))) (fun e he => by
    simp only [List.mem_cons, List.not_mem_nil, or_false] at he
    first
      | (rcases he with rfl | rfl | rfl <;> first | exact .inr ⟨_, _, rfl⟩ | exact .inl ⟨_, _, _, rfl, by decide +kernel⟩)
      | (rcases he with rfl | rfl <;> first | exact .inr ⟨_, _, rfl⟩ | exact .inl ⟨_, _, _, rfl, by decide +kernel⟩)
      | (subst he; first | exact .inr ⟨_, _, rfl⟩ | exact .inl ⟨_, _, _, rfl, by decide +kernel⟩)) (by decide) (by decide +kernel) (PySem.W.mg_none_of X G z_super)
  have F_is_number := fun_mk (st := s_is_number) l_is_number c_is_number k_is_number
  have b_is_number := F_is_number.binds (ps := ["value", "low", "high"]) fun _ _ _ _ _ _ us hl => match us, hl with | [_, _, _], _ => rfl
  have F_is_word := fun_mk (st := s_is_word) l_is_word c_is_word k_is_word
  have b_is_word := F_is_word.binds (ps := ["value"]) fun _ _ _ _ _ _ us hl => match us, hl with | [_], _ => rfl
  have F_is_door := fun_mk (st := s_is_door) l_is_door c_is_door k_is_door
  have b_is_door := F_is_door.binds (ps := ["value"]) fun _ _ _ _ _ _ us hl => match us, hl with | [_], _ => rfl
  have F_doors_fit := fun_mk (st := s_doors_fit) l_doors_fit c_doors_fit k_doors_fit
  have b_doors_fit := F_doors_fit.binds (ps := ["doors"]) fun _ _ _ _ _ _ us hl => match us, hl with | [_], _ => rfl
  have F_crates_fit := fun_mk (st := s_crates_fit) l_crates_fit c_crates_fit k_crates_fit
  have b_crates_fit := F_crates_fit.binds (ps := ["crates", "size"]) fun _ _ _ _ _ _ us hl => match us, hl with | [_, _], _ => rfl
  have F_places_behind := fun_mk (st := s_places_behind) l_places_behind c_places_behind k_places_behind
  have b_places_behind := F_places_behind.binds (ps := ["doors"]) fun _ _ _ _ _ _ us hl => match us, hl with | [_], _ => rfl
  have F_checksum_of := fun_mk (st := s_checksum_of) l_checksum_of c_checksum_of k_checksum_of
  have b_checksum_of := F_checksum_of.binds (ps := ["values"]) fun _ _ _ _ _ _ us hl => match us, hl with | [_], _ => rfl
  have F_encode_store := fun_mk (st := s_encode_store) l_encode_store c_encode_store k_encode_store
  have b_encode_store := F_encode_store.binds (ps := ["store"]) fun _ _ _ _ _ _ us hl => match us, hl with | [_], _ => rfl
  have F_read_word := fun_mk (st := s_read_word) l_read_word c_read_word k_read_word
  have b_read_word := F_read_word.binds (ps := ["reader"]) fun _ _ _ _ _ _ us hl => match us, hl with | [_], _ => rfl
  have F_decode_store := fun_mk (st := s_decode_store) l_decode_store c_decode_store k_decode_store
  have b_decode_store := F_decode_store.binds (ps := ["values"]) fun _ _ _ _ _ _ us hl => match us, hl with | [_], _ => rfl
  have F__law_taken := fun_mk (st := s__law_taken) l__law_taken c__law_taken k__law_taken
  have b__law_taken := F__law_taken.binds (ps := ["_law_row", "_law_many"]) fun _ _ _ _ _ _ us hl => match us, hl with | [_, _], _ => rfl
  have F__law_store := fun_mk (st := s__law_store) l__law_store c__law_store k__law_store
  have b__law_store := F__law_store.binds (ps := ["_law_row"]) fun _ _ _ _ _ _ us hl => match us, hl with | [_], _ => rfl
  have F__law_checked := fun_mk (st := s__law_checked) l__law_checked c__law_checked k__law_checked
  have b__law_checked := F__law_checked.binds (ps := ["_law_items"]) fun _ _ _ _ _ _ us hl => match us, hl with | [_], _ => rfl
  have F__law_offset := fun_mk (st := s__law_offset) l__law_offset c__law_offset k__law_offset
  have b__law_offset := F__law_offset.binds (ps := ["_law_values"]) fun _ _ _ _ _ _ us hl => match us, hl with | [_], _ => rfl
  have F_law := fun_mk (st := s_law) l_law c_law k_law
  have F_m__len__ := fun_mk (st := s_Store___len__) l_m__len__ c_m__len__ k_m__len__
  have b_m__len__ := F_m__len__.binds (ps := ["self"]) fun _ _ _ _ _ _ us hl => match us, hl with | [_], _ => rfl
  have F_m__init__ := fun_mk (st := s_Store___init__) l_m__init__ c_m__init__ k_m__init__
  have b_m__init__ := F_m__init__.binds (ps := ["self", "doors", "crates"]) fun _ _ _ _ _ _ us hl => match us, hl with | [_, _, _], _ => rfl
  have F_pcrates := fun_mk (st := s_Store_crates) l_pcrates c_pcrates k_pcrates
  have b_pcrates := F_pcrates.binds (ps := ["self"]) fun _ _ _ _ _ _ us hl => match us, hl with | [_], _ => rfl
  have F_pdoors := fun_mk (st := s_Store_doors) l_pdoors c_pdoors k_pdoors
  have b_pdoors := F_pdoors.binds (ps := ["self"]) fun _ _ _ _ _ _ us hl => match us, hl with | [_], _ => rfl
  have F_mReader___init__ := fun_mk (st := s_Reader___init__) l_mReader___init__ c_mReader___init__ k_mReader___init__
  have b_mReader___init__ := F_mReader___init__.binds (ps := ["self", "values"]) fun _ _ _ _ _ _ us hl => match us, hl with | [_, _], _ => rfl
  have F_mReader_read := fun_mk (st := s_Reader_read) l_mReader_read c_mReader_read k_mReader_read
  have b_mReader_read := F_mReader_read.binds (ps := ["self", "low", "high"]) fun _ _ _ _ _ _ us hl => match us, hl with | [_, _, _], _ => rfl
  have F_mReader_read_end := fun_mk (st := s_Reader_read_end) l_mReader_read_end c_mReader_read_end k_mReader_read_end
  have b_mReader_read_end := F_mReader_read_end.binds (ps := ["self"]) fun _ _ _ _ _ _ us hl => match us, hl with | [_], _ => rfl
  have hE_DecodeError : EAf e_DecodeError e_InvalidStore A_Reader "DecodeError" = e_DecodeError := by unfold EAf; rw [if_pos rfl]
  have hE_InvalidStore : EAf e_DecodeError e_InvalidStore A_Reader "InvalidStore" = e_InvalidStore := by unfold EAf; rw [if_neg (by decide), if_pos rfl]
  have hE_Reader : EAf e_DecodeError e_InvalidStore A_Reader "Reader" = A_Reader := by unfold EAf; rw [if_neg (by decide), if_neg (by decide), if_pos rfl]
  have hF_DecodeError : FIf fI_DecodeError fI_InvalidStore "DecodeError" = fI_DecodeError := by unfold FIf; rw [if_pos rfl]
  have hG_DecodeError : EFf "DecodeError" = (["offset"] : List Str) := by unfold EFf; rw [if_pos rfl]
  have hF_InvalidStore : FIf fI_DecodeError fI_InvalidStore "InvalidStore" = fI_InvalidStore := by unfold FIf; rw [if_neg (by decide), if_pos rfl]
  have hG_InvalidStore : EFf "InvalidStore" = (["part"] : List Str) := by unfold EFf; rw [if_neg (by decide), if_pos rfl]
  have TXX : ∀ (S : Addr × List Int) (r : Addr), Tx pwK w K mg C (rowW K (CT C A_Reader) (CL C A_Reader) (fun x => some (EAf e_DecodeError e_InvalidStore A_Reader x)) EFf S r) (EAf e_DecodeError e_InvalidStore A_Reader) (FIf fI_DecodeError fI_InvalidStore) := fun S r => { b_all := (PySem.W.mg_none_of X G z_all), b_bool := (PySem.W.mg_none_of X G z_bool), b_int := (PySem.W.mg_none_of X G z_int), b_isinstance := (PySem.W.mg_none_of X G z_isinstance), b_len := (PySem.W.mg_none_of X G z_len), b_min := (PySem.W.mg_none_of X G z_min), b_range := (PySem.W.mg_none_of X G z_range), b_str := (PySem.W.mg_none_of X G z_str), b_sum := (PySem.W.mg_none_of X G z_sum), b_tuple := (PySem.W.mg_none_of X G z_tuple), b_zip := (PySem.W.mg_none_of X G z_zip), m_CHECKSUM_AT_FIRST := ⟨_, (PySem.W.mg_of X G v_CHECKSUM_AT_FIRST), ⟨_, rfl⟩⟩, m_CHECKSUM_FACTOR := ⟨_, (PySem.W.mg_of X G v_CHECKSUM_FACTOR), ⟨_, rfl⟩⟩, m_CHECKSUM_MODULUS := ⟨_, (PySem.W.mg_of X G v_CHECKSUM_MODULUS), ⟨_, rfl⟩⟩, m_LETTERS := ⟨_, (PySem.W.mg_of X G v_LETTERS), ⟨_, rfl⟩⟩, m_LONGEST_WORD := ⟨_, (PySem.W.mg_of X G v_LONGEST_WORD), ⟨_, rfl⟩⟩, m_MARK := ⟨_, (PySem.W.mg_of X G v_MARK), ⟨_, rfl⟩⟩, m_MOST_BEHIND := ⟨_, (PySem.W.mg_of X G v_MOST_BEHIND), ⟨_, rfl⟩⟩, m_MOST_CRATES := ⟨_, (PySem.W.mg_of X G v_MOST_CRATES), ⟨_, rfl⟩⟩, m_MOST_DOORS := ⟨_, (PySem.W.mg_of X G v_MOST_DOORS), ⟨_, rfl⟩⟩, m_MOST_PLACES := ⟨_, (PySem.W.mg_of X G v_MOST_PLACES), ⟨_, rfl⟩⟩, m_MOST_WARMTH := ⟨_, (PySem.W.mg_of X G v_MOST_WARMTH), ⟨_, rfl⟩⟩, cls := ⟨s_pg, s_hd, s_po, s_sa⟩, hp := fun ns C' h e => (Option.some.inj ((if_pos h).symm.trans (show (if stP ns = true then some C else _) = some C' from e))).symm, hcp := fun ns h => if_pos h, cls0 := rfl, n_places := s_nplaces, n_size := s_nsize, n_doors := s_ndoors, n_crates := s_ncrates, cls_Reader := by rw [hE_Reader]; exact ⟨Reader_pg, Reader_hd, Reader_po, Reader_sa⟩, hp_Reader := fun ns C' h e => by rw [hE_Reader]; exact (Option.some.inj ((CT_Reader (C := C) h).symm.trans e)).symm, hcp_Reader := fun ns h => by rw [hE_Reader]; exact CT_Reader h, clsk_Reader := by rw [hE_Reader]; rfl, n_Reader_values := by rw [hE_Reader]; exact Reader_n_values, n_Reader_at := by rw [hE_Reader]; exact Reader_n_at, g_Store := ⟨_, (PySem.W.mg_of X G a_Store), rfl⟩, isi := ⟨s_cl, g_cl, g_tk, s_mo⟩, x_DecodeError := by rw [hE_DecodeError, hF_DecodeError]; exact ⟨(PySem.W.mg_of X G a_DecodeError), SI_DecodeError⟩, ef_DecodeError := hG_DecodeError, ea_DecodeError := rfl, x_InvalidStore := by rw [hE_InvalidStore, hF_InvalidStore]; exact ⟨(PySem.W.mg_of X G a_InvalidStore), SI_InvalidStore⟩, ef_InvalidStore := hG_InvalidStore, ea_InvalidStore := rfl, h_DecodeError := by rw [hE_DecodeError]; exact (PySem.W.mg_of X G a_DecodeError), xm_DecodeError := (fun c hc A hA => by cases hA; simp only [errNames, List.mem_cons, List.not_mem_nil, or_false] at hc; rcases hc with rfl | rfl <;> first | (rw [hE_DecodeError]; (try rw [hE_DecodeError]); exact xm_DecodeError_DecodeError) | (rw [hE_InvalidStore]; (try rw [hE_DecodeError]); exact xm_DecodeError_InvalidStore)), xr_DecodeError := by rw [hE_DecodeError]; exact ⟨xg_DecodeError, xa_DecodeError, exC_DecodeError, xh_DecodeError⟩, xn_DecodeError_offset := by rw [hE_DecodeError]; exact no_DecodeError, h_InvalidStore := by rw [hE_InvalidStore]; exact (PySem.W.mg_of X G a_InvalidStore), xm_InvalidStore := (fun c hc A hA => by cases hA; simp only [errNames, List.mem_cons, List.not_mem_nil, or_false] at hc; rcases hc with rfl | rfl <;> first | (rw [hE_DecodeError]; (try rw [hE_InvalidStore]); exact xm_InvalidStore_DecodeError) | (rw [hE_InvalidStore]; (try rw [hE_InvalidStore]); exact xm_InvalidStore_InvalidStore)), xr_InvalidStore := by rw [hE_InvalidStore]; exact ⟨xg_InvalidStore, xa_InvalidStore, exC_InvalidStore, xh_InvalidStore⟩, xn_InvalidStore_part := by rw [hE_InvalidStore]; exact no_InvalidStore }
  refine ⟨PySem.W.fnOf "law" "law" (defArgs s_law) (defBody s_law) (defScope s_law) .none kV_law dc_law pm_law an_law cd_law ct_law, fun s v => .of_eq rfl, fun base _ _ => ?_⟩
  have C_is_number : ∀ (S : Addr × List Int) (r : Addr), Cal pwK w K mg base CX0 1 "is_number" ["value", "low", "high"] (spC (rowW K (CT C A_Reader) (CL C A_Reader) (fun x => some (EAf e_DecodeError e_InvalidStore A_Reader x)) EFf S r) m_is_number) := fun S r => ⟨_, _, ok_is_number F_is_number (TXX S r) , (PySem.W.mg_of X G a_is_number), k_is_number, b_is_number⟩
  have L_Store : ∀ (S : Addr × List Int) (r : Addr), LenC pwK w K mg base 1 C (spC (rowW K (CT C A_Reader) (CL C A_Reader) (fun x => some (EAf e_DecodeError e_InvalidStore A_Reader x)) EFf S r) m_Store___len__) := fun S r => ⟨_, _, ok_Store___len__ F_m__len__ (TXX S r) , b_m__len__, a_m__len__, i_m__len__⟩
  have C_is_word : ∀ (S : Addr × List Int) (r : Addr), Cal pwK w K mg base CX0 1 "is_word" ["value"] (spC (rowW K (CT C A_Reader) (CL C A_Reader) (fun x => some (EAf e_DecodeError e_InvalidStore A_Reader x)) EFf S r) m_is_word) := fun S r => ⟨_, _, ok_is_word F_is_word (TXX S r) , (PySem.W.mg_of X G a_is_word), k_is_word, b_is_word⟩
  have C_is_door : ∀ (S : Addr × List Int) (r : Addr), Cal pwK w K mg base CX0 2 "is_door" ["value"] (spC (rowW K (CT C A_Reader) (CL C A_Reader) (fun x => some (EAf e_DecodeError e_InvalidStore A_Reader x)) EFf S r) m_is_door) := fun S r => ⟨_, _, ok_is_door F_is_door (TXX S r) (C_is_number S r), (PySem.W.mg_of X G a_is_door), k_is_door, b_is_door⟩
  have C_doors_fit : ∀ (S : Addr × List Int) (r : Addr), Cal pwK w K mg base CX0 3 "doors_fit" ["doors"] (spC (rowW K (CT C A_Reader) (CL C A_Reader) (fun x => some (EAf e_DecodeError e_InvalidStore A_Reader x)) EFf S r) m_doors_fit) := fun S r => ⟨_, _, ok_doors_fit F_doors_fit (TXX S r) (C_is_door S r), (PySem.W.mg_of X G a_doors_fit), k_doors_fit, b_doors_fit⟩
  have C_crates_fit : ∀ (S : Addr × List Int) (r : Addr), Cal pwK w K mg base CX0 2 "crates_fit" ["crates", "size"] (spC (rowW K (CT C A_Reader) (CL C A_Reader) (fun x => some (EAf e_DecodeError e_InvalidStore A_Reader x)) EFf S r) m_crates_fit) := fun S r => ⟨_, _, ok_crates_fit F_crates_fit (TXX S r) (C_is_word S r), (PySem.W.mg_of X G a_crates_fit), k_crates_fit, b_crates_fit⟩
  have C_places_behind : ∀ (S : Addr × List Int) (r : Addr), Cal pwK w K mg base CX0 1 "places_behind" ["doors"] (spC (rowW K (CT C A_Reader) (CL C A_Reader) (fun x => some (EAf e_DecodeError e_InvalidStore A_Reader x)) EFf S r) m_places_behind) := fun S r => ⟨_, _, ok_places_behind F_places_behind (TXX S r) , (PySem.W.mg_of X G a_places_behind), k_places_behind, b_places_behind⟩
  have M_crates : ∀ (S : Addr × List Int) (r : Addr), CPrp pwK w K mg base CX0 1 C "crates" (spC (rowW K (CT C A_Reader) (CL C A_Reader) (fun x => some (EAf e_DecodeError e_InvalidStore A_Reader x)) EFf S r) m_Store_crates) := fun S r => ⟨_, _, _, ⟨s_pg, s_hd, s_po, s_sa⟩, ⟨a_pcrates, g_pcrates, t_pcrates, _, e_pcrates⟩, ok_Store_crates F_pcrates (TXX S r) , b_pcrates⟩
  have M_doors : ∀ (S : Addr × List Int) (r : Addr), CPrp pwK w K mg base CX0 1 C "doors" (spC (rowW K (CT C A_Reader) (CL C A_Reader) (fun x => some (EAf e_DecodeError e_InvalidStore A_Reader x)) EFf S r) m_Store_doors) := fun S r => ⟨_, _, _, ⟨s_pg, s_hd, s_po, s_sa⟩, ⟨a_pdoors, g_pdoors, t_pdoors, _, e_pdoors⟩, ok_Store_doors F_pdoors (TXX S r) , b_pdoors⟩
  have C_checksum_of : ∀ (S : Addr × List Int) (r : Addr), Cal pwK w K mg base CX0 1 "checksum_of" ["values"] (spC (rowW K (CT C A_Reader) (CL C A_Reader) (fun x => some (EAf e_DecodeError e_InvalidStore A_Reader x)) EFf S r) m_checksum_of) := fun S r => ⟨_, _, ok_checksum_of F_checksum_of (TXX S r) , (PySem.W.mg_of X G a_checksum_of), k_checksum_of, b_checksum_of⟩
  have C_encode_store : ∀ (S : Addr × List Int) (r : Addr), Cal pwK w K mg base CX0 3 "encode_store" ["store"] (spC (rowW K (CT C A_Reader) (CL C A_Reader) (fun x => some (EAf e_DecodeError e_InvalidStore A_Reader x)) EFf S r) m_encode_store) := fun S r => ⟨_, _, ok_encode_store F_encode_store (TXX S r) (L_Store S r) (M_crates S r) (M_doors S r) (C_checksum_of S r), (PySem.W.mg_of X G a_encode_store), k_encode_store, b_encode_store⟩
  have C_Reader : ∀ (S : Addr × List Int) (r : Addr), CMk pwK w K mg base (L2.CX pwK w) 1 "Reader" (EAf e_DecodeError e_InvalidStore A_Reader "Reader") ["self", "values"] (spI (rowW K (CT C A_Reader) (CL C A_Reader) (fun x => some (EAf e_DecodeError e_InvalidStore A_Reader x)) EFf S r) (EAf e_DecodeError e_InvalidStore A_Reader "Reader") (m_Reader___init__ (EAf e_DecodeError e_InvalidStore A_Reader "Reader"))) := fun S r => ⟨_, _, by rw [hE_Reader]; exact ⟨Reader_mk, a_mReader___init__, i_mReader___init__, Reader_kc⟩, ok_Reader___init__ F_mReader___init__ (TXX S r) , by rw [hE_Reader]; exact (PySem.W.mg_of X G a_Reader), b_mReader___init__⟩
  have M_read : ∀ (S : Addr × List Int) (r : Addr), CMet pwK w K mg base (L2.CX pwK w) 2 (EAf e_DecodeError e_InvalidStore A_Reader "Reader") "read" ["self", "low", "high"] (spJ (rowW K (CT C A_Reader) (CL C A_Reader) (fun x => some (EAf e_DecodeError e_InvalidStore A_Reader x)) EFf S r) 1 Ns_Reader (m_Reader_read (EAf e_DecodeError e_InvalidStore A_Reader "Reader"))) := fun S r => ⟨_, _, by rw [hE_Reader]; exact ⟨Reader_pg, Reader_hd, Reader_po, Reader_sa⟩, by rw [hE_Reader]; exact ⟨a_mReader_read, i_mReader_read, k_mReader_read⟩, ok_Reader_read F_mReader_read (TXX S r) (C_is_number S r), b_mReader_read⟩
  have M_read_end : ∀ (S : Addr × List Int) (r : Addr), CMet pwK w K mg base (L2.CX pwK w) 3 (EAf e_DecodeError e_InvalidStore A_Reader "Reader") "read_end" ["self"] (spJ (rowW K (CT C A_Reader) (CL C A_Reader) (fun x => some (EAf e_DecodeError e_InvalidStore A_Reader x)) EFf S r) 1 Ns_Reader (m_Reader_read_end (EAf e_DecodeError e_InvalidStore A_Reader "Reader"))) := fun S r => ⟨_, _, by rw [hE_Reader]; exact ⟨Reader_pg, Reader_hd, Reader_po, Reader_sa⟩, by rw [hE_Reader]; exact ⟨a_mReader_read_end, i_mReader_read_end, k_mReader_read_end⟩, ok_Reader_read_end F_mReader_read_end (TXX S r) (M_read S r) (C_checksum_of S r), b_mReader_read_end⟩
  have C_Store : ∀ (S : Addr × List Int) (r : Addr), CMk pwK w K mg base (L2.CX pwK w) 4 "Store" C ["self", "doors", "crates"] (spI (rowW K (CT C A_Reader) (CL C A_Reader) (fun x => some (EAf e_DecodeError e_InvalidStore A_Reader x)) EFf S r) C (m_Store___init__ C)) := fun S r => ⟨_, _, ⟨s_mk, a_m__init__, i_m__init__, s_kc⟩, ok_Store___init__ F_m__init__ (TXX S r) (C_crates_fit S r) (C_doors_fit S r) (C_places_behind S r), (PySem.W.mg_of X G a_Store), b_m__init__⟩
  have C_read_word : ∀ (S : Addr × List Int) (r : Addr), Cal pwK w K mg base (L2.CX pwK w) 3 "read_word" ["reader"] (spJ (rowW K (CT C A_Reader) (CL C A_Reader) (fun x => some (EAf e_DecodeError e_InvalidStore A_Reader x)) EFf S r) 1 Ns_Reader (m_read_word (EAf e_DecodeError e_InvalidStore A_Reader "Reader"))) := fun S r => ⟨_, _, ok_read_word F_read_word (TXX S r) (M_read S r), (PySem.W.mg_of X G a_read_word), k_read_word, b_read_word⟩
  have C_decode_store : ∀ (S : Addr × List Int) (r : Addr), Cal pwK w K mg base (L2.CX pwK w) 6 "decode_store" ["values"] (spM (rowW K (CT C A_Reader) (CL C A_Reader) (fun x => some (EAf e_DecodeError e_InvalidStore A_Reader x)) EFf S r) (m_decode_store C (EAf e_DecodeError e_InvalidStore A_Reader "Reader"))) := fun S r => ⟨_, _, ok_decode_store F_decode_store (TXX S r) (C_Reader S r) (M_read S r) (M_read_end S r) (C_Store S r) (C_read_word S r), (PySem.W.mg_of X G a_decode_store), k_decode_store, b_decode_store⟩
  have C__law_taken : ∀ (S : Addr × List Int) (r : Addr), Cal pwK w K mg base CX0 1 "_law_taken" ["_law_row", "_law_many"] (spTaken K) := fun S r => ⟨_, _, ok_taken F__law_taken ⟨(PySem.W.mg_none_of X G z_int), (PySem.W.mg_none_of X G z_len)⟩, (PySem.W.mg_of X G a__law_taken), k__law_taken, b__law_taken⟩
  have C__law_store : ∀ (S : Addr × List Int) (r : Addr), Cal pwK w K mg base CX0 6 "_law_store" ["_law_row"] (spR (rowW K (CT C A_Reader) (CL C A_Reader) (fun x => some (EAf e_DecodeError e_InvalidStore A_Reader x)) EFf S r) (m__law_store C)) := fun S r => ⟨_, _, ok__law_store F__law_store (TXX S r) rowW_ok (C_Store S r) (C__law_taken S r), (PySem.W.mg_of X G a__law_store), k__law_store, b__law_store⟩
  have C__law_checked : ∀ (S : Addr × List Int) (r : Addr), Cal pwK w K mg base CX0 1 "_law_checked" ["_law_items"] (spC (rowW K (CT C A_Reader) (CL C A_Reader) (fun x => some (EAf e_DecodeError e_InvalidStore A_Reader x)) EFf S r) m__law_checked) := fun S r => ⟨_, _, ok__law_checked F__law_checked (TXX S r) , (PySem.W.mg_of X G a__law_checked), k__law_checked, b__law_checked⟩
  have C__law_offset : ∀ (S : Addr × List Int) (r : Addr), Cal pwK w K mg base CX0 7 "_law_offset" ["_law_values"] (spC (rowW K (CT C A_Reader) (CL C A_Reader) (fun x => some (EAf e_DecodeError e_InvalidStore A_Reader x)) EFf S r) (m__law_offset C (EAf e_DecodeError e_InvalidStore A_Reader "Reader"))) := fun S r => ⟨_, _, ok__law_offset F__law_offset (TXX S r) (C_decode_store S r), (PySem.W.mg_of X G a__law_offset), k__law_offset, b__law_offset⟩
  exact ok_law (ct := CT C A_Reader) (cls := CL C A_Reader) (ea' := fun x => some (EAf e_DecodeError e_InvalidStore A_Reader x)) (ef := EFf) F_law TXX C__law_checked C__law_offset C__law_store C__law_taken C_encode_store (law_pure C _)
end My

open PySem PySem.W PyProof.Rows
set_option maxRecDepth 100000 in
set_option maxHeartbeats 0 in
theorem PySem.Challenge.cw_coldcrates_k47_codes_rejected_holds : PySem.Challenge.rw_coldcrates_k47_codes_rejected.Holds := by
  w_on; o_law; k_head; (case hw => w_witness2)
  k_fill
  refine L2.walk_of (l := PySem.Challenge.rw_coldcrates_k47_codes_rejected) (n := 63) (k := 8) (x := "_law_script") (CX := fun _ => L2.CX0) (sp := fun w => Mi.spLaw _) rfl (by decide) rfl ⟨rfl, by decide, by decide⟩ (fun w h Y => PySem.W.kIn_of Y) ?F (fun _ _ a ns hl _ hS => ⟨a, ns, rfl, hS, hl, fun _ => rfl⟩) fun _ _ _ _ _ z => z
  case F =>
    intro w mg fa h KX G hmg
    refine' My.all_mk KX G hmg ?a_is_number ?l_is_number ?c_is_number ?k_is_number ?a_is_word ?l_is_word ?c_is_word ?k_is_word ?a_is_door ?l_is_door ?c_is_door ?k_is_door ?a_doors_fit ?l_doors_fit ?c_doors_fit ?k_doors_fit ?a_crates_fit ?l_crates_fit ?c_crates_fit ?k_crates_fit ?a_places_behind ?l_places_behind ?c_places_behind ?k_places_behind ?a_checksum_of ?l_checksum_of ?c_checksum_of ?k_checksum_of ?a_encode_store ?l_encode_store ?c_encode_store ?k_encode_store ?a_read_word ?l_read_word ?c_read_word ?k_read_word ?a_decode_store ?l_decode_store ?c_decode_store ?k_decode_store ?a__law_taken ?l__law_taken ?c__law_taken ?k__law_taken ?a__law_store ?l__law_store ?c__law_store ?k__law_store ?a__law_checked ?l__law_checked ?c__law_checked ?k__law_checked ?a__law_offset ?l__law_offset ?c__law_offset ?k__law_offset ?a_law ?l_law ?c_law ?k_law ?a_Store ?a_m__len__ ?i_m__len__ ?l_m__len__ ?c_m__len__ ?k_m__len__ ?a_m__init__ ?i_m__init__ ?l_m__init__ ?c_m__init__ ?k_m__init__ ?a_pcrates ?g_pcrates ?t_pcrates ?e_pcrates ?l_pcrates ?c_pcrates ?k_pcrates ?a_pdoors ?g_pdoors ?t_pdoors ?e_pdoors ?l_pdoors ?c_pdoors ?k_pdoors ?s_pg ?s_hd ?s_po ?s_sa ?s_mk ?s_kc ?s_nplaces ?s_nsize ?s_ndoors ?s_ncrates ?a_DecodeError ?ob_DecodeError ?sa_DecodeError ?iC_DecodeError ?tC_DecodeError ?ve_DecodeError ?slf_DecodeError ?op_DecodeError ?al_DecodeError ?li_DecodeError ?ci_DecodeError ?cd_DecodeError ?v2_DecodeError ?fi_DecodeError ?cc_DecodeError ?no_DecodeError ?kC_DecodeError ?exC_DecodeError ?tyC_DecodeError ?a_InvalidStore ?ob_InvalidStore ?sa_InvalidStore ?iC_InvalidStore ?tC_InvalidStore ?ve_InvalidStore ?slf_InvalidStore ?op_InvalidStore ?al_InvalidStore ?li_InvalidStore ?ci_InvalidStore ?cd_InvalidStore ?v2_InvalidStore ?fi_InvalidStore ?cc_InvalidStore ?no_InvalidStore ?kC_InvalidStore ?exC_InvalidStore ?tyC_InvalidStore ?z_all ?z_bool ?z_int ?z_isinstance ?z_len ?z_min ?z_range ?z_str ?z_sum ?z_super ?z_tuple ?z_zip ?v_CHECKSUM_AT_FIRST ?v_CHECKSUM_FACTOR ?v_CHECKSUM_MODULUS ?v_LETTERS ?v_LONGEST_WORD ?v_MARK ?v_MOST_BEHIND ?v_MOST_CRATES ?v_MOST_DOORS ?v_MOST_PLACES ?v_MOST_WARMTH ?a_Reader ?a_mReader___init__ ?i_mReader___init__ ?l_mReader___init__ ?c_mReader___init__ ?k_mReader___init__ ?a_mReader_read ?i_mReader_read ?l_mReader_read ?c_mReader_read ?k_mReader_read ?a_mReader_read_end ?i_mReader_read_end ?l_mReader_read_end ?c_mReader_read_end ?k_mReader_read_end ?Reader_pg ?Reader_hd ?Reader_po ?Reader_sa ?Reader_mk ?Reader_kc ?Reader_n_values ?Reader_n_at ?s_cl ?g_cl ?g_tk ?s_mo ?xm_DecodeError_DecodeError ?xm_DecodeError_InvalidStore ?xg_DecodeError ?xa_DecodeError ?xh_DecodeError ?xm_InvalidStore_DecodeError ?xm_InvalidStore_InvalidStore ?xg_InvalidStore ?xa_InvalidStore ?xh_InvalidStore
    (case a_is_number => first | k_is | k_exc | rfl | kernel_rfl)
    (case l_is_number => first | k_is | k_exc | rfl | kernel_rfl)
    (case c_is_number => first | k_is | k_exc | rfl | kernel_rfl)
    (case k_is_number => first | k_is | k_exc | rfl | kernel_rfl)
    (case a_is_word => first | k_is | k_exc | rfl | kernel_rfl)
    (case l_is_word => first | k_is | k_exc | rfl | kernel_rfl)
    (case c_is_word => first | k_is | k_exc | rfl | kernel_rfl)
    (case k_is_word => first | k_is | k_exc | rfl | kernel_rfl)
    (case a_is_door => first | k_is | k_exc | rfl | kernel_rfl)
    (case l_is_door => first | k_is | k_exc | rfl | kernel_rfl)
    (case c_is_door => first | k_is | k_exc | rfl | kernel_rfl)
    (case k_is_door => first | k_is | k_exc | rfl | kernel_rfl)
    (case a_doors_fit => first | k_is | k_exc | rfl | kernel_rfl)
    (case l_doors_fit => first | k_is | k_exc | rfl | kernel_rfl)
    (case c_doors_fit => first | k_is | k_exc | rfl | kernel_rfl)
    (case k_doors_fit => first | k_is | k_exc | rfl | kernel_rfl)
    (case a_crates_fit => first | k_is | k_exc | rfl | kernel_rfl)
    (case l_crates_fit => first | k_is | k_exc | rfl | kernel_rfl)
    (case c_crates_fit => first | k_is | k_exc | rfl | kernel_rfl)
    (case k_crates_fit => first | k_is | k_exc | rfl | kernel_rfl)
    (case a_places_behind => first | k_is | k_exc | rfl | kernel_rfl)
    (case l_places_behind => first | k_is | k_exc | rfl | kernel_rfl)
    (case c_places_behind => first | k_is | k_exc | rfl | kernel_rfl)
    (case k_places_behind => first | k_is | k_exc | rfl | kernel_rfl)
    (case a_checksum_of => first | k_is | k_exc | rfl | kernel_rfl)
    (case l_checksum_of => first | k_is | k_exc | rfl | kernel_rfl)
    (case c_checksum_of => first | k_is | k_exc | rfl | kernel_rfl)
    (case k_checksum_of => first | k_is | k_exc | rfl | kernel_rfl)
    (case a_encode_store => first | k_is | k_exc | rfl | kernel_rfl)
    (case l_encode_store => first | k_is | k_exc | rfl | kernel_rfl)
    (case c_encode_store => first | k_is | k_exc | rfl | kernel_rfl)
    (case k_encode_store => first | k_is | k_exc | rfl | kernel_rfl)
    (case a_read_word => first | k_is | k_exc | rfl | kernel_rfl)
    (case l_read_word => first | k_is | k_exc | rfl | kernel_rfl)
    (case c_read_word => first | k_is | k_exc | rfl | kernel_rfl)
    (case k_read_word => first | k_is | k_exc | rfl | kernel_rfl)
    (case a_decode_store => first | k_is | k_exc | rfl | kernel_rfl)
    (case l_decode_store => first | k_is | k_exc | rfl | kernel_rfl)
    (case c_decode_store => first | k_is | k_exc | rfl | kernel_rfl)
    (case k_decode_store => first | k_is | k_exc | rfl | kernel_rfl)
    (case a__law_taken => first | k_is | k_exc | rfl | kernel_rfl)
    (case l__law_taken => first | k_is | k_exc | rfl | kernel_rfl)
    (case c__law_taken => first | k_is | k_exc | rfl | kernel_rfl)
    (case k__law_taken => first | k_is | k_exc | rfl | kernel_rfl)
    (case a__law_store => first | k_is | k_exc | rfl | kernel_rfl)
    (case l__law_store => first | k_is | k_exc | rfl | kernel_rfl)
    (case c__law_store => first | k_is | k_exc | rfl | kernel_rfl)
    (case k__law_store => first | k_is | k_exc | rfl | kernel_rfl)
    (case a__law_checked => first | k_is | k_exc | rfl | kernel_rfl)
    (case l__law_checked => first | k_is | k_exc | rfl | kernel_rfl)
    (case c__law_checked => first | k_is | k_exc | rfl | kernel_rfl)
    (case k__law_checked => first | k_is | k_exc | rfl | kernel_rfl)
    (case a__law_offset => first | k_is | k_exc | rfl | kernel_rfl)
    (case l__law_offset => first | k_is | k_exc | rfl | kernel_rfl)
    (case c__law_offset => first | k_is | k_exc | rfl | kernel_rfl)
    (case k__law_offset => first | k_is | k_exc | rfl | kernel_rfl)
    (case a_law => first | k_is | k_exc | rfl | kernel_rfl)
    (case l_law => first | k_is | k_exc | rfl | kernel_rfl)
    (case c_law => first | k_is | k_exc | rfl | kernel_rfl)
    (case k_law => first | k_is | k_exc | rfl | kernel_rfl)
    (case a_Store => first | k_is | k_exc | rfl | kernel_rfl)
    (case a_m__len__ => first | k_is | k_exc | rfl | kernel_rfl)
    (case i_m__len__ => first | k_is | k_exc | rfl | kernel_rfl)
    (case l_m__len__ => first | k_is | k_exc | rfl | kernel_rfl)
    (case c_m__len__ => first | k_is | k_exc | rfl | kernel_rfl)
    (case k_m__len__ => first | k_is | k_exc | rfl | kernel_rfl)
    (case a_m__init__ => first | k_is | k_exc | rfl | kernel_rfl)
    (case i_m__init__ => first | k_is | k_exc | rfl | kernel_rfl)
    (case l_m__init__ => first | k_is | k_exc | rfl | kernel_rfl)
    (case c_m__init__ => first | k_is | k_exc | rfl | kernel_rfl)
    (case k_m__init__ => first | k_is | k_exc | rfl | kernel_rfl)
    (case a_pcrates => first | k_is | k_exc | rfl | kernel_rfl)
    (case g_pcrates => first | k_is | k_exc | rfl | kernel_rfl)
    (case t_pcrates => first | k_is | k_exc | rfl | kernel_rfl)
    (case e_pcrates => first | k_is | k_exc | rfl | kernel_rfl)
    (case l_pcrates => first | k_is | k_exc | rfl | kernel_rfl)
    (case c_pcrates => first | k_is | k_exc | rfl | kernel_rfl)
    (case k_pcrates => first | k_is | k_exc | rfl | kernel_rfl)
    (case a_pdoors => first | k_is | k_exc | rfl | kernel_rfl)
    (case g_pdoors => first | k_is | k_exc | rfl | kernel_rfl)
    (case t_pdoors => first | k_is | k_exc | rfl | kernel_rfl)
    (case e_pdoors => first | k_is | k_exc | rfl | kernel_rfl)
    (case l_pdoors => first | k_is | k_exc | rfl | kernel_rfl)
    (case c_pdoors => first | k_is | k_exc | rfl | kernel_rfl)
    (case k_pdoors => first | k_is | k_exc | rfl | kernel_rfl)
    (case s_pg => first | k_is | k_exc | rfl | kernel_rfl)
    (case s_hd => first | k_is | k_exc | rfl | kernel_rfl)
    (case s_po => first | k_is | k_exc | rfl | kernel_rfl)
    (case s_sa => first | k_is | k_exc | rfl | kernel_rfl)
    (case s_mk => first | k_is | k_exc | rfl | kernel_rfl)
    (case s_kc => first | k_is | k_exc | rfl | kernel_rfl)
    (case s_nplaces => first | k_is | k_exc | rfl | kernel_rfl)
    (case s_nsize => first | k_is | k_exc | rfl | kernel_rfl)
    (case s_ndoors => first | k_is | k_exc | rfl | kernel_rfl)
    (case s_ncrates => first | k_is | k_exc | rfl | kernel_rfl)
    (case a_DecodeError => first | k_is | k_exc | rfl | kernel_rfl)
    (case ob_DecodeError => first | k_is | k_exc | rfl | kernel_rfl)
    (case sa_DecodeError => first | k_is | k_exc | rfl | kernel_rfl)
    (case iC_DecodeError => first | k_is | k_exc | rfl | kernel_rfl)
    (case tC_DecodeError => first | k_is | k_exc | rfl | kernel_rfl)
    (case ve_DecodeError => first | k_is | k_exc | rfl | kernel_rfl)
    (case slf_DecodeError => first | k_is | k_exc | rfl | kernel_rfl)
    (case op_DecodeError => first | k_is | k_exc | rfl | kernel_rfl)
    (case al_DecodeError => first | k_is | k_exc | rfl | kernel_rfl)
    (case li_DecodeError => first | k_is | k_exc | rfl | kernel_rfl)
    (case ci_DecodeError => first | k_is | k_exc | rfl | kernel_rfl)
    (case cd_DecodeError => first | k_is | k_exc | rfl | kernel_rfl)
    (case v2_DecodeError => first | k_is | k_exc | rfl | kernel_rfl)
    (case fi_DecodeError => first | k_is | k_exc | rfl | kernel_rfl)
    (case cc_DecodeError => first | k_is | k_exc | rfl | kernel_rfl)
    (case no_DecodeError => first | k_is | k_exc | rfl | kernel_rfl)
    (case kC_DecodeError => first | k_is | k_exc | rfl | kernel_rfl)
    (case exC_DecodeError => first | k_is | k_exc | rfl | kernel_rfl)
    (case tyC_DecodeError => first | k_is | k_exc | rfl | kernel_rfl)
    (case a_InvalidStore => first | k_is | k_exc | rfl | kernel_rfl)
    (case ob_InvalidStore => first | k_is | k_exc | rfl | kernel_rfl)
    (case sa_InvalidStore => first | k_is | k_exc | rfl | kernel_rfl)
    (case iC_InvalidStore => first | k_is | k_exc | rfl | kernel_rfl)
    (case tC_InvalidStore => first | k_is | k_exc | rfl | kernel_rfl)
    (case ve_InvalidStore => first | k_is | k_exc | rfl | kernel_rfl)
    (case slf_InvalidStore => first | k_is | k_exc | rfl | kernel_rfl)
    (case op_InvalidStore => first | k_is | k_exc | rfl | kernel_rfl)
    (case al_InvalidStore => first | k_is | k_exc | rfl | kernel_rfl)
    (case li_InvalidStore => first | k_is | k_exc | rfl | kernel_rfl)
    (case ci_InvalidStore => first | k_is | k_exc | rfl | kernel_rfl)
    (case cd_InvalidStore => first | k_is | k_exc | rfl | kernel_rfl)
    (case v2_InvalidStore => first | k_is | k_exc | rfl | kernel_rfl)
    (case fi_InvalidStore => first | k_is | k_exc | rfl | kernel_rfl)
    (case cc_InvalidStore => first | k_is | k_exc | rfl | kernel_rfl)
    (case no_InvalidStore => first | k_is | k_exc | rfl | kernel_rfl)
    (case kC_InvalidStore => first | k_is | k_exc | rfl | kernel_rfl)
    (case exC_InvalidStore => first | k_is | k_exc | rfl | kernel_rfl)
    (case tyC_InvalidStore => first | k_is | k_exc | rfl | kernel_rfl)
    (case z_all => first | k_is | k_exc | rfl | kernel_rfl)
    (case z_bool => first | k_is | k_exc | rfl | kernel_rfl)
    (case z_int => first | k_is | k_exc | rfl | kernel_rfl)
    (case z_isinstance => first | k_is | k_exc | rfl | kernel_rfl)
    (case z_len => first | k_is | k_exc | rfl | kernel_rfl)
    (case z_min => first | k_is | k_exc | rfl | kernel_rfl)
    (case z_range => first | k_is | k_exc | rfl | kernel_rfl)
    (case z_str => first | k_is | k_exc | rfl | kernel_rfl)
    (case z_sum => first | k_is | k_exc | rfl | kernel_rfl)
    (case z_super => first | k_is | k_exc | rfl | kernel_rfl)
    (case z_tuple => first | k_is | k_exc | rfl | kernel_rfl)
    (case z_zip => first | k_is | k_exc | rfl | kernel_rfl)
    (case v_CHECKSUM_AT_FIRST => first | k_is | k_exc | rfl | kernel_rfl)
    (case v_CHECKSUM_FACTOR => first | k_is | k_exc | rfl | kernel_rfl)
    (case v_CHECKSUM_MODULUS => first | k_is | k_exc | rfl | kernel_rfl)
    (case v_LETTERS => first | k_is | k_exc | rfl | kernel_rfl)
    (case v_LONGEST_WORD => first | k_is | k_exc | rfl | kernel_rfl)
    (case v_MARK => first | k_is | k_exc | rfl | kernel_rfl)
    (case v_MOST_BEHIND => first | k_is | k_exc | rfl | kernel_rfl)
    (case v_MOST_CRATES => first | k_is | k_exc | rfl | kernel_rfl)
    (case v_MOST_DOORS => first | k_is | k_exc | rfl | kernel_rfl)
    (case v_MOST_PLACES => first | k_is | k_exc | rfl | kernel_rfl)
    (case v_MOST_WARMTH => first | k_is | k_exc | rfl | kernel_rfl)
    (case a_Reader => first | k_is | k_exc | rfl | kernel_rfl)
    (case a_mReader___init__ => first | k_is | k_exc | rfl | kernel_rfl)
    (case i_mReader___init__ => first | k_is | k_exc | rfl | kernel_rfl)
    (case l_mReader___init__ => first | k_is | k_exc | rfl | kernel_rfl)
    (case c_mReader___init__ => first | k_is | k_exc | rfl | kernel_rfl)
    (case k_mReader___init__ => first | k_is | k_exc | rfl | kernel_rfl)
    (case a_mReader_read => first | k_is | k_exc | rfl | kernel_rfl)
    (case i_mReader_read => first | k_is | k_exc | rfl | kernel_rfl)
    (case l_mReader_read => first | k_is | k_exc | rfl | kernel_rfl)
    (case c_mReader_read => first | k_is | k_exc | rfl | kernel_rfl)
    (case k_mReader_read => first | k_is | k_exc | rfl | kernel_rfl)
    (case a_mReader_read_end => first | k_is | k_exc | rfl | kernel_rfl)
    (case i_mReader_read_end => first | k_is | k_exc | rfl | kernel_rfl)
    (case l_mReader_read_end => first | k_is | k_exc | rfl | kernel_rfl)
    (case c_mReader_read_end => first | k_is | k_exc | rfl | kernel_rfl)
    (case k_mReader_read_end => first | k_is | k_exc | rfl | kernel_rfl)
    (case Reader_pg => first | k_is | k_exc | rfl | kernel_rfl)
    (case Reader_hd => first | k_is | k_exc | rfl | kernel_rfl)
    (case Reader_po => first | k_is | k_exc | rfl | kernel_rfl)
    (case Reader_sa => first | k_is | k_exc | rfl | kernel_rfl)
    (case Reader_mk => first | k_is | k_exc | rfl | kernel_rfl)
    (case Reader_kc => first | k_is | k_exc | rfl | kernel_rfl)
    (case Reader_n_values => first | k_is | k_exc | rfl | kernel_rfl)
    (case Reader_n_at => first | k_is | k_exc | rfl | kernel_rfl)
    (case s_cl => first | k_is | k_exc | rfl | kernel_rfl)
    (case g_cl => first | k_is | k_exc | rfl | kernel_rfl)
    (case g_tk => first | k_is | k_exc | rfl | kernel_rfl)
    (case s_mo => first | k_is | k_exc | rfl | kernel_rfl)
    (case xm_DecodeError_DecodeError => first | k_is | k_exc | rfl | kernel_rfl)
    (case xm_DecodeError_InvalidStore => first | k_is | k_exc | rfl | kernel_rfl)
    (case xg_DecodeError => first | k_is | k_exc | rfl | kernel_rfl)
    (case xa_DecodeError => first | k_is | k_exc | rfl | kernel_rfl)
    (case xh_DecodeError => first | k_is | k_exc | rfl | kernel_rfl)
    (case xm_InvalidStore_DecodeError => first | k_is | k_exc | rfl | kernel_rfl)
    (case xm_InvalidStore_InvalidStore => first | k_is | k_exc | rfl | kernel_rfl)
    (case xg_InvalidStore => first | k_is | k_exc | rfl | kernel_rfl)
    (case xa_InvalidStore => first | k_is | k_exc | rfl | kernel_rfl)
    (case xh_InvalidStore => first | k_is | k_exc | rfl | kernel_rfl)
