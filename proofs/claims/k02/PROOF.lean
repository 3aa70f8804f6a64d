import PyProof.Rows.All
import Wide.All
import OpenK.AllK
import Wide.FinOn
import HandS.ForMost
import HandS.ForExc
import HandS.IsInst
import HandS.Property
import HandS.OwnEq
import HandS.Wide
import HandS.TupAny
import HandS.Deep
import HandS.Zip
import HandS.Walk
import HandS.Conv
import PySem.Challenge.RW_coldcrates_k02_layouts_by_trying
import KE.KExcSuper
import HandS.ExcInit
import HandS.ExcField
import HandS.ExcIs
import HandS.Lambda
import HandS.FStr
import HandS.ExcOwn
import PyProof.InstNe
import PyProof.EnumMake
import PyProof.Draws
import KE.KExcIs
import HandS.TupMul
import HandS.EndTab
import PyProof.StrBlock2
import KE.KMathGC
import HandS.Bytes
import HandS.Strs
import HandS.GenList
import HandS.Style
set_option Elab.async false
set_option linter.all false
set_option maxRecDepth 100000
set_option maxHeartbeats 8000000
/-! Cc: data seen through the abstract heap; what a reading gives, told by data. -/
namespace Cc
open PySem L2

/-- the data of the program: plain values, lists, tuples, instances that never change -/
inductive D where
  | non
  | bl (b : Bool)
  | int (i : Int)
  | str (x : Str)
  | lst (ds : List D)
  | tup (ds : List D)
  /-- a tuple that is known to have no dict of its own -/
  | ptup (ds : List D)
  | ob (C : Addr) (ns : List Str) (ds : List D)
abbrev Fg := PySem.W.Frag
/-- a tuple without a dict of its own -/
def PlO (o : Obj) : Prop := o.cls = .type "tuple" ∧ o.dict = none
def PlT (H : Hp) (p : Addr) (xs : List V) : Prop := ∃ o, PlO o ∧ H p = some (.frz o (.tup xs))
theorem PlT.sq {K : Fg} {H : Hp} {p : Addr} {xs : List V} (h : PlT H p xs) : SqT K H p xs := by
  obtain ⟨o, _, e⟩ := h
  exact .inl (.inr ⟨o, e⟩)
mutual
/-- the value v denotes the data d at the heap H -/
inductive Dn (K : Fg) (H : Hp) : V → D → Prop
  | non : Dn K H .non .non
  | bl (b : Bool) : Dn K H (.bl b) (.bl b)
  | int (i : Int) : Dn K H (.int i) (.int i)
  | str (x : Str) : Dn K H (.str x) (.str x)
  | lst {a : Addr} {xs : List V} {ds : List D} : H a = some (.lst xs) → Dns K H xs ds → Dn K H (.ref a) (.lst ds)
  | tup {a : Addr} {xs : List V} {ds : List D} : SqT K H a xs → Dns K H xs ds → Dn K H (.ref a) (.tup ds)
  | ptup {a : Addr} {xs : List V} {ds : List D} : PlT H a xs → Dns K H xs ds → Dn K H (.ref a) (.ptup ds)
  | ob {a C dx : Addr} {fs : List (Str × V)} {ns : List Str} {ds : List D} : H a = some (.ins C dx fs) → fs.map (·.1) = ns → Dns K H (fs.map (·.2)) ds → Dn K H (.ref a) (.ob C ns ds)
inductive Dns (K : Fg) (H : Hp) : List V → List D → Prop
  | nil : Dns K H [] []
  | cons {v : V} {vs : List V} {d : D} {ds : List D} : Dn K H v d → Dns K H vs ds → Dns K H (v :: vs) (d :: ds)
end
/-- what is kept through stores to lists: tuples, instances and so on -/
def immO : HO → Bool
  | .tup _ => true
  | .frz _ _ => true
  | .ins _ _ _ => true
  | _ => false
/-- the heap has grown, what never changes stands -/
def Kp (H H' : Hp) : Prop := ∀ b o, H b = some o → immO o = true → H' b = some o
theorem Kp.refl (H : Hp) : Kp H H := fun _ _ h _ => h
theorem Kp.trans {H H1 H2 : Hp} (a : Kp H H1) (b : Kp H1 H2) : Kp H H2 := fun c o h i => b c o (a c o h i) i
theorem Kp.of {H H' : Hp} (e : Same H H') : Kp H H' := fun b o h _ => e b o h
theorem Kp.upd {H : Hp} {l : Addr} {u o : HO} (h : H l = some u) (hi : immO u = false) : Kp H (upd H l o) := fun b q e i => by
  rw [upd_ne]
  · exact e
  · rintro rfl
    rw [h] at e
    cases e
    rw [hi] at i
    cases i
/-- all stands but what is at M -/
def But (M : List Addr) (H H' : Hp) : Prop := ∀ b o, H b = some o → b ∉ M → H' b = some o
theorem But.refl (M : List Addr) (H : Hp) : But M H H := fun _ _ h _ => h
theorem But.trans {M : List Addr} {H H1 H2 : Hp} (a : But M H H1) (b : But M H1 H2) : But M H H2 := fun c o h i => b c o (a c o h i) i
theorem But.of {M : List Addr} {H H' : Hp} (e : Same H H') : But M H H' := fun b o h _ => e b o h
theorem But.same {H H' : Hp} (e : But [] H H') : Same H H' := fun b o h => e b o h (by simp)
theorem But.upd {M : List Addr} {H : Hp} {l : Addr} {o : HO} (h : l ∈ M) : But M H (upd H l o) := fun b u e n => by
  have hb : b ≠ l := by
    rintro rfl
    exact n h
  rw [upd_ne hb]
  exact e
theorem But.mono {M M' : List Addr} {H H' : Hp} (e : But M H H') (h : ∀ m ∈ M, m ∈ M') : But M' H H' := fun b o q n => e b o q fun z => n (h b z)
theorem But.kp {M : List Addr} {H H' : Hp} (e : But M H H') (hm : ∀ m ∈ M, ∀ o, H m = some o → immO o = false) : Kp H H' := fun b o h i => e b o h fun z => by
  rw [hm b z o h] at i
  cases i
theorem kp_one {l : Addr} {xs : List V} {H H' : Hp} (e : But [l] H H') (h : H l = some (.lst xs)) : Kp H H' := e.kp fun m hm o q => by
  rw [List.mem_singleton.mp hm, h] at q
  cases q
  rfl
/-- what was not there at first does not count -/
theorem But.fresh {M : List Addr} {H H1 H2 : Hp} (e : Same H H1) (b : But M H1 H2) (hm : ∀ m ∈ M, H m = none) : Same H H2 := fun c o h => b c o (e c o h) fun z => by
  rw [hm c z] at h
  cases h
theorem Same.new {H : Hp} {p : Addr} {o : HO} (h : H p = none) : Same H (upd H p o) := fun a u e => by
  rw [upd_ne (ne_of_none e h)]
  exact e
/-- behind a store to an object that was not there at first -/
theorem Same.mut {H H' : Hp} {p : Addr} {o : HO} (e : Same H H') (h : H p = none) : Same H (upd H' p o) := fun a u ha => by
  rw [upd_ne (ne_of_none ha h)]
  exact e a u ha
mutual
/-- no lists in it -/
def D.fix : D → Bool
  | .lst _ => false
  | .tup ds => D.fixs ds
  | .ptup ds => D.fixs ds
  | .ob _ _ ds => D.fixs ds
  | _ => true
def D.fixs : List D → Bool
  | [] => true
  | d :: ds => d.fix && D.fixs ds
end
theorem D.fixs_iff {ds : List D} : D.fixs ds = true ↔ ∀ d ∈ ds, d.fix = true := by
  induction ds with
  | nil => simp [D.fixs]
  | cons d ds ih => simp [D.fixs, ih]
section
variable {K : Fg} {H H' : Hp}
theorem kp_t (e : Kp H H') {a : Addr} {xs : List V} (h : SqT K H a xs) : SqT K H' a xs := by
  rcases h with (h | ⟨o, h⟩) | h
  · exact .inl (.inl (e _ _ h rfl))
  · exact .inl (.inr ⟨o, e _ _ h rfl⟩)
  · exact .inr h
theorem same_t (e : Same H H') {a : Addr} {xs : List V} (h : SqT K H a xs) : SqT K H' a xs := kp_t (.of e) h
theorem same_l (e : Same H H') {a : Addr} {xs : List V} (h : SqL K H a xs) : SqL K H' a xs := e.seq h
mutual
theorem Dn.kp (e : Kp H H') : ∀ (d : D) (v : V), d.fix = true → Dn K H v d → Dn K H' v d
  | .non, _, _, h => by cases h; exact .non
  | .bl b, _, _, h => by cases h; exact .bl b
  | .int i, _, _, h => by cases h; exact .int i
  | .str x, _, _, h => by cases h; exact .str x
  | .lst _, _, f, _ => by cases f
  | .tup ds, _, f, h => by
    cases h with
    | tup hs ha => exact .tup (kp_t e hs) (Dns.kp e ds _ f ha)
  | .ptup ds, _, f, h => by
    cases h with
    | ptup hs ha =>
      obtain ⟨o, po, h⟩ := hs
      exact .ptup ⟨o, po, e _ _ h rfl⟩ (Dns.kp e ds _ f ha)
  | .ob C ns ds, _, f, h => by
    cases h with
    | ob ho hn ha => exact .ob (e _ _ ho rfl) hn (Dns.kp e ds _ f ha)
theorem Dns.kp (e : Kp H H') : ∀ (ds : List D) (vs : List V), D.fixs ds = true → Dns K H vs ds → Dns K H' vs ds
  | [], _, _, h => by cases h; exact .nil
  | d :: ds, _, f, h => by
    cases h with
    | cons h1 h2 =>
      have f' : d.fix = true ∧ D.fixs ds = true := by simpa [D.fixs] using f
      exact .cons (Dn.kp e d _ f'.1 h1) (Dns.kp e ds _ f'.2 h2)
end
mutual
theorem Dn.same (e : Same H H') : ∀ (d : D) (v : V), Dn K H v d → Dn K H' v d
  | .non, _, h => by cases h; exact .non
  | .bl b, _, h => by cases h; exact .bl b
  | .int i, _, h => by cases h; exact .int i
  | .str x, _, h => by cases h; exact .str x
  | .lst ds, _, h => by
    cases h with
    | lst hs ha => exact .lst (e _ _ hs) (Dns.same e ds _ ha)
  | .tup ds, _, h => by
    cases h with
    | tup hs ha => exact .tup (same_t e hs) (Dns.same e ds _ ha)
  | .ptup ds, _, h => by
    cases h with
    | ptup hs ha =>
      obtain ⟨o, po, h⟩ := hs
      exact .ptup ⟨o, po, e _ _ h⟩ (Dns.same e ds _ ha)
  | .ob C ns ds, _, h => by
    cases h with
    | ob ho hn ha => exact .ob (e _ _ ho) hn (Dns.same e ds _ ha)
theorem Dns.same (e : Same H H') : ∀ (ds : List D) (vs : List V), Dns K H vs ds → Dns K H' vs ds
  | [], _, h => by cases h; exact .nil
  | d :: ds, _, h => by
    cases h with
    | cons h1 h2 => exact .cons (Dn.same e d _ h1) (Dns.same e ds _ h2)
end
theorem Dn.up {v : V} {d : D} (h : Dn K H v d) (e : Same H H') : Dn K H' v d := Dn.same e d v h
theorem Dns.up {vs : List V} {ds : List D} (h : Dns K H vs ds) (e : Same H H') : Dns K H' vs ds := Dns.same e ds vs h
theorem Dn.keep {v : V} {d : D} (h : Dn K H v d) (e : Kp H H') (f : d.fix = true) : Dn K H' v d := Dn.kp e d v f h
theorem Dns.keep {vs : List V} {ds : List D} (h : Dns K H vs ds) (e : Kp H H') (f : D.fixs ds = true) : Dns K H' vs ds := Dns.kp e ds vs f h
theorem Dns.length : ∀ {vs : List V} {ds : List D}, Dns K H vs ds → vs.length = ds.length
  | _, _, .nil => rfl
  | _, _, .cons _ t => by simp [Dns.length t]
theorem Dns.app : ∀ {vs ws : List V} {ds es : List D}, Dns K H vs ds → Dns K H ws es → Dns K H (vs ++ ws) (ds ++ es)
  | _, _, _, _, .nil, h => h
  | _, _, _, _, .cons a t, h => .cons a (Dns.app t h)
theorem Dns.get : ∀ {vs : List V} {ds : List D} {i : Nat} {v : V}, Dns K H vs ds → vs[i]? = some v → ∃ d, ds[i]? = some d ∧ Dn K H v d
  | _, _, _, _, .nil, e => by simp at e
  | _, _, 0, _, .cons r _, e => by simp at e; subst e; exact ⟨_, rfl, r⟩
  | _, _, i + 1, x, .cons _ t, e => by
    obtain ⟨u, h1, h2⟩ := Dns.get (i := i) (v := x) t (by simpa using e)
    exact ⟨u, by simpa using h1, h2⟩
theorem Dns.getD : ∀ {vs : List V} {ds : List D} {i : Nat} {d : D}, Dns K H vs ds → ds[i]? = some d → ∃ v, vs[i]? = some v ∧ Dn K H v d
  | _, _, _, _, .nil, e => by simp at e
  | _, _, 0, _, .cons r _, e => by simp at e; subst e; exact ⟨_, rfl, r⟩
  | _, _, i + 1, x, .cons _ t, e => by
    obtain ⟨u, h1, h2⟩ := Dns.getD (i := i) (d := x) t (by simpa using e)
    exact ⟨u, by simpa using h1, h2⟩
theorem Dns.take : ∀ {vs : List V} {ds : List D} (n : Nat), Dns K H vs ds → Dns K H (vs.take n) (ds.take n)
  | _, _, 0, _ => .nil
  | _, _, _ + 1, .nil => .nil
  | _, _, n + 1, .cons r t => .cons r (Dns.take n t)
theorem Dns.drop : ∀ {vs : List V} {ds : List D} (n : Nat), Dns K H vs ds → Dns K H (vs.drop n) (ds.drop n)
  | _, _, 0, r => r
  | _, _, _ + 1, .nil => .nil
  | _, _, n + 1, .cons _ t => Dns.drop n t
theorem Dns.set {v : V} {d : D} (r : Dn K H v d) : ∀ {vs : List V} {ds : List D} (i : Nat), Dns K H vs ds → Dns K H (vs.set i v) (ds.set i d)
  | _, _, _, .nil => .nil
  | _, _, 0, .cons _ t => .cons r t
  | _, _, i + 1, .cons q t => .cons q (Dns.set r i t)
theorem Dns.of {α : Type} {f : α → V} {g : α → D} (h : ∀ a, Dn K H (f a) (g a)) : ∀ l : List α, Dns K H (l.map f) (l.map g)
  | [] => .nil
  | a :: l => .cons (h a) (Dns.of h l)
theorem Dns.one {v : V} {d : D} (h : Dn K H v d) : Dns K H [v] [d] := .cons h .nil

/-! ### to the library's data -/
mutual
def D.py : D → PyData
  | .non => .none
  | .bl b => .bool b
  | .int i => .int i
  | .str x => .str x
  | .lst ds => .list (D.pys ds)
  | .tup ds => .tuple (D.pys ds)
  | .ptup ds => .tuple (D.pys ds)
  | .ob _ _ _ => .none
def D.pys : List D → List PyData
  | [] => []
  | d :: ds => d.py :: D.pys ds
end
mutual
/-- no instances in it -/
def D.pl : D → Bool
  | .lst ds => D.pls ds
  | .tup ds => D.pls ds
  | .ptup ds => D.pls ds
  | .ob _ _ _ => false
  | _ => true
def D.pls : List D → Bool
  | [] => true
  | d :: ds => d.pl && D.pls ds
end
theorem D.pys_map : ∀ ds : List D, D.pys ds = ds.map D.py
  | [] => rfl
  | d :: ds => by rw [D.pys, D.pys_map ds]; rfl
theorem D.pls_iff {ds : List D} : D.pls ds = true ↔ ∀ d ∈ ds, d.pl = true := by
  induction ds with
  | nil => simp [D.pls]
  | cons d ds ih => simp [D.pls, ih]
mutual
theorem Dn.dp : ∀ (d : D) (v : V), d.pl = true → Dn K H v d → Dp K H v d.py
  | .non, _, _, h => by cases h; exact .non
  | .bl b, _, _, h => by cases h; exact .bl b
  | .int i, _, _, h => by cases h; exact .int i
  | .str x, _, _, h => by cases h; exact .str x
  | .lst ds, _, f, h => by
    cases h with
    | lst hs ha => exact .lst (SqL.of hs) (Dns.dps ds _ f ha)
  | .tup ds, _, f, h => by
    cases h with
    | tup hs ha => exact .tup hs (Dns.dps ds _ f ha)
  | .ptup ds, _, f, h => by
    cases h with
    | ptup hs ha => exact .tup hs.sq (Dns.dps ds _ f ha)
  | .ob C ns ds, _, f, h => by cases f
theorem Dns.dps : ∀ (ds : List D) (vs : List V), D.pls ds = true → Dns K H vs ds → DpAll K H vs (D.pys ds)
  | [], _, _, h => by cases h; exact .nil
  | d :: ds, _, f, h => by
    cases h with
    | cons h1 h2 =>
      have f' : d.pl = true ∧ D.pls ds = true := by simpa [D.pls] using f
      exact .cons (Dn.dp d _ f'.1 h1) (Dns.dps ds _ f'.2 h2)
end
end
end Cc

namespace Cc
open PySem L2
/-! what a reading gives, by data: an expression, a test, arguments, a new list -/
def GD (K : Fg) (te : TE) (σ : L2.St) (H : Hp) (d : D) : Prop := ∀ H1, Same H H1 → ∀ Q : VK, (∀ v H2, Same H1 H2 → Dn K H2 v d → Q v H2) → te σ H1 Q
def GT (tt : TT) (σ : L2.St) (H : Hp) (b : Bool) : Prop := ∀ H1, Same H H1 → ∀ Q : Bool → Hp → Prop, (∀ H2, Same H1 H2 → Q b H2) → tt σ H1 Q
def GA (K : Fg) (ta : TA) (σ : L2.St) (H : Hp) (ds : List D) : Prop := ∀ H1, Same H H1 → ∀ Q : List V → Hp → Prop, (∀ vs H2, Same H1 H2 → Dns K H2 vs ds → Q vs H2) → ta σ H1 Q
def GN (K : Fg) (te : TE) (σ : L2.St) (H : Hp) (ds : List D) : Prop := ∀ H1, Same H H1 → ∀ Q : VK, (∀ p xs H2, H1 p = none → Same H1 H2 → H2 p = some (.lst xs) → Dns K H2 xs ds → Q (.ref p) H2) → te σ H1 Q
/-- a part of a slice -/
def GO (to : TO) (σ : L2.St) (H : Hp) (o : Option Int) : Prop := ∀ H1, Same H H1 → ∀ Q : Option Int → Hp → Prop, (∀ H2, Same H1 H2 → Q o H2) → to σ H1 Q
/-- an operator, a one-place one, a call on values, by data -/
def R2D (K : Fg) (r : R2) (d e z : D) : Prop := ∀ x y H (Q : VK), Dn K H x d → Dn K H y e → (∀ v H2, Same H H2 → Dn K H2 v z → Q v H2) → r x y H Q
def R1D (K : Fg) (r : V → Hp → VK → Prop) (d z : D) : Prop := ∀ x H (Q : VK), Dn K H x d → (∀ v H2, Same H H2 → Dn K H2 v z → Q v H2) → r x H Q
def RCD (K : Fg) (r : List V → Hp → VK → Prop) (ds : List D) (z : D) : Prop := ∀ vs H (Q : VK), Dns K H vs ds → (∀ v H2, Same H H2 → Dn K H2 v z → Q v H2) → r vs H Q
def RMD (K : Fg) (r : V → List V → Hp → VK → Prop) (d : D) (ds : List D) (z : D) : Prop := ∀ x vs H (Q : VK), Dn K H x d → Dns K H vs ds → (∀ v H2, Same H H2 → Dn K H2 v z → Q v H2) → r x vs H Q
section
variable {K : Fg} {σ : L2.St} {H H' : Hp} {ta tb te : TE} {t u : TT} {d e z : D} {r : R2}
theorem GD.mono (a : Same H H') (h : GD K te σ H d) : GD K te σ H' d := fun H1 b Q q => h H1 (a.trans b) Q q
theorem GT.mono {b : Bool} (a : Same H H') (h : GT t σ H b) : GT t σ H' b := fun H1 c Q q => h H1 (a.trans c) Q q
theorem GA.mono {ta : TA} {ds : List D} (a : Same H H') (h : GA K ta σ H ds) : GA K ta σ H' ds := fun H1 c Q q => h H1 (a.trans c) Q q
theorem GN.mono {ds : List D} (a : Same H H') (h : GN K te σ H ds) : GN K te σ H' ds := fun H1 c Q q => h H1 (a.trans c) Q q
theorem GN.gd {ds : List D} (h : GN K te σ H ds) : GD K te σ H (.lst ds) := fun H1 a Q q => h H1 a Q fun p xs H2 _ e hp hd => q _ H2 e (.lst hp hd)
theorem GD.is (h : GD K te σ H d) (q : d = e) : GD K te σ H e := q ▸ h
theorem GT.is {b c : Bool} (h : GT t σ H b) (q : b = c) : GT t σ H c := q ▸ h
theorem GN.is {ds es : List D} (h : GN K te σ H ds) (q : ds = es) : GN K te σ H es := q ▸ h
theorem gd_var {i : Nat} {v : V} (h : σ[i]? = some (some v)) (hd : Dn K H v d) : GD K (tVar i) σ H d := fun H1 a Q q => ⟨v, h, q v H1 (Same.refl _) (hd.up a)⟩
theorem gd_c {v : V} (h : Dn K H v d) : GD K (tC v) σ H d := fun H1 a Q q => q v H1 (Same.refl _) (h.up a)
theorem gd_i {i : Int} : GD K (tC (.int i)) σ H (.int i) := gd_c (.int i)
theorem gd_s {x : Str} : GD K (tC (.str x)) σ H (.str x) := gd_c (.str x)
theorem gd_b {b : Bool} : GD K (tC (.bl b)) σ H (.bl b) := gd_c (.bl b)
theorem gd_n : GD K (tC .non) σ H .non := gd_c .non
theorem gd_op (ha : GD K ta σ H d) (hb : GD K tb σ H e) (hr : R2D K r d e z) : GD K (tOp r ta tb) σ H z := fun H1 a Q q =>
  ha H1 a _ fun x H2 a2 hx => hb H2 (a.trans a2) _ fun y H3 a3 hy => hr x y H3 Q (hx.up a3) hy fun v H4 a4 hv => q v H4 ((a2.trans a3).trans a4) hv
theorem gd_un {r : V → Hp → VK → Prop} (ha : GD K ta σ H d) (hr : R1D K r d z) : GD K (tUn r ta) σ H z := fun H1 a Q q =>
  ha H1 a _ fun x H2 a2 hx => hr x H2 Q hx fun v H4 a4 hv => q v H4 (a2.trans a4) hv
theorem ga_nil : GA K tNil σ H [] := fun H1 _ Q q => q [] H1 (Same.refl _) .nil
theorem ga_cons {tr : TA} {ds : List D} (ha : GD K ta σ H d) (hr : GA K tr σ H ds) : GA K (tCons ta tr) σ H (d :: ds) := fun H1 a Q q =>
  ha H1 a _ fun x H2 a2 hx => hr H2 (a.trans a2) _ fun xs H3 a3 hxs => q _ H3 (a2.trans a3) (.cons (hx.up a3) hxs)
theorem ga1 (ha : GD K ta σ H d) : GA K (tCons ta tNil) σ H [d] := ga_cons ha ga_nil
theorem ga2 (ha : GD K ta σ H d) (hb : GD K tb σ H e) : GA K (tCons ta (tCons tb tNil)) σ H [d, e] := ga_cons ha (ga1 hb)
theorem gd_cb {r : List V → Hp → VK → Prop} {ta : TA} {ds : List D} (ha : GA K ta σ H ds) (hr : RCD K r ds z) : GD K (tCB r ta) σ H z := fun H1 a Q q =>
  ha H1 a _ fun x H2 a2 hx => hr x H2 Q hx fun v H4 a4 hv => q v H4 (a2.trans a4) hv
theorem gd_tup {ta : TA} {ds : List D} (ha : GA K ta σ H ds) (hl : ds.length ≤ 100000) : GD K (tTup ta) σ H (.tup ds) := fun H1 a Q q =>
  ha H1 a _ fun x H2 a2 hx => ⟨by rw [hx.length, sizeLine_eq]; omega, fun p hp => q _ _ (a2.trans (Same.new hp)) (.tup (SqT.of upd_same) (hx.up (Same.new hp)))⟩
theorem gn_lst {ta : TA} {ds : List D} (ha : GA K ta σ H ds) (hl : ds.length ≤ 100000) : GN K (tLst ta) σ H ds := fun H1 a Q q =>
  ha H1 a _ fun x H2 a2 hx => ⟨by rw [hx.length, sizeLine_eq]; omega, fun p hp => q p x _ (a2.free hp) (a2.trans (Same.new hp)) upd_same (hx.up (Same.new hp))⟩
/-! tests -/
theorem gt_test {b : Bool} (h : GD K te σ H (.bl b)) : GT (tTest te) σ H b := fun H1 a Q q => h H1 a _ fun v H2 a2 hv => by
  cases hv
  exact ⟨b, rfl, q H2 a2⟩
theorem gt_B {b : Bool} (h : GD K te σ H (.bl b)) : GT (tB te) σ H b := fun H1 a Q q => h H1 a _ fun v H2 a2 hv => by
  cases hv
  exact ⟨b, rfl, q H2 a2⟩
theorem gt_and {a b : Bool} (h1 : GT t σ H a) (h2 : a = true → GT u σ H b) : GT (tAnd t u) σ H (a && b) := fun H1 c Q q => h1 H1 c _ fun H2 c2 => by
  cases a with
  | true => exact (if_pos rfl).mpr (h2 rfl H2 (c.trans c2) Q fun H3 c3 => q H3 (c2.trans c3))
  | false => exact (if_neg Bool.false_ne_true).mpr (q H2 c2)
theorem gt_or {a b : Bool} (h1 : GT t σ H a) (h2 : a = false → GT u σ H b) : GT (tOr t u) σ H (a || b) := fun H1 c Q q => h1 H1 c _ fun H2 c2 => by
  cases a with
  | true => exact (if_pos rfl).mpr (q H2 c2)
  | false => exact (if_neg Bool.false_ne_true).mpr (h2 rfl H2 (c.trans c2) Q fun H3 c3 => q H3 (c2.trans c3))
theorem gt_not {a : Bool} (h1 : GT t σ H a) : GT (tNot t) σ H (!a) := fun H1 c Q q => h1 H1 c _ fun H2 c2 => q H2 c2
theorem gd_and {a b : Bool} (h1 : GD K ta σ H (.bl a)) (h2 : a = true → GD K tb σ H (.bl b)) : GD K (tAndV ta tb) σ H (.bl (a && b)) := fun H1 c Q q => h1 H1 c _ fun v H2 c2 hv => by
  cases hv
  refine ⟨a, rfl, ?_⟩
  cases a with
  | true => exact (if_pos rfl).mpr (h2 rfl H2 (c.trans c2) Q fun v H3 c3 => q v H3 (c2.trans c3))
  | false => exact (if_neg Bool.false_ne_true).mpr (q _ H2 c2 (.bl _))
theorem gd_or {a b : Bool} (h1 : GD K ta σ H (.bl a)) (h2 : a = false → GD K tb σ H (.bl b)) : GD K (tOrV ta tb) σ H (.bl (a || b)) := fun H1 c Q q => h1 H1 c _ fun v H2 c2 hv => by
  cases hv
  refine ⟨a, rfl, ?_⟩
  cases a with
  | true => exact (if_pos rfl).mpr (q _ H2 c2 (.bl _))
  | false => exact (if_neg Bool.false_ne_true).mpr (h2 rfl H2 (c.trans c2) Q fun v H3 c3 => q v H3 (c2.trans c3))
theorem gd_not {a : Bool} (h1 : GD K ta σ H (.bl a)) : GD K (tNotV ta) σ H (.bl (!a)) := fun H1 c Q q => h1 H1 c _ fun v H2 c2 hv => by
  cases hv
  exact ⟨a, rfl, q _ H2 c2 (.bl _)⟩
theorem gd_if {b : Bool} (h : GT t σ H b) (h1 : b = true → GD K ta σ H d) (h2 : b = false → GD K tb σ H d) : GD K (tIf t ta tb) σ H d := fun H1 c Q q => h H1 c _ fun H2 c2 => by
  cases b with
  | true => exact (if_pos rfl).mpr (h1 rfl H2 (c.trans c2) Q fun v H3 c3 => q v H3 (c2.trans c3))
  | false => exact (if_neg Bool.false_ne_true).mpr (h2 rfl H2 (c.trans c2) Q fun v H3 c3 => q v H3 (c2.trans c3))
/-! operators -/
theorem r_int {g : Int → Int → Int} {i j : Int} : R2D K (rI0 fun i j => .int (g i j)) (.int i) (.int j) (.int (g i j)) := fun x y H Q hx hy q => by
  cases hx; cases hy
  exact ⟨i, j, rfl, rfl, q _ H (Same.refl _) (.int _)⟩
theorem r_intB {g : Int → Int → Bool} {i j : Int} : R2D K (rI0 fun i j => .bl (g i j)) (.int i) (.int j) (.bl (g i j)) := fun x y H Q hx hy q => by
  cases hx; cases hy
  exact ⟨i, j, rfl, rfl, q _ H (Same.refl _) (.bl _)⟩
theorem r_intC {C : Int → Int → Prop} {g : Int → Int → Int} {i j : Int} (hc : C i j) : R2D K (rI C fun i j => .int (g i j)) (.int i) (.int j) (.int (g i j)) := fun x y H Q hx hy q => by
  cases hx; cases hy
  exact ⟨i, j, rfl, rfl, hc, q _ H (Same.refl _) (.int _)⟩
/-- == by data -/
def D.eqv (d e : D) : Bool := PyData.eqv d.py e.py
def D.shp (d : D) : Bool := SeqAt.shaped d.py
theorem r_eq (p1 : d.pl = true) (p2 : e.pl = true) (s1 : d.shp = true) (s2 : e.shp = true) : R2D K (rEqD K) d e (.bl (d.eqv e)) := fun x y H Q hx hy q =>
  ⟨d.py, e.py, hx.dp d x p1, hy.dp e y p2, s1, s2, q _ H (Same.refl _) (.bl _)⟩
theorem r_ne (p1 : d.pl = true) (p2 : e.pl = true) (s1 : d.shp = true) (s2 : e.shp = true) : R2D K (rNeD K) d e (.bl (!d.eqv e)) := fun x y H Q hx hy q =>
  ⟨d.py, e.py, hx.dp d x p1, hy.dp e y p2, s1, s2, q _ H (Same.refl _) (.bl _)⟩
theorem r_isN : R2D K (fun x y H Q => y = .non ∧ Q (.bl (decide (x = .non))) H) d .non (.bl (match d with | .non => true | _ => false)) := fun x y H Q hx hy q => by
  cases hy
  refine ⟨rfl, q _ H (Same.refl _) ?_⟩
  cases hx <;> first | exact .bl _ | (simp; exact .bl _)
theorem r_notN : R2D K (fun x y H Q => y = .non ∧ Q (.bl (!decide (x = .non))) H) d .non (.bl (match d with | .non => false | _ => true)) := fun x y H Q hx hy q => by
  cases hy
  refine ⟨rfl, q _ H (Same.refl _) ?_⟩
  cases hx <;> first | exact .bl _ | (simp; exact .bl _)
/-- an item of a list, of a tuple -/
theorem r_ixT {ds : List D} {i : Int} (h : atI ds i = some z) : R2D K (rIxT K) (.tup ds) (.int i) z := fun x y H Q hx hy q => by
  cases hy
  cases hx with
  | @tup a xs ds hs ha =>
    have hl := ha.length
    unfold atI at h
    cases hj : ixN ds.length i with
    | none => rw [hj] at h; cases h
    | some j =>
      rw [hj] at h
      obtain ⟨v, hv, hd⟩ := ha.getD (i := j) h
      exact ⟨a, xs, i, v, rfl, rfl, hs, by unfold atI; rw [hl, hj]; exact hv, q v H (Same.refl _) hd⟩
theorem r_ixL {ds : List D} {i : Int} (h : atI ds i = some z) : R2D K (rIxL K) (.lst ds) (.int i) z := fun x y H Q hx hy q => by
  cases hy
  cases hx with
  | @lst a xs ds hs ha =>
    have hl := ha.length
    unfold atI at h
    cases hj : ixN ds.length i with
    | none => rw [hj] at h; cases h
    | some j =>
      rw [hj] at h
      obtain ⟨v, hv, hd⟩ := ha.getD (i := j) h
      exact ⟨a, xs, i, v, rfl, rfl, SqL.of hs, by unfold atI; rw [hl, hj]; exact hv, q v H (Same.refl _) hd⟩
theorem r_ixS {w : Str} {i : Int} {c : Nat} (h : w.length ≤ 100000) (ha : atI w.cps.toList i = some c) : R2D K rIxS (.str w) (.int i) (.str ⟨#[c]⟩) := fun x y H Q hx hy q => by
  cases hx; cases hy
  exact ⟨w, i, c, rfl, rfl, by rw [sizeLine_eq]; omega, ha, q _ H (Same.refl _) (.str _)⟩
theorem r_or1 {r' : R2} (h : R2D K r d e z) : R2D K (fun x y H Q => r x y H Q ∨ r' x y H Q) d e z := fun x y H Q hx hy q => .inl (h x y H Q hx hy q)
theorem r_or2 {r' : R2} (h : R2D K r' d e z) : R2D K (fun x y H Q => r x y H Q ∨ r' x y H Q) d e z := fun x y H Q hx hy q => .inr (h x y H Q hx hy q)
theorem r_ix_l {ds : List D} {i : Int} (h : atI ds i = some z) : R2D K (rIx K) (.lst ds) (.int i) z := fun x y H Q hx hy q => .inl (r_ixL h x y H Q hx hy q)
theorem r_ix_t {ds : List D} {i : Int} (h : atI ds i = some z) : R2D K (rIx K) (.tup ds) (.int i) z := fun x y H Q hx hy q => .inr (.inl (r_ixT h x y H Q hx hy q))
theorem r_ix_s {w : Str} {i : Int} {c : Nat} (h : w.length ≤ 100000) (ha : atI w.cps.toList i = some c) : R2D K (rIx K) (.str w) (.int i) (.str ⟨#[c]⟩) := fun x y H Q hx hy q => .inr (.inr (r_ixS h ha x y H Q hx hy q))
/-- + of lists, of tuples; * of a list -/
theorem r_catL {ds es : List D} (h : ds.length + es.length ≤ 100000) : R2D K rCat (.lst ds) (.lst es) (.lst (ds ++ es)) := fun x y H Q hx hy q => by
  cases hx with
  | @lst a xs _ hs ha =>
    cases hy with
    | @lst b ys _ hs2 hb =>
      exact ⟨a, b, xs, ys, rfl, rfl, hs, hs2, by rw [ha.length, hb.length, sizeLine_eq]; omega, fun p hp => q _ _ (Same.new hp) (.lst upd_same ((ha.app hb).up (Same.new hp)))⟩
theorem r_catT {ds es : List D} (h : ds.length + es.length ≤ 100000) : R2D K (rCatA K) (.tup ds) (.tup es) (.tup (ds ++ es)) := fun x y H Q hx hy q => by
  cases hx with
  | @tup a xs _ hs ha =>
    cases hy with
    | @tup b ys _ hs2 hb =>
      refine ⟨a, b, xs, ys, rfl, rfl, hs, hs2, by rw [ha.length, hb.length, sizeLine_eq]; omega, fun e => ?_, fun _ e => ?_, fun _ _ p hp => q _ _ (Same.new hp) (.tup (SqT.of upd_same) ((ha.app hb).up (Same.new hp)))⟩
      · subst e
        cases ha
        exact q _ H (Same.refl _) (.tup hs2 hb)
      · subst e
        cases hb
        rw [List.append_nil] at q
        exact q _ H (Same.refl _) (.tup hs ha)
theorem Dns.rep {H : Hp} {vs : List V} {ds : List D} (h : Dns K H vs ds) : ∀ k : Nat, Dns K H (List.replicate k vs).flatten (List.replicate k ds).flatten
  | 0 => .nil
  | k + 1 => by
    rw [List.replicate_succ, List.replicate_succ, List.flatten_cons, List.flatten_cons]
    exact h.app (Dns.rep h k)
end
end Cc

namespace Cc
open PySem L2
section
variable {K : Fg} {σ : L2.St} {H H' : Hp} {ta tb te : TE} {t u : TT} {d e z : D} {r : R2} {E : Ends} {tu tw tz : TS}
/-! statements -/
theorem s_asg {i : Nat} (h : GD K te σ H d) (k : ∀ v H1, Same H H1 → Dn K H1 v d → E.nx (σ.set i (some v)) H1) : tAsg te (gName i) E σ H := h H (Same.refl _) _ fun v H1 e hv => k v H1 e hv
theorem s_asgN {i : Nat} {ds : List D} (h : GN K te σ H ds) (k : ∀ p xs H1, H p = none → Same H H1 → H1 p = some (.lst xs) → Dns K H1 xs ds → E.nx (σ.set i (some (.ref p))) H1) : tAsg te (gName i) E σ H :=
  h H (Same.refl _) _ fun p xs H1 hp e h1 hd => k p xs H1 hp e h1 hd
theorem s_ret (h : GD K te σ H d) (k : ∀ v H1, Same H H1 → Dn K H1 v d → E.rt v H1) : tRet te E σ H := h H (Same.refl _) _ fun v H1 e hv => k v H1 e hv
theorem s_if {b : Bool} (h : GT t σ H b) (h1 : b = true → ∀ H1, Same H H1 → tu E σ H1) (h2 : b = false → ∀ H1, Same H H1 → tw E σ H1) : tIfS t tu tw E σ H := h H (Same.refl _) _ fun H1 e => by
  cases b with
  | true => exact (if_pos rfl).mpr (h1 rfl H1 e)
  | false => exact (if_neg Bool.false_ne_true).mpr (h2 rfl H1 e)
/-- an if without an else -/
theorem s_when {b : Bool} (h : GT t σ H b) (h1 : b = true → ∀ H1, Same H H1 → tu E σ H1) (h2 : b = false → ∀ H1, Same H H1 → E.nx σ H1) : tIfS t tu tNext E σ H := s_if h h1 h2
theorem s_drop (h : GD K te σ H d) (k : ∀ H1, Same H H1 → E.nx σ H1) : tDrop te E σ H := h H (Same.refl _) _ fun v H1 e hv => k H1 e
theorem s_par {i j : Nat} {ta : TA} (h : GA K ta σ H [d, e]) (k : ∀ v w H1, Same H H1 → Dn K H1 v d → Dn K H1 w e → E.nx ((σ.set i (some v)).set j (some w)) H1) : tPar i j ta E σ H :=
  h H (Same.refl _) _ fun vs H1 q hv => by
    cases hv with
    | cons h1 h2 =>
      cases h2 with
      | cons h2 h3 =>
        cases h3
        exact ⟨_, _, rfl, k _ _ H1 q h1 h2⟩
/-- xs.append(e), xs a list of one's own -/
theorem s_app {l : Addr} {xs : List V} (hl : H l = some (.lst xs)) (ha : ∀ H1, Same H H1 → ∀ Q : VK, Q (.ref l) H1 → ta σ H1 Q) (h : GD K te σ H d) (hz : xs.length < 100000)
    (k : ∀ v H1, Same H H1 → Dn K H1 v d → E.nx σ (upd H1 l (.lst (xs ++ [v])))) : tDrop (tBM K "list" rAppend ta (tCons te tNil)) E σ H :=
  ha H (Same.refl _) _ ⟨Or.inl ⟨rfl, xs, SqL.of hl⟩, h H (Same.refl _) _ fun v H2 e2 hv => ⟨l, xs, v, rfl, rfl, e2 l _ hl, by rw [sizeLine_eq]; omega, k v H2 e2 hv⟩⟩
theorem at_var {i : Nat} {v : V} (h : σ[i]? = some (some v)) : ∀ H1, Same H H1 → ∀ Q : VK, Q v H1 → tVar i σ H1 Q := fun H1 _ Q q => ⟨v, h, q⟩
/-! promises -/
/-- what is handed back denotes d, all that stood stands -/
def Ret (K : Fg) (d : D) (H : Hp) (Q : VK) : Prop := ∀ v H', Same H H' → Dn K H' v d → Q v H'
theorem Ret.up {Q : VK} (h : Ret K d H Q) (e : Same H H') : Ret K d H' Q := fun v H2 e2 hv => h v H2 (e.trans e2) hv
def spOf {α : Type} (K : Fg) (args : α → List D) (pre : α → Prop) (res : α → D) : Sp := fun vs H Q _ => ∃ a, Dns K H vs (args a) ∧ pre a ∧ Ret K (res a) H Q
/-- return e -/
theorem s_retK (k : Ret K d H E.rt) (h : GD K te σ H d) : tRet te E σ H := s_ret h k
theorem gd_call {α : Type} {args : α → List D} {pre : α → Prop} {res : α → D} {X : XK} {ta : TA} (a : α) (h : GA K ta σ H (args a)) (hp : pre a) {z : D} (hz : res a = z := by rfl) : GD K (tCall (spOf K args pre res) [] X ta) σ H z := fun H1 e Q q =>
  h H1 e _ fun vs H2 e2 hv => ⟨a, by rw [List.append_nil]; exact hv, hp, fun v H3 e3 hd => q v H3 (e2.trans e3) (hz ▸ hd)⟩
/-- .. a new list -/
def RetN (K : Fg) (ds : List D) (H : Hp) (Q : VK) : Prop := ∀ p xs H', H p = none → Same H H' → H' p = some (.lst xs) → Dns K H' xs ds → Q (.ref p) H'
def spNew {α : Type} (K : Fg) (args : α → List D) (pre : α → Prop) (res : α → List D) : Sp := fun vs H Q _ => ∃ a, Dns K H vs (args a) ∧ pre a ∧ RetN K (res a) H Q
theorem gn_call {α : Type} {args : α → List D} {pre : α → Prop} {res : α → List D} {X : XK} {ta : TA} (a : α) (h : GA K ta σ H (args a)) (hp : pre a) {z : List D} (hz : res a = z := by rfl) : GN K (tCall (spNew K args pre res) [] X ta) σ H z := fun H1 e Q q =>
  h H1 e _ fun vs H2 e2 hv => ⟨a, by rw [List.append_nil]; exact hv, hp, fun p xs H3 hn e3 h3 hd => q p xs H3 (e2.free hn) (e2.trans e3) h3 (hz ▸ hd)⟩
/-! what is walked -/
def GI (K : Fg) (M : List Addr) (wi : TI) (σ : L2.St) (H : Hp) (ds : List D) : Prop := ∀ R : It → Hp → Prop,
  (∀ (J : It) (G : Hp → Prop) (Y : Nat → Hp → V → Hp → Prop) (H2 : Hp), Same H H2 → Walk J ds.length G Y → (∀ H', But M H2 H' → G H') →
    (∀ i Ha x Hb, i < ds.length → But M H2 Ha → Y i Ha x Hb → Same Ha Hb ∧ ∃ d, ds[i]? = some d ∧ Dn K Hb x d) → R J H2) → wi σ H R
/-- all at M are lists -/
def Ls (M : List Addr) (H : Hp) : Prop := ∀ m ∈ M, ∃ xs, H m = some (.lst xs)
theorem Ls.kp {M : List Addr} {H1 : Hp} (h : Ls M H) (e : Same H H1) (b : But M H1 H') : Kp H1 H' := b.kp fun m hm o q => by
  obtain ⟨xs, hx⟩ := h m hm
  rw [e _ _ hx] at q
  cases q
  rfl
theorem ls_nil : Ls [] H := fun m hm => absurd hm (by simp)
theorem ls_one {l : Addr} {xs : List V} (h : H l = some (.lst xs)) : Ls [l] H := fun m hm => ⟨xs, by rw [List.mem_singleton.mp hm]; exact h⟩
theorem gi_range1 {M : List Addr} {ta : TA} {n : Int} (h : GA K ta σ H [.int n]) (h0 : -(2 ^ 62) ≤ n) (hn : n < 2 ^ 62) : GI K M (iRng1 ta) σ H ((List.range n.toNat).map fun i => D.int (i : Nat)) := fun R q =>
  h H (Same.refl _) _ fun vs H2 e2 hv => by
    cases hv with
    | cons h1 h2 =>
      cases h2
      cases h1
      refine ⟨n, rfl, h0, hn, q _ (fun _ => True) (YFn fun i => .int (0 + i)) H2 e2 (by simpa using walk_range (lo := 0) (n := n.toNat)) (fun _ _ => True.intro) fun i Ha x Hb hi _ y => ?_⟩
      obtain ⟨e, y⟩ := y
      subst e y
      refine ⟨Same.refl _, .int (i : Nat), ?_, ?_⟩
      · have hi' : i < n.toNat := by simpa using hi
        simp [hi']
      · have e0 : (0 : Int) + (i : Nat) = (i : Nat) := Int.zero_add _
        show Dn K Hb (V.int (0 + (i : Nat))) _
        rw [e0]
        exact .int _
theorem gi_tup {M : List Addr} {tl : TE} {ds : List D} (h : GD K tl σ H (.tup ds)) (hM : Ls M H) (hf : D.fixs ds = true) : GI K M (iTup K tl) σ H ds := fun R q =>
  h H (Same.refl _) _ fun v H2 e2 hv => by
    cases hv with
    | @tup a xs ds hs ha =>
      refine ⟨a, rfl, ⟨xs, hs⟩, q _ _ _ H2 e2 (by rw [← ha.length]; exact walk_tup) (fun H' b => kp_t (hM.kp e2 b) hs) fun i Ha x Hb hi b y => ?_⟩
      obtain ⟨e, y⟩ := y
      subst e
      obtain ⟨d, h1, h2⟩ := ha.get y
      exact ⟨Same.refl _, d, h1, h2.keep (hM.kp e2 b) (D.fixs_iff.mp hf d (List.mem_of_getElem? h1))⟩
/-- a list that nobody changes: one that stood, apart from M -/
theorem gi_list {M : List Addr} {tl : TE} {ds : List D} {a : Addr} (h : ∀ Q : VK, Q (.ref a) H → tl σ H Q) (hd : Dn K H (.ref a) (.lst ds)) (ha : a ∉ M) (hM : Ls M H) (hf : D.fixs ds = true) : GI K M (iList K tl) σ H ds := fun R q =>
  h _ (by
    cases hd with
    | @lst a xs ds hs hx =>
      refine ⟨a, rfl, ⟨xs, SqL.of hs⟩, q _ _ _ H (Same.refl _) (by rw [← hx.length]; exact walk_list) (fun H' b => SqL.of (b _ _ hs ha)) fun i Ha x Hb hi b y => ?_⟩
      obtain ⟨e, y⟩ := y
      subst e
      obtain ⟨d, h1, h2⟩ := hx.get y
      exact ⟨Same.refl _, d, h1, h2.keep (hM.kp (Same.refl _) b) (D.fixs_iff.mp hf d (List.mem_of_getElem? h1))⟩)
/-- a new list -/
theorem gi_new {M : List Addr} {tl : TE} {ds : List D} (h : GN K tl σ H ds) (hM : Ls M H) (hf : D.fixs ds = true) : GI K M (iList K tl) σ H ds := fun R q =>
  h H (Same.refl _) _ fun a xs H2 hn e2 hs hx => by
    have ha : a ∉ M := fun z => by
      obtain ⟨ys, hy⟩ := hM a z
      rw [hn] at hy
      cases hy
    refine ⟨a, rfl, ⟨xs, SqL.of hs⟩, q _ _ _ H2 e2 (by rw [← hx.length]; exact walk_list) (fun H' b => SqL.of (b _ _ hs ha)) fun i Ha x Hb hi b y => ?_⟩
    obtain ⟨e, y⟩ := y
    subst e
    obtain ⟨d, h1, h2⟩ := hx.get y
    exact ⟨Same.refl _, d, h1, h2.keep (hM.kp e2 b) (D.fixs_iff.mp hf d (List.mem_of_getElem? h1))⟩
/-- .. in a comprehension: any list -/
theorem gi_listC {tl : TE} {ds : List D} (h : GD K tl σ H (.lst ds)) : GI K [] (iList K tl) σ H ds := fun R q =>
  h H (Same.refl _) _ fun v H2 e2 hv => by
    cases hv with
    | @lst a xs ds hs hx =>
      refine ⟨a, rfl, ⟨xs, SqL.of hs⟩, q _ _ _ H2 e2 (by rw [← hx.length]; exact walk_list) (fun H' b => SqL.of (b _ _ hs (by simp))) fun i Ha x Hb hi b y => ?_⟩
      obtain ⟨e, y⟩ := y
      subst e
      obtain ⟨d, h1, h2⟩ := hx.get y
      exact ⟨Same.refl _, d, h1, h2.up b.same⟩
theorem gi_tupC {tl : TE} {ds : List D} (h : GD K tl σ H (.tup ds)) : GI K [] (iTup K tl) σ H ds := fun R q =>
  h H (Same.refl _) _ fun v H2 e2 hv => by
    cases hv with
    | @tup a xs ds hs hx =>
      refine ⟨a, rfl, ⟨xs, hs⟩, q _ _ _ H2 e2 (by rw [← hx.length]; exact walk_tup) (fun H' b => same_t b.same hs) fun i Ha x Hb hi b y => ?_⟩
      obtain ⟨e, y⟩ := y
      subst e
      obtain ⟨d, h1, h2⟩ := hx.get y
      exact ⟨Same.refl _, d, h1, h2.up b.same⟩
/-- the signs of a text -/
def signs (x : Str) : List D := x.cps.toList.map fun c => D.str ⟨#[c]⟩
theorem gi_str {M : List Addr} {tl : TE} {x : Str} (h : GD K tl σ H (.str x)) : GI K M (iStr tl) σ H (signs x) := fun R q =>
  h H (Same.refl _) _ fun v H2 e2 hv => by
    cases hv
    refine ⟨x, rfl, q _ _ _ H2 e2 (by simpa [signs] using walk_str (z := x)) (fun _ _ => True.intro) fun i Ha w Hb hi b y => ?_⟩
    obtain ⟨e, c, hc, hw⟩ := y
    subst e hw
    refine ⟨Same.refl _, .str ⟨#[c]⟩, ?_, .str _⟩
    unfold signs
    rw [List.getElem?_map, Array.getElem?_toList, hc]
    rfl
/-- a comprehension -/
theorem gn_lc {wi : TI} {j : Nat} {vs : List Nat} {ds : List D} (f : D → Bool) (g : D → D) (h : ∀ H1, Same H H1 → GI K [] wi σ H1 ds) (hz : ds.length ≤ 50000)
    (hw : ∀ x, wipe ((wipe σ vs).set j (some x)) vs = wipe σ vs) (hf : ∀ d ∈ ds, f d = true → (g d).fix = true)
    (ht : ∀ d x H1, d ∈ ds → Same H H1 → Dn K H1 x d → GT t ((wipe σ vs).set j (some x)) H1 (f d))
    (he : ∀ d x H1, d ∈ ds → Same H H1 → Dn K H1 x d → f d = true → GD K te ((wipe σ vs).set j (some x)) H1 (g d)) : GN K (tLc wi (gName j) t te vs) σ H ((ds.filter f).map g) := fun H1 e1 Q q => by
  refine h H1 e1 _ fun J G Y H2 e2 w hG hY => ?_
  intro Dl hD
  have fx : ∀ l : List D, (∀ d ∈ l, d ∈ ds) → D.fixs ((l.filter f).map g) = true := fun l hl => D.fixs_iff.mpr fun d hd => by
    obtain ⟨c, hc, rfl⟩ := List.mem_map.mp hd
    have hc' := List.mem_filter.mp hc
    exact hf c (hl c hc'.1) hc'.2
  refine lc_it w (fun i H' => Same H2 H' ∧ ∃ acc, H' Dl = some (.lst acc) ∧ Dns K H' acc (((ds.take i).filter f).map g)) ⟨Same.new hD, [], upd_same, by simpa using Dns.nil⟩ (fun i H' _ p => hG H' (.of p.1)) (fun i x Ha Hb hi p y => ?_) (fun H' p => ?_)
  · obtain ⟨p1, acc, p2, p3⟩ := p
    obtain ⟨eb, d, hd, hx⟩ := hY i Ha x Hb hi (.of p1) y
    have hm : d ∈ ds := List.mem_of_getElem? hd
    have e2b : Same H2 Hb := p1.trans eb
    have eHb : Same H Hb := (e1.trans e2).trans e2b
    have htk : ds.take (i + 1) = ds.take i ++ [d] := by
      rw [List.take_add_one, hd]
      rfl
    refine ⟨hw x, ht d x Hb hm eHb hx Hb (Same.refl _) _ fun H3 e3 => ?_⟩
    cases hfd : f d with
    | false =>
      refine (if_neg Bool.false_ne_true).mpr ⟨e2b.trans e3, acc, e3 _ _ (eb _ _ p2), ?_⟩
      rw [htk, List.filter_append, List.filter_cons, if_neg (by rw [hfd]; simp), List.filter_nil, List.append_nil]
      exact p3.up (eb.trans e3)
    | true =>
      refine (if_pos rfl).mpr (he d x Hb hm eHb hx hfd H3 e3 _ fun y H4 e4 hy => ⟨acc, e4 _ _ (e3 _ _ (eb _ _ p2)), ?_, ?_⟩)
      · have := p3.length
        have h2 : ((List.filter f (ds.take i)).map g).length ≤ ds.length := by
          rw [List.length_map]
          exact Nat.le_trans (List.length_filter_le _ _) (by rw [List.length_take]; omega)
        rw [sizeLine_eq]
        omega
      · have hDl : H4 Dl = some (.lst acc) := e4 _ _ (e3 _ _ (eb _ _ p2))
        refine ⟨Same.mut ((e2b.trans e3).trans e4) hD, acc ++ [y], upd_same, ?_⟩
        rw [htk, List.filter_append, List.map_append, List.filter_cons, if_pos hfd, List.filter_nil]
        refine Dns.app ((p3.up ((eb.trans e3).trans e4)).keep (Kp.upd hDl rfl) (fx _ fun d hd => List.mem_of_mem_take hd)) (.cons (hy.keep (Kp.upd hDl rfl) (hf d hm hfd)) .nil)
  · obtain ⟨p1, acc, p2, p3⟩ := p
    rw [List.take_length] at p3
    exact q Dl acc H' (e2.free hD) (e2.trans p1) p2 p3
/-- .. without a test -/
theorem gn_map {wi : TI} {j : Nat} {vs : List Nat} {ds : List D} (g : D → D) (h : ∀ H1, Same H H1 → GI K [] wi σ H1 ds) (hz : ds.length ≤ 50000)
    (hw : ∀ x, wipe ((wipe σ vs).set j (some x)) vs = wipe σ vs) (hf : ∀ d ∈ ds, (g d).fix = true)
    (he : ∀ d x H1, d ∈ ds → Same H H1 → Dn K H1 x d → GD K te ((wipe σ vs).set j (some x)) H1 (g d)) : GN K (tLc wi (gName j) tYes te vs) σ H (ds.map g) := by
  have h' := gn_lc (K := K) (t := tYes) (te := te) (σ := σ) (H := H) (fun _ => true) g h hz hw (fun d hd _ => hf d hd) (fun d x H1 _ _ _ H2 _ Q q => q H2 (Same.refl _)) (fun d x H1 hd e hx _ => he d x H1 hd e hx)
  have e : ds.filter (fun _ => true) = ds := List.filter_eq_self.mpr fun _ _ => rfl
  rw [e] at h'
  exact h'
/-- a for: what holds between the turns may be told by the heap at the loop's start -/
theorem s_for {M : List Addr} {wi : TI} {g : TG} {ds : List D} (h : GI K M wi σ H ds)
    (k : ∀ H2, Same H H2 → ∃ Pv : Nat → L2.St → Hp → Prop, Pv 0 σ H2 ∧ (∀ i σ' H', Pv i σ' H' → But M H2 H') ∧ (∀ i σ' H' H'', Same H' H'' → Pv i σ' H' → Pv i σ' H'') ∧
      (∀ i d x σ' H', ds[i]? = some d → Dn K H' x d → Pv i σ' H' → g x σ' H' fun σ2 H3 => tu { E with nx := Pv (i + 1), ct := Pv (i + 1), bk := E.nx } σ2 H3) ∧ (∀ σ' H', Pv ds.length σ' H' → E.nx σ' H')) : tFor wi g tu E σ H :=
  h _ fun J G Y H2 e2 w hG hY => by
    obtain ⟨Pv, k0, kb, hP, ks, kd⟩ := k H2 e2
    refine for_it w Pv k0 (fun i σ' H' hi p => hG H' (kb i σ' H' p)) (fun i x σ' Ha Hb hi p y => ?_) kd
    obtain ⟨eb, d, hd, hx⟩ := hY i Ha x Hb hi (kb i σ' Ha p) y
    exact ks i d x σ' Hb hd hx (hP i σ' Ha Hb eb p)
/-- a while, by a word that falls -/
theorem s_while (W : Nat → L2.St → Hp → Prop) (m0 : Nat) (h0 : W m0 σ H)
    (hs : ∀ m σ' H', W m σ' H' → ∃ b, GT t σ' H' b ∧ (b = true → ∀ H1, Same H' H1 → ∃ N : L2.St → Hp → Prop, (∀ σ2 H2, N σ2 H2 → ∃ m', m' < m ∧ W m' σ2 H2) ∧ tu { E with nx := N, ct := N, bk := E.nx } σ' H1) ∧
      (b = false → ∀ H1, Same H' H1 → E.nx σ' H1)) : tWhile t tu E σ H :=
  ⟨W, ⟨m0, h0⟩, fun m σ' H' hw => by
    obtain ⟨b, hb, h1, h2⟩ := hs m σ' H' hw
    refine hb H' (Same.refl _) _ fun H1 e => ?_
    cases b with
    | true => exact (if_pos rfl).mpr (h1 rfl H1 e)
    | false => exact (if_neg Bool.false_ne_true).mpr (h2 rfl H1 e)⟩
end
end Cc

namespace Cc
open PySem L2
/-- what len says of it -/
def D.len : D → Option Nat
  | .lst ds => some ds.length
  | .tup ds => some ds.length
  | .str x => some x.length
  | _ => none
/-- the name of its built-in type -/
def D.ty : D → String
  | .non => "NoneType"
  | .bl _ => "bool"
  | .int _ => "int"
  | .str _ => "str"
  | .lst _ => "list"
  | .tup _ => "tuple"
  | .ptup _ => "tuple"
  | .ob _ _ _ => "object"
def D.noob : D → Bool
  | .ob _ _ _ => false
  | _ => true
abbrev rLen (K : Fg) : List V → Hp → VK → Prop := fun xs H Q => ∃ x n, xs = [x] ∧ LenV K x H n ∧ Q (.int (n : Nat)) H
abbrev rTup (K : Fg) : List V → Hp → VK → Prop := fun xs H Q => ∃ p ys, xs = [.ref p] ∧ ((SqL K H p ys ∧ ∀ l, H l = none → Q (.ref l) (upd H l (.tup ys))) ∨ (SqT K H p ys ∧ Q (.ref p) H))
abbrev rLst (K : Fg) : List V → Hp → VK → Prop := fun xs H Q => ∃ p ys, xs = [.ref p] ∧ (SqL K H p ys ∨ SqT K H p ys) ∧ ∀ l, H l = none → Q (.ref l) (upd H l (.lst ys))
/-! the rules with the written part told -/
section
variable {X : Cx} (K : Fg)
theorem lenK (h : X.K = K := by rfl) : CallR X (.builtin "len") (rLen K) := h ▸ call_len
theorem tupK (h : X.K = K := by rfl) : CallR X (.type "tuple") (rTup K) := h ▸ call_tuple_of
theorem lstK (h : X.K = K := by rfl) : CallR X (.type "list") (rLst K) := h ▸ call_list_of
theorem isiK (h : X.K = K := by rfl) : CallR X (.builtin "isinstance") (rIsi K) := h ▸ call_isi
theorem sumK (hc : X.calm = true := by rfl) (h : X.K = K := by rfl) : CallR X (.builtin "sum") (rSum K) := h ▸ cr_sum hc
theorem allK (hc : X.calm = true := by rfl) (h : X.K = K := by rfl) : CallR X (.builtin "all") (rAll K) := h ▸ cr_all hc
theorem anyK (hc : X.calm = true := by rfl) (h : X.K = K := by rfl) : CallR X (.builtin "any") (rAny K) := h ▸ cr_any hc
theorem ixT (h : X.K = K := by rfl) : IxR X (rIxT K) := h ▸ ix_tup
theorem ixL (h : X.K = K := by rfl) : IxR X (rIxL K) := h ▸ ix_list
theorem ixA (h : X.K = K := by rfl) : IxR X (rIx K) := h ▸ ix_seq
theorem slT (h : X.K = K := by rfl) : SlR X (rSlA K) := h ▸ sl_tupA
theorem slL (h : X.K = K := by rfl) : SlR X (rSlL K) := h ▸ sl_list
theorem catT (h : X.K = K := by rfl) : OpR X (binaryOp .Add) (rCatA K) := h ▸ op_catA
theorem eqK (hu : X.A.units + 64 < cLine) (h : X.K = K := by rfl) : OpR X (compareOp .Eq) (rEqD K) := h ▸ op_eqD hu
theorem neK (hu : X.A.units + 64 < cLine) (h : X.K = K := by rfl) : OpR X (compareOp .NotEq) (rNeD K) := h ▸ op_neD hu
theorem inK (h : X.K = K := by rfl) : OpR X (compareOp .In) (rIn K false) := h ▸ op_in_seq
theorem niK (h : X.K = K := by rfl) : OpR X (compareOp .NotIn) (rIn K true) := h ▸ op_notIn_seq
theorem inDK (hu : X.A.units + 65 < cLine) (h : X.K = K := by rfl) : OpR X (compareOp .In) (rInD K) := h ▸ op_inD hu
theorem niDK (hu : X.A.units + 65 < cLine) (h : X.K = K := by rfl) : OpR X (compareOp .NotIn) (rNotInD K) := h ▸ op_notInD hu
theorem pe_fK {e : Expr} {f : Str} {pos : Pos} {ta : TE} (he : PE X e ta) (hb : attributeBase e f X.env (eval e X.env) = eval e X.env := by rfl) (h : X.K = K := by rfl) : PE X (.Attribute e f pos) (tFld K ta f) := h ▸ pe_fld he hb
theorem pi_lK {tg l : Expr} {tl : TE} (hl : PE X l tl) (h : X.K = K := by rfl) : PI X tg l (iList K tl) := h ▸ pi_list hl
theorem pi_tK {tg l : Expr} {tl : TE} (hl : PE X l tl) (h : X.K = K := by rfl) : PI X tg l (iTup K tl) := h ▸ pi_tup hl
end
section
variable {K : Fg} {σ : L2.St} {H H' : Hp} {ta tb te : TE} {t u : TT} {d e z : D} {r : R2}
theorem rc_len {n : Nat} (h : d.len = some n) (hz : n ≤ 100000) : RCD K (rLen K) [d] (.int (n : Nat)) := fun vs H Q hv q => by
  cases hv with
  | cons h1 h2 =>
    cases h2
    refine ⟨_, n, rfl, ?_, q _ H (Same.refl _) (.int _)⟩
    cases h1 with
    | str x =>
      cases h
      exact ⟨by rw [sizeLine_eq]; omega, rfl⟩
    | lst hs ha =>
      cases h
      exact .inl ⟨_, SqL.of hs, ha.length.symm⟩
    | tup hs ha =>
      cases h
      exact .inr ⟨_, hs, ha.length.symm⟩
    | _ => cases h
theorem tyx_of (hb : d.noob = true) {v : V} (h : Dn K H v d) : TyX K H v (.type d.ty) := by
  cases h with
  | non => exact .base .non
  | bl b => exact .base (.bl b)
  | int i => exact .base (.int i)
  | str x => exact .base (.str x)
  | lst hs _ => exact .base (.lst hs)
  | ptup hs _ =>
    obtain ⟨o, _, hs⟩ := hs
    exact .fTuple hs
  | tup hs _ =>
    rcases hs with (hs | ⟨o, hs⟩) | ⟨o, its, n, hk, hc, _⟩
    · exact .base (.tup hs)
    · exact .fTuple hs
    · exact .kTuple hk hc
  | ob _ _ _ => cases hb
/-- isinstance(e, T), T a built-in class -/
theorem gd_isi {n : String} {b : Bool} (h : GD K te σ H d) (hb : d.noob = true) (hk : kitB d.ty n = some b) : GD K (tCB (rIsi K) (tCons te (tCons (tC (.ty n)) tNil))) σ H (.bl b) := fun H1 e Q q =>
  h H1 e _ fun v H2 e2 hv => ⟨v, .ty n, .type d.ty, .type n, b, rfl, .ty n, tyx_of hb hv, kit_ty hk, q _ H2 e2 (.bl _)⟩
def D.isT (n : String) : D → Bool
  | .non => false
  | .bl _ => n == "int" || n == "bool"
  | .int _ => n == "int"
  | .str _ => n == "str"
  | .lst _ => n == "list"
  | .tup _ => n == "tuple"
  | .ptup _ => n == "tuple"
  | .ob _ _ _ => false
theorem kit_isT (hb : d.noob = true) (n : String) (hn : n = "int" ∨ n = "bool" ∨ n = "str" ∨ n = "list" ∨ n = "tuple") : kitB d.ty n = some (d.isT n) := by
  rcases hn with rfl | rfl | rfl | rfl | rfl
  all_goals
    cases d
    case non => exact (show kitB "NoneType" _ = some false by decide +kernel)
    case bl b => first | exact (show kitB "bool" _ = some true by decide +kernel) | exact (show kitB "bool" _ = some false by decide +kernel)
    case int b => first | exact (show kitB "int" _ = some true by decide +kernel) | exact (show kitB "int" _ = some false by decide +kernel)
    case str b => first | exact (show kitB "str" _ = some true by decide +kernel) | exact (show kitB "str" _ = some false by decide +kernel)
    case lst b => first | exact (show kitB "list" _ = some true by decide +kernel) | exact (show kitB "list" _ = some false by decide +kernel)
    case tup b => first | exact (show kitB "tuple" _ = some true by decide +kernel) | exact (show kitB "tuple" _ = some false by decide +kernel)
    case ptup b => first | exact (show kitB "tuple" _ = some true by decide +kernel) | exact (show kitB "tuple" _ = some false by decide +kernel)
    case ob => cases hb
/-- isinstance(e, int) and so on -/
theorem gd_isT {n : String} (h : GD K te σ H d) (hb : d.noob = true) (hn : n = "int" ∨ n = "bool" ∨ n = "str" ∨ n = "list" ∨ n = "tuple" := by decide) : GD K (tCB (rIsi K) (tCons te (tCons (tC (.ty n)) tNil))) σ H (.bl (d.isT n)) := gd_isi h hb (kit_isT hb n hn)
theorem rc_min2 {i j : Int} : RCD K (fun xs H Q => ∃ i j, xs = [.int i, .int j] ∧ Q (.int (if j < i then j else i)) H) [.int i, .int j] (.int (min i j)) := fun vs H Q hv q => by
  cases hv with
  | cons h1 h2 =>
    cases h2 with
    | cons h2 h3 =>
      cases h3
      cases h1; cases h2
      have e : (if j < i then j else i) = min i j := by
        by_cases c : j < i
        · rw [if_pos c]; omega
        · rw [if_neg c]; omega
      exact ⟨i, j, rfl, by rw [e]; exact q _ H (Same.refl _) (.int _)⟩
theorem rc_max2 {i j : Int} : RCD K (fun xs H Q => ∃ i j, xs = [.int i, .int j] ∧ Q (.int (if j > i then j else i)) H) [.int i, .int j] (.int (max i j)) := fun vs H Q hv q => by
  cases hv with
  | cons h1 h2 =>
    cases h2 with
    | cons h2 h3 =>
      cases h3
      cases h1; cases h2
      have e : (if j > i then j else i) = max i j := by
        by_cases c : j > i
        · rw [if_pos c]; omega
        · rw [if_neg c]; omega
      exact ⟨i, j, rfl, by rw [e]; exact q _ H (Same.refl _) (.int _)⟩
theorem rc_int {i : Int} : RCD K (fun xs H Q => (∃ i, xs = [.int i] ∧ Q (.int i) H) ∨ ∃ k, xs = [.bl k] ∧ Q (.int (if k then 1 else 0)) H) [.int i] (.int i) := fun vs H Q hv q => by
  cases hv with
  | cons h1 h2 =>
    cases h2
    cases h1
    exact .inl ⟨i, rfl, q _ H (Same.refl _) (.int _)⟩
theorem rc_intB {b : Bool} : RCD K (fun xs H Q => (∃ i, xs = [.int i] ∧ Q (.int i) H) ∨ ∃ k, xs = [.bl k] ∧ Q (.int (if k then 1 else 0)) H) [.bl b] (.int (if b then 1 else 0)) := fun vs H Q hv q => by
  cases hv with
  | cons h1 h2 =>
    cases h2
    cases h1
    exact .inr ⟨b, rfl, q _ H (Same.refl _) (.int _)⟩
theorem dns_ints : ∀ {vs : List V} {ns : List Int}, Dns K H vs (ns.map D.int) → vs = ns.map V.int
  | _, [], h => by cases h; rfl
  | _, n :: ns, h => by
    cases h with
    | cons h1 h2 =>
      cases h1
      rw [dns_ints h2]
      rfl
theorem dns_bls : ∀ {vs : List V} {ns : List Bool}, Dns K H vs (ns.map D.bl) → vs = ns.map V.bl
  | _, [], h => by cases h; rfl
  | _, n :: ns, h => by
    cases h with
    | cons h1 h2 =>
      cases h1
      rw [dns_bls h2]
      rfl
theorem dns_strs : ∀ {vs : List V} {ns : List Str}, Dns K H vs (ns.map D.str) → vs = ns.map V.str
  | _, [], h => by cases h; rfl
  | _, n :: ns, h => by
    cases h with
    | cons h1 h2 =>
      cases h1
      rw [dns_strs h2]
      rfl
theorem rc_sum {ns : List Int} : RCD K (rSum K) [.lst (ns.map D.int)] (.int ns.sum) := fun vs H Q hv q => by
  cases hv with
  | cons h1 h2 =>
    cases h2
    cases h1 with
    | lst hs ha => exact ⟨_, ns, rfl, by rw [dns_ints ha] at hs; exact SqL.of hs, q _ H (Same.refl _) (.int _)⟩
theorem rc_all {bs : List Bool} : RCD K (rAll K) [.lst (bs.map D.bl)] (.bl (bs.all id)) := fun vs H Q hv q => by
  cases hv with
  | cons h1 h2 =>
    cases h2
    cases h1 with
    | lst hs ha => exact ⟨_, bs, rfl, by rw [dns_bls ha] at hs; exact SqL.of hs, q _ H (Same.refl _) (.bl _)⟩
theorem rc_any {bs : List Bool} : RCD K (rAny K) [.lst (bs.map D.bl)] (.bl (bs.any id)) := fun vs H Q hv q => by
  cases hv with
  | cons h1 h2 =>
    cases h2
    cases h1 with
    | lst hs ha => exact ⟨_, bs, rfl, by rw [dns_bls ha] at hs; exact SqL.of hs, q _ H (Same.refl _) (.bl _)⟩
/-- tuple(list), tuple(tuple) -/
theorem rc_tuple {ds : List D} (h : d = .lst ds ∨ d = .tup ds) (hf : D.fixs ds = true) : RCD K (rTup K) [d] (.tup ds) := fun vs H Q hv q => by
  cases hv with
  | cons h1 h2 =>
    cases h2
    rcases h with h | h
    · subst h
      cases h1 with
      | lst hs ha => exact ⟨_, _, rfl, .inl ⟨SqL.of hs, fun l hl => q _ _ (Same.new hl) (.tup (SqT.of upd_same) (ha.up (Same.new hl)))⟩⟩
    · subst h
      cases h1 with
      | tup hs ha => exact ⟨_, _, rfl, .inr ⟨hs, q _ H (Same.refl _) (.tup hs ha)⟩⟩
/-- list(list), list(tuple) -/
theorem gn_list {ds : List D} (h : GD K te σ H d) (hd : d = .lst ds ∨ d = .tup ds) : GN K (tCB (rLst K) (tCons te tNil)) σ H ds := fun H1 e Q q =>
  h H1 e _ fun v H2 e2 hv => by
    rcases hd with hd | hd
    · subst hd
      cases hv with
      | lst hs ha => exact ⟨_, _, rfl, .inl (SqL.of hs), fun l hl => q l _ _ (e2.free hl) (e2.trans (Same.new hl)) upd_same (ha.up (Same.new hl))⟩
    · subst hd
      cases hv with
      | tup hs ha => exact ⟨_, _, rfl, .inr hs, fun l hl => q l _ _ (e2.free hl) (e2.trans (Same.new hl)) upd_same (ha.up (Same.new hl))⟩
/-- tuple(range(a, b)) -/
theorem gd_tupRg2 {i j : Int} (ha : GD K ta σ H (.int i)) (hb : GD K tb σ H (.int j)) (h : RgOk i j) : GD K (tTupRg (tRg2 ta tb)) σ H (.tup ((List.range (j - i).toNat).map fun k => .int (i + (k : Nat)))) := fun H1 e Q q =>
  ha H1 e _ fun v H2 e2 hv => hb H2 (e.trans e2) _ fun w H3 e3 hw => by
    cases hv; cases hw
    refine ⟨i, j, rfl, rfl, h, fun p hp => q _ _ ((e2.trans e3).trans (Same.new hp)) (.tup (SqT.of upd_same) ?_)⟩
    unfold rgV
    exact Dns.of (fun k => .int _) _
/-- slices -/
theorem go_none : GO tNoPart σ H none := fun H1 _ Q q => q H1 (Same.refl _)
theorem go_some {i : Int} (h : GD K te σ H (.int i)) : GO (tPart te) σ H (some i) := fun H1 e Q q => h H1 e _ fun v H2 e2 hv => by
  cases hv
  exact ⟨i, rfl, q H2 e2⟩
def cutD (ds : List D) (lo hi : Option Int) : List D := (ds.drop (HT.sIx ds.length 0 lo)).take (HT.sIx ds.length ds.length hi - HT.sIx ds.length 0 lo)
theorem cut_dns {vs : List V} {ds : List D} (h : Dns K H vs ds) (lo hi : Option Int) : Dns K H (cutV vs lo hi) (cutD ds lo hi) := by
  unfold cutV cutD
  rw [h.length]
  exact (h.drop _).take _
theorem gd_slT {tl th : TO} {ds : List D} {lo hi : Option Int} (h : GD K te σ H (.tup ds)) (h1 : GO tl σ H lo) (h2 : GO th σ H hi) : GD K (tSl (rSlA K) te tl th) σ H (.tup (cutD ds lo hi)) := fun H1 e Q q =>
  h H1 e _ fun v H2 e2 hv => h1 H2 (e.trans e2) _ fun H3 e3 => h2 H3 ((e.trans e2).trans e3) _ fun H4 e4 => by
    have hv := hv.up (e3.trans e4)
    cases hv with
    | @tup a xs ds hs ha =>
      refine ⟨a, xs, rfl, hs, fun w => ?_, fun _ p hp => q _ _ (((e2.trans e3).trans e4).trans (Same.new hp)) (.tup (SqT.of upd_same) ((cut_dns ha lo hi).up (Same.new hp)))⟩
      have hw : cutD ds lo hi = ds := by
        unfold cutD
        rw [ha.length] at w
        rw [w.1, w.2, List.drop_zero, Nat.sub_zero, List.take_length]
      rw [hw] at q
      exact q _ H4 ((e2.trans e3).trans e4) (.tup hs ha)
theorem gn_slL {tl th : TO} {ds : List D} {lo hi : Option Int} (h : GD K te σ H (.lst ds)) (h1 : GO tl σ H lo) (h2 : GO th σ H hi) : GN K (tSl (rSlL K) te tl th) σ H (cutD ds lo hi) := fun H1 e Q q =>
  h H1 e _ fun v H2 e2 hv => h1 H2 (e.trans e2) _ fun H3 e3 => h2 H3 ((e.trans e2).trans e3) _ fun H4 e4 => by
    have hv := hv.up (e3.trans e4)
    cases hv with
    | @lst a xs ds hs ha =>
      exact ⟨a, xs, rfl, SqL.of hs, fun p hp => q _ _ _ (((e2.trans e3).trans e4).free hp) (((e2.trans e3).trans e4).trans (Same.new hp)) upd_same ((cut_dns ha lo hi).up (Same.new hp))⟩
/-- a field -/
theorem gd_fld {C : Addr} {ns : List Str} {ds : List D} {f : Str} {i : Nat} (h : GD K te σ H (.ob C ns ds)) (c : Cls K C) (n : NoAttr K C f) (hi : ns[i]? = some f) (hn : ns.Nodup) (hd : ds[i]? = some d) : GD K (tFld K te f) σ H d := fun H1 e Q q =>
  h H1 e _ fun v H2 e2 hv => by
    cases hv with
    | @ob a C dx fs ns ds ho hm ha =>
      obtain ⟨w, hw, hwd⟩ := ha.getD hd
      refine ⟨a, C, dx, fs, w, rfl, ho, c, n, ?_, q w H2 e2 hwd⟩
      have key : ∀ (fs : List (Str × V)) (i : Nat), (fs.map (·.1)).Nodup → (fs.map (·.1))[i]? = some f → (fs.map (·.2))[i]? = some w → fs.lookup f = some w := by
        intro fs
        induction fs with
        | nil => intro i _ h1; simp at h1
        | cons p fs ih =>
          intro i hnd h1 h2
          obtain ⟨k, x⟩ := p
          cases i with
          | zero =>
            simp at h1 h2
            subst h1 h2
            simp [List.lookup]
          | succ i =>
            simp at h1 h2
            have hne : ¬ f = k := by
              rintro rfl
              have hmem : f ∈ fs.map (·.1) := List.mem_of_getElem? (i := i) (by simpa using h1)
              simp at hnd
              obtain ⟨a, ha, hb⟩ := List.mem_map.mp hmem
              obtain ⟨a1, a2⟩ := a
              simp at hb
              subst hb
              exact hnd.1 a2 ha
            have hb : (f == k) = false := by simpa using hne
            rw [List.lookup_cons, hb]
            exact ih i (by simpa using (List.nodup_cons.mp hnd).2) (by simpa using h1) (by simpa using h2)
      rw [← hm] at hi hn
      exact key fs i hn hi hw
end
end Cc

namespace Cc
open PySem L2
/-- the def that stands under the name x keeps its promise -/
def Cal (P : Program) (w : World) (K : Fg) (mg : Str → Option Value) (base : Heap) (CX : CXT) (n : Nat) (x : Str) (ps : List Str) (sp : Sp) : Prop :=
  ∃ (f : Addr) (fd : FuncData), FnOk P w K mg base CX n f fd ps sp ∧ mg x = some (.ref f) ∧ PySem.W.keepIn K (.ref f) = true ∧ L2.Binds K fd ps []
/-- a constant of the module -/
def Cst (mg : Str → Option Value) (x : Str) (v : V) : Prop := ∃ u, mg x = some u ∧ RelV v u
section
variable {X : Cx} {n m : Nat} {x : Str} {ps : List Str} {sp : Sp} {e : Expr} {es : List Expr} {t : TA} {p pos : Pos}
theorem pe_gc {v : V} (h : Cst X.mg x v) (hg : Gl X x := by rfl) (hd : (x == ("__debug__" : Str)) = false := by decide) : PE X (.Name x pos) (tC v) := by
  obtain ⟨u, h1, h2⟩ := h
  exact pe_glob hg h1 h2 hd
theorem pe_ty {T : String} (hm : X.mg x = none) (hg : Gl X x := by rfl) (hv : bootBuiltins x = some (.type T) := by decide +kernel) (hn : x ≠ "__name__" := by decide) (hd : (x == ("__debug__" : Str)) = false := by decide) : PE X (.Name x pos) (tC (.ty T)) :=
  pe_bltn hg hm hv rfl hn hd
/-- a call of a def that lets nothing out -/
theorem pe_cal {CX : CXT} {E : XK} (C : Cal X.prog X.w X.K X.mg X.base CX n x ps sp) (hr : Room m X.A) (hx : Passes CX X E) (ha : PA X (e :: es) t) (hg : Gl X x := by rfl) (hn : n ≤ m := by decide)
    (hdb : (x == ("__debug__" : Str)) = false := by decide) (he : starEach (e :: es) X.env = (false, eval e X.env) :: starEach es X.env := by rfl) (hpl : (backTo pos (starEach es X.env)).any (·.1) = false := by rfl) : PE X (.Call (.Name x p) (e :: es) [] pos) (tCall sp [] E t) := by
  obtain ⟨f, fd, F, hm, hk, hb⟩ := C
  exact pe_call F (hr.mono hn) hg hm hk hb .nil hx ha hdb he hpl
end
section
variable {K : Fg} {H : Hp}
theorem Dns.un1 {vs : List V} {a : D} (h : Dns K H vs [a]) : ∃ v, vs = [v] ∧ Dn K H v a := by
  cases h with
  | cons h0 h => cases h; exact ⟨_, rfl, h0⟩
theorem Dns.un2 {vs : List V} {a b : D} (h : Dns K H vs [a, b]) : ∃ v w, vs = [v, w] ∧ Dn K H v a ∧ Dn K H w b := by
  cases h with
  | cons h0 h =>
    obtain ⟨w, rfl, h1⟩ := h.un1
    exact ⟨_, w, rfl, h0, h1⟩
theorem Dns.un3 {vs : List V} {a b c : D} (h : Dns K H vs [a, b, c]) : ∃ v w x, vs = [v, w, x] ∧ Dn K H v a ∧ Dn K H w b ∧ Dn K H x c := by
  cases h with
  | cons h0 h =>
    obtain ⟨w, x, rfl, h1, h2⟩ := h.un2
    exact ⟨_, w, x, rfl, h0, h1, h2⟩
theorem Dns.un4 {vs : List V} {a b c d : D} (h : Dns K H vs [a, b, c, d]) : ∃ v w x y, vs = [v, w, x, y] ∧ Dn K H v a ∧ Dn K H w b ∧ Dn K H x c ∧ Dn K H y d := by
  cases h with
  | cons h0 h =>
    obtain ⟨w, x, y, rfl, h1, h2, h3⟩ := h.un3
    exact ⟨_, w, x, y, rfl, h0, h1, h2, h3⟩
end
/-- a text of one sign in another text -/
def hasSign (z : Str) (c : Str) : Bool := match c.cps.toList with
  | [k] => decide (k ∈ z.cps.toList)
  | _ => false
section
variable {K : Fg} {σ : L2.St} {H H' : Hp} {ta tb te : TE} {t u : TT} {d e z : D} {r : R2}
theorem gd_chain {r r' : R2} {tc : TE} {f : D} {a b : Bool} (ha : GD K ta σ H d) (hb : GD K tb σ H e) (hr : R2D K r d e (.bl a)) (hc : GD K tc σ H f) (hr' : R2D K r' e f (.bl b)) : GD K (tChain r r' ta tb tc) σ H (.bl (a && b)) := fun H1 c Q q =>
  ha H1 c _ fun x H2 c2 hx => hb H2 (c.trans c2) _ fun y H3 c3 hy => hr x y H3 _ (hx.up c3) hy fun v H4 c4 hv => by
    cases hv
    refine ⟨a, rfl, ?_⟩
    have k := (c2.trans c3).trans c4
    cases a with
    | true => exact (if_pos rfl).mpr (hc H4 (c.trans k) _ fun w H5 c5 hw => hr' y w H5 _ (hy.up (c4.trans c5)) hw fun v H6 c6 hv => q v H6 ((k.trans c5).trans c6) hv)
    | false => exact (if_neg Bool.false_ne_true).mpr (q _ H4 k (.bl _))
theorem r_sign {c : Nat} {z : Str} : R2D K (fun x y H Q => ∃ (c : Nat) (z : Str), x = .str ⟨#[c]⟩ ∧ y = .str z ∧ Q (.bl (decide (c ∈ z.cps.toList))) H) (.str ⟨#[c]⟩) (.str z) (.bl (decide (c ∈ z.cps.toList))) := fun x y H Q hx hy q => by
  cases hx; cases hy
  exact ⟨c, z, rfl, rfl, q _ H (Same.refl _) (.bl _)⟩
theorem ixN_nat {n j : Nat} (hj : j < n) : ixN n (j : Int) = some j := by
  unfold ixN
  rw [if_pos (by omega), if_pos (by omega)]
  simp
/-- xs[j] = e -/
theorem s_setL {E : Ends} {l : Addr} {xs : List V} {j : Nat} (hl : H l = some (.lst xs)) (ho : ∀ H1, Same H H1 → ∀ Q : VK, Q (.ref l) H1 → ta σ H1 Q) (hi : GD K tb σ H (.int (j : Nat))) (hj : j < xs.length) (h : GD K te σ H d)
    (k : ∀ v H1, Same H H1 → Dn K H1 v d → E.nx σ (upd H1 l (.lst (xs.set j v)))) : tAsg te (gSub ta tb rSetL) E σ H :=
  h H (Same.refl _) _ fun v H1 e1 hv => ho H1 e1 _ (hi H1 e1 _ fun w H2 e2 hw => by
    cases hw
    exact ⟨l, xs, (j : Nat), j, rfl, rfl, (e1.trans e2) l _ hl, ixN_nat hj, k v H2 (e1.trans e2) (hv.up e2)⟩)
/-- an item of a list that a name holds, told by its value -/
theorem gd_ixV {i j : Nat} {l : Addr} {xs : List V} {v : V} (hσ : σ[i]? = some (some (.ref l))) (hl : H l = some (.lst xs)) (hv : xs[j]? = some v) (hd : Dn K H v d) : GD K (tOp (rIxL K) (tVar i) (tC (.int (j : Nat)))) σ H d := fun H1 e Q q =>
  ⟨.ref l, hσ, l, xs, (j : Nat), v, rfl, rfl, SqL.of (e _ _ hl), atI_nat hv, q v H1 (Same.refl _) (hd.up e)⟩
end
end Cc

namespace Cc
open PySem L2 RZ
theorem walk_zipT {K : Fg} {a b : Addr} {xs ys : List V} {n : Nat} (hn : n = min xs.length ys.length) : Walk (ItzT K a b) n (fun H => SqT K H a xs ∧ SqT K H b ys) (YPair (fun i => xs[i]?) (fun i => ys[i]?)) := by
  subst hn
  refine ⟨fun i _ hi q => ?_, fun _ q => ⟨xs, ys, q.1, q.2, by omega⟩, fun i H v H' _ q y => ?_⟩
  · have h1 : i < xs.length := by omega
    have h2 : i < ys.length := by omega
    exact ⟨xs, ys, xs[i], ys[i], q.1, q.2, by simp [h1], by simp [h2]⟩
  · obtain ⟨T, x, z, h1, h2, h3, h4, h5⟩ := y
    exact ⟨T, x, z, h1, h2, h3, h4 xs q.1, h5 ys q.2⟩
theorem pi_zK {X : Cx} (K : Fg) {e e2 : Expr} {ta : TA} {p pos tpos : Pos} {elts : List Expr} {kk : Nat} (hm : X.mg "zip" = none) (ha : PA X [e, e2] ta) (hg : Gl X "zip" := by rfl) (h : X.K = K := by rfl)
    (he : starEach [e, e2] X.env = (false, eval e X.env) :: starEach [e2] X.env := by rfl) (hp : (backTo pos (starEach [e2] X.env)).any (·.1) = false := by rfl) : PI X (.Tuple elts kk tpos) (.Call (.Name "zip" p) [e, e2] [] pos) (iZipA K ta) := h ▸ pi_zipA hg hm ha he hp
theorem pg_tK {X : Cx} (K : Fg) {es : List Expr} {k : Nat} {t : TGs} {n : Nat} {pos : Pos} (hc : X.calm = true) (h : PGs X es t) (hk : X.K = K := by rfl)
    (hn : (assignEach es X.env).length = n := by rfl) (hst : (assignEach es X.env).findIdx? (·.1) = none := by rfl) : PG X (.Tuple es k pos) (gTup K n t) := hk ▸ pg_tup hc h hn hst
section
variable {K : Fg} {σ : L2.St} {H H' : Hp} {te : TE} {t : TT}
/-- [e for a, b in zip(xs, ys)], both tuples -/
theorem gn_zipT {ta : TA} {i j : Nat} {vs : List Nat} {ds es : List D} (g : D × D → D) (h : GA K ta σ H [.tup ds, .tup es]) (hz : ds.length ≤ 50000)
    (hw : ∀ x y, wipe (((wipe σ vs).set i (some x)).set j (some y)) vs = wipe σ vs) (hf : ∀ p ∈ ds.zip es, (g p).fix = true)
    (he : ∀ p x y H1, p ∈ ds.zip es → Same H H1 → Dn K H1 x p.1 → Dn K H1 y p.2 → GD K te (((wipe σ vs).set i (some x)).set j (some y)) H1 (g p)) : GN K (tLc (iZipA K ta) (gTup K 2 (gCons (gName i) (gCons (gName j) gNil))) tYes te vs) σ H ((ds.zip es).map g) := fun H1 e1 Q q =>
  h H1 e1 _ fun ws H2 e2 hv => by
    obtain ⟨v, w, rfl, h1, h2⟩ := hv.un2
    cases h1 with
    | @tup a xs _ hs ha =>
      cases h2 with
      | @tup b ys _ ht hb =>
        refine ⟨a, b, xs, ys, rfl, .inr ⟨hs, ht, fun Dl hD => ?_⟩⟩
        have hn : (ds.zip es).length = min xs.length ys.length := by rw [List.length_zip, ha.length, hb.length]
        have fx : ∀ k, D.fixs (((ds.zip es).take k).map g) = true := fun k => D.fixs_iff.mpr fun d hd => by
          obtain ⟨c, hc, rfl⟩ := List.mem_map.mp hd
          exact hf c (List.mem_of_mem_take hc)
        refine lc_it (walk_zipT (K := K) hn) (fun i H' => Same H2 H' ∧ ∃ acc, H' Dl = some (.lst acc) ∧ Dns K H' acc (((ds.zip es).take i).map g)) ⟨Same.new hD, [], upd_same, by simpa using Dns.nil⟩ (fun i H' _ p => ⟨same_t p.1 hs, same_t p.1 ht⟩) (fun k x Ha Hb hi p y => ?_) (fun H' p => ?_)
        · obtain ⟨p1, acc, p2, p3⟩ := p
          obtain ⟨T, x1, x2, rfl, hT, rfl, y1, y2⟩ := y
          obtain ⟨d, hd, hx⟩ := ha.get y1
          obtain ⟨d', hd', hx'⟩ := hb.get y2
          have eb : Same Ha (upd Ha T (.tup [x1, x2])) := Same.new hT
          have hpk : (ds.zip es)[k]? = some (d, d') := by
            rw [List.getElem?_zip_eq_some]
            exact ⟨hd, hd'⟩
          have hm := List.mem_of_getElem? hpk
          have e2b := p1.trans eb
          have htk : (ds.zip es).take (k + 1) = (ds.zip es).take k ++ [(d, d')] := by
            rw [List.take_add_one, hpk]
            rfl
          refine ⟨T, [x1, x2], rfl, SqT.of upd_same, rfl, x1, [x2], rfl, x2, [], rfl, rfl, hw x1 x2, ?_⟩
          unfold tYes
          dsimp only
          rw [if_pos rfl]
          refine he (d, d') x1 x2 _ hm ((e1.trans e2).trans e2b) (hx.up e2b) (hx'.up e2b) _ (Same.refl _) _ fun z H4 e4 hzz => ⟨acc, e4 _ _ (eb _ _ p2), ?_, ?_⟩
          · have h1 := p3.length
            have h2 : (((ds.zip es).take k).map g).length ≤ ds.length := by
              rw [List.length_map, List.length_take, List.length_zip]
              omega
            rw [sizeLine_eq]
            omega
          · have hDl : H4 Dl = some (.lst acc) := e4 _ _ (eb _ _ p2)
            refine ⟨Same.mut (e2b.trans e4) hD, acc ++ [z], upd_same, ?_⟩
            rw [htk, List.map_append]
            exact ((p3.up (eb.trans e4)).keep (Kp.upd hDl rfl) (fx k)).app (.cons (hzz.keep (Kp.upd hDl rfl) (hf _ hm)) .nil)
        · obtain ⟨p1, acc, p2, p3⟩ := p
          rw [List.take_length] at p3
          exact q Dl acc H' (e2.free hD) (e2.trans p1) p2 p3
end
end Cc

namespace My
open PySem L2 Cc
abbrev topS (i : Nat) : Stmt := PySem.Challenge.pw_coldcrates_k02_layouts_by_trying.main.body.getD i (.Pass ⟨0, 0, 0, 0⟩)
abbrev s__wall : Stmt := topS 1
theorem sc__wall : FnScope ["k"] ["k"] (defScope s__wall) := ⟨rfl, rfl, rfl, by decide +kernel, rfl, by decide +kernel, by decide +kernel⟩
abbrev s_is_number : Stmt := topS 11
theorem sc_is_number : FnScope ["value", "low", "high"] ["value", "low", "high"] (defScope s_is_number) := ⟨rfl, rfl, rfl, by decide +kernel, rfl, by decide +kernel, by decide +kernel⟩
abbrev s_is_word : Stmt := topS 12
theorem sc_is_word : FnScope ["value", "letter"] ["value"] (defScope s_is_word) := ⟨rfl, rfl, rfl, by decide +kernel, rfl, by decide +kernel, by decide +kernel⟩
abbrev s_doors_fit : Stmt := topS 20
theorem sc_doors_fit : FnScope ["doors", "door"] ["doors"] (defScope s_doors_fit) := ⟨rfl, rfl, rfl, by decide +kernel, rfl, by decide +kernel, by decide +kernel⟩
abbrev s_is_door : Stmt := topS 21
theorem sc_is_door : FnScope ["value"] ["value"] (defScope s_is_door) := ⟨rfl, rfl, rfl, by decide +kernel, rfl, by decide +kernel, by decide +kernel⟩
abbrev s_crates_fit : Stmt := topS 22
theorem sc_crates_fit : FnScope ["crates", "size", "one", "other", "name"] ["crates", "size"] (defScope s_crates_fit) := ⟨rfl, rfl, rfl, by decide +kernel, rfl, by decide +kernel, by decide +kernel⟩
abbrev s_places_behind : Stmt := topS 23
theorem sc_places_behind : FnScope ["doors", "found", "begin", "door", "end"] ["doors"] (defScope s_places_behind) := ⟨rfl, rfl, rfl, by decide +kernel, rfl, by decide +kernel, by decide +kernel⟩
abbrev s_layouts : Stmt := topS 24
abbrev s_all_layouts : Stmt := topS 25
theorem sc_all_layouts : FnScope ["store"] ["store"] (defScope s_all_layouts) := ⟨rfl, rfl, rfl, by decide +kernel, rfl, by decide +kernel, by decide +kernel⟩
abbrev s_arrangements : Stmt := topS 26
theorem sc_arrangements : FnScope ["names", "free", "found", "at", "name", "others", "rest"] ["names", "free"] (defScope s_arrangements) := ⟨rfl, rfl, rfl, by decide +kernel, rfl, by decide +kernel, by decide +kernel⟩
abbrev s_layout_count : Stmt := topS 27
theorem sc_layout_count : FnScope ["store"] ["store"] (defScope s_layout_count) := ⟨rfl, rfl, rfl, by decide +kernel, rfl, by decide +kernel, by decide +kernel⟩
abbrev s_is_layout : Stmt := topS 28
theorem sc_is_layout : FnScope ["store", "value", "names", "name"] ["store", "value"] (defScope s_is_layout) := ⟨rfl, rfl, rfl, by decide +kernel, rfl, by decide +kernel, by decide +kernel⟩
abbrev s_check_layout : Stmt := topS 29
theorem sc_check_layout : FnScope ["store", "layout"] ["store", "layout"] (defScope s_check_layout) := ⟨rfl, rfl, rfl, by decide +kernel, rfl, by decide +kernel, by decide +kernel⟩
abbrev s_check_crate : Stmt := topS 30
theorem sc_check_crate : FnScope ["store", "name"] ["store", "name"] (defScope s_check_crate) := ⟨rfl, rfl, rfl, by decide +kernel, rfl, by decide +kernel, by decide +kernel⟩
abbrev s_has_door : Stmt := topS 31
theorem sc_has_door : FnScope ["store", "door"] ["store", "door"] (defScope s_has_door) := ⟨rfl, rfl, rfl, by decide +kernel, rfl, by decide +kernel, by decide +kernel⟩
abbrev s_check_door : Stmt := topS 32
theorem sc_check_door : FnScope ["store", "door"] ["store", "door"] (defScope s_check_door) := ⟨rfl, rfl, rfl, by decide +kernel, rfl, by decide +kernel, by decide +kernel⟩
abbrev s_place_of : Stmt := topS 33
theorem sc_place_of : FnScope ["store", "layout", "name"] ["store", "layout", "name"] (defScope s_place_of) := ⟨rfl, rfl, rfl, by decide +kernel, rfl, by decide +kernel, by decide +kernel⟩
abbrev s_behind : Stmt := topS 34
theorem sc_behind : FnScope ["store", "layout", "door"] ["store", "layout", "door"] (defScope s_behind) := ⟨rfl, rfl, rfl, by decide +kernel, rfl, by decide +kernel, by decide +kernel⟩
abbrev s_contents : Stmt := topS 35
theorem sc_contents : FnScope ["store", "layout", "door", "place"] ["store", "layout", "door"] (defScope s_contents) := ⟨rfl, rfl, rfl, by decide +kernel, rfl, by decide +kernel, by decide +kernel⟩
abbrev s__law_taken : Stmt := topS 37
theorem sc__law_taken : FnScope ["_law_row", "_law_many", "_law_found", "_law_cell"] ["_law_row", "_law_many"] (defScope s__law_taken) := ⟨rfl, rfl, rfl, by decide +kernel, rfl, by decide +kernel, by decide +kernel⟩
abbrev s__law_pick : Stmt := topS 38
theorem sc__law_pick : FnScope ["_law_row", "_law_some"] ["_law_row", "_law_some"] (defScope s__law_pick) := ⟨rfl, rfl, rfl, by decide +kernel, rfl, by decide +kernel, by decide +kernel⟩
abbrev s__law_scheme : Stmt := topS 39
theorem sc__law_scheme : FnScope ["_law_row", "_law_most", "_law_crates", "_law_found", "_law_left", "_law_count", "_law_size", "_law_door"] ["_law_row", "_law_most", "_law_crates"] (defScope s__law_scheme) := ⟨rfl, rfl, rfl, by decide +kernel, rfl, by decide +kernel, by decide +kernel⟩
abbrev s__law_store : Stmt := topS 40
theorem sc__law_store : FnScope ["_law_s"] ["_law_s"] (defScope s__law_store) := ⟨rfl, rfl, rfl, by decide +kernel, rfl, by decide +kernel, by decide +kernel⟩
abbrev s__law_edges : Stmt := topS 41
theorem sc__law_edges : FnScope ["_law_s", "_law_found", "_law_k"] ["_law_s"] (defScope s__law_edges) := ⟨rfl, rfl, rfl, by decide +kernel, rfl, by decide +kernel, by decide +kernel⟩
abbrev s__law_layouts : Stmt := topS 42
theorem sc__law_layouts : FnScope ["_law_s", "_law_size", "_law_found", "_law_turn", "_law_longer", "_law_some", "_law_left", "_law_free", "_law_name", "_law_one"] ["_law_s"] (defScope s__law_layouts) := ⟨rfl, rfl, rfl, by decide +kernel, rfl, by decide +kernel, by decide +kernel⟩
abbrev s__law_seen : Stmt := topS 43
theorem sc__law_seen : FnScope ["_law_s", "_law_layout", "_law_door", "_law_edges_here", "_law_k"] ["_law_s", "_law_layout", "_law_door"] (defScope s__law_seen) := ⟨rfl, rfl, rfl, by decide +kernel, rfl, by decide +kernel, by decide +kernel⟩
abbrev s_law : Stmt := topS 44
theorem sc_law : FnScope ["_law_script", "_law_row", "_law_s", "_law_one", "_law_due", "_law_size", "_law_count", "_law_k", "_law_turn", "_law_some", "_law_layout", "_law_name", "_law_door"] ["_law_script"] (defScope s_law) := ⟨rfl, rfl, rfl, by decide +kernel, rfl, by decide +kernel, by decide +kernel⟩
abbrev s_InvalidStore___init__ : Stmt := inClass (topS 4) 0
abbrev s_Store___init__ : Stmt := inClass (topS 19) 0
theorem sc_Store___init__ : FnScope ["self", "doors", "crates", "places"] ["self", "doors", "crates"] (defScope s_Store___init__) := ⟨rfl, rfl, rfl, by decide +kernel, rfl, by decide +kernel, by decide +kernel⟩
abbrev s_Store___eq__ : Stmt := inClass (topS 19) 1
theorem sc_Store___eq__ : FnScope ["self", "other"] ["self", "other"] (defScope s_Store___eq__) := ⟨rfl, rfl, rfl, by decide +kernel, rfl, by decide +kernel, by decide +kernel⟩
abbrev s_Store___len__ : Stmt := inClass (topS 19) 2
theorem sc_Store___len__ : FnScope ["self"] ["self"] (defScope s_Store___len__) := ⟨rfl, rfl, rfl, by decide +kernel, rfl, by decide +kernel, by decide +kernel⟩
abbrev s_Store_doors : Stmt := inClass (topS 19) 3
theorem sc_Store_doors : FnScope ["self"] ["self"] (defScope s_Store_doors) := ⟨rfl, rfl, rfl, by decide +kernel, rfl, by decide +kernel, by decide +kernel⟩
abbrev s_Store_crates : Stmt := inClass (topS 19) 4
theorem sc_Store_crates : FnScope ["self"] ["self"] (defScope s_Store_crates) := ⟨rfl, rfl, rfl, by decide +kernel, rfl, by decide +kernel, by decide +kernel⟩
abbrev s_Store_size : Stmt := inClass (topS 19) 5
theorem sc_Store_size : FnScope ["self"] ["self"] (defScope s_Store_size) := ⟨rfl, rfl, rfl, by decide +kernel, rfl, by decide +kernel, by decide +kernel⟩
abbrev s_Store_door_of : Stmt := inClass (topS 19) 6
theorem sc_Store_door_of : FnScope ["self", "place"] ["self", "place"] (defScope s_Store_door_of) := ⟨rfl, rfl, rfl, by decide +kernel, rfl, by decide +kernel, by decide +kernel⟩
abbrev s_Store_places_of : Stmt := inClass (topS 19) 7
theorem sc_Store_places_of : FnScope ["self", "door"] ["self", "door"] (defScope s_Store_places_of) := ⟨rfl, rfl, rfl, by decide +kernel, rfl, by decide +kernel, by decide +kernel⟩
end My

namespace My
open PySem L2 RZ Cc
structure Txt (K : Fg) (mg : Str → Option Value) : Prop where
  isinstance : mg "isinstance" = none
  int : mg "int" = none
  bool : mg "bool" = none
  str : mg "str" = none
  len : mg "len" = none
  all : mg "all" = none
  m_LETTERS : Cst mg "LETTERS" (.str "abcdefghijklmnopqrstuvwxyz")
  m_LONGEST_WORD : Cst mg "LONGEST_WORD" (.int 8)
/-! what numbers and words are -/
def isNum (d : D) (lo hi : Int) : Bool := match d with
  | .int i => decide (lo ≤ i) && decide (i ≤ hi)
  | _ => false
section
variable {P : Program} {w : World} {K : Fg} {mg : Str → Option Value} {base : Heap}
abbrev spIsNumber (K : Fg) : Sp := spOf (α := D × Int × Int) K (fun a => [a.1, .int a.2.1, .int a.2.2]) (fun a => a.1.noob = true) fun a => .bl (isNum a.1 a.2.1 a.2.2)
theorem ok_is_number {f : Addr} {fd : FuncData} (F : Fun K "is_number" "is_number" s_is_number f fd) (T : Txt K mg) : FnOk P w K mg base CX0 1 f fd ["value", "low", "high"] (spIsNumber K) := by
  refine F.ok sc_is_number (fun vs H Q E h => ?_) (fun cdv A outer s H vs Q E hr h => ?_)
  · obtain ⟨a, h, _⟩ := h
    exact h.length
  · obtain ⟨⟨d, lo, hi⟩, hv, hp, k⟩ := h
    refine ⟨_, (pss_one (ps_ret (pe_and (pe_callB (isiK K) (by rfl) T.isinstance (by decide +kernel) (pa_cons (pv 0) (pa_cons (pe_ty (T := "int") T.int) pa_nil))) (pe_and (pe_not (pe_callB (isiK K) (by rfl) T.isinstance (by decide +kernel) (pa_cons (pv 0) (pa_cons (pe_ty (T := "bool") T.bool) pa_nil)))) (pe_one (pe_chain op_le op_le (pv 1) (pv 0) (pv 2))))))), ?_⟩
    cases hv with
    | cons h0 hv =>
      cases hv with
      | cons h1 hv =>
        cases hv with
        | cons h2 hv =>
          cases hv
          cases d with
          | int i =>
            refine s_ret (d := .bl (isNum (.int i) lo hi)) (GD.is (gd_and (gd_isT (gd_var rfl h0) hp) fun _ => gd_and (gd_not (gd_isT (gd_var rfl h0) hp)) fun _ => gd_chain (gd_var rfl h1) (gd_var rfl h0) r_intB (gd_var rfl h2) r_intB) ?_) k
            simp [isNum, D.isT]
          | ob => cases hp
          | bl b => exact s_ret (d := .bl (isNum (.bl b) lo hi)) (GD.is (gd_and (gd_isT (gd_var rfl h0) hp) fun _ => gd_and (b := false) (gd_not (gd_isT (gd_var rfl h0) hp)) fun e => nomatch e) (by simp [isNum, D.isT])) k
          | _ => exact s_ret (d := .bl false) (GD.is (gd_and (b := false) (gd_isT (gd_var rfl h0) hp) fun e => by simp [D.isT] at e) (by simp [D.isT])) k
end
/-! words -/
abbrev letters : List Nat := (("abcdefghijklmnopqrstuvwxyz" : Str)).cps.toList
def isWordS (x : Str) : Bool := decide (1 ≤ x.length) && decide (x.length ≤ 8) && x.cps.toList.all fun c => decide (c ∈ letters)
def isWord : D → Bool
  | .str x => isWordS x
  | _ => false
def D.small : D → Bool
  | .str x => decide (x.length ≤ 50000)
  | .tup ds => decide (ds.length ≤ 50000)
  | .lst ds => decide (ds.length ≤ 50000)
  | _ => true
def signIn : D → D
  | .str z => .bl (match z.cps.toList with | [c] => decide (c ∈ letters) | _ => false)
  | _ => .non
/-! doors -/
def isDoor : D → Bool
  | .tup [w, p] => isNum w 1 99 && isNum p 1 4
  | _ => false
def doorPl : D → Int
  | .tup [_, .int p] => p
  | _ => 0
def isDoorOk : D → Bool
  | .tup ds => decide (ds.length ≤ 50000) && ds.all D.noob
  | .ptup _ => false
  | d => d.noob
def doorsFit : D → Bool
  | .tup ds => decide (1 ≤ ds.length) && decide (ds.length ≤ 4) && ds.all isDoor && decide ((ds.map doorPl).sum ≤ 6)
  | _ => false
def doorsOk : D → Bool
  | .tup ds => decide (ds.length ≤ 50000) && ds.all isDoorOk
  | .ptup _ => false
  | d => d.noob
structure Txt2 (K : Fg) (mg : Str → Option Value) : Prop extends Txt K mg where
  tuple : mg "tuple" = none
  sum : mg "sum" = none
  min : mg "min" = none
  zip : mg "zip" = none
  range : mg "range" = none
  m_MOST_DOORS : Cst mg "MOST_DOORS" (.int 4)
  m_MOST_WARMTH : Cst mg "MOST_WARMTH" (.int 99)
  m_MOST_BEHIND : Cst mg "MOST_BEHIND" (.int 4)
  m_MOST_PLACES : Cst mg "MOST_PLACES" (.int 6)
  m_MOST_CRATES : Cst mg "MOST_CRATES" (.int 5)
section
variable {P : Program} {w : World} {K : Fg} {mg : Str → Option Value} {base : Heap}
abbrev spIsWord (K : Fg) : Sp := spOf (α := D) K (fun a => [a]) (fun a => a.noob = true ∧ D.small a = true) fun a => .bl (isWord a)
theorem signs_map (x : Str) : (signs x).map signIn = (x.cps.toList.map fun c => decide (c ∈ letters)).map D.bl := by
  unfold signs
  rw [List.map_map, List.map_map]
  rfl
theorem ok_is_word {f : Addr} {fd : FuncData} (F : Fun K "is_word" "is_word" s_is_word f fd) (T : Txt K mg) : FnOk P w K mg base CX0 1 f fd ["value"] (spIsWord K) := by
  refine F.ok sc_is_word (fun vs H Q E h => ?_) (fun cdv A outer s H vs Q E hr h => ?_)
  · obtain ⟨a, h, _⟩ := h
    exact h.length
  · obtain ⟨d, hv, ⟨hp, hs⟩, k⟩ := h
    obtain ⟨v0, rfl, h0⟩ := hv.un1
    refine ⟨_, (pss_cons (ps_if (PW.pt (pw_or (pt_not (pt_val (pe_callB (isiK K) (by rfl) T.isinstance (by decide +kernel) (pa_cons (pv 0) (pa_cons (pe_ty (T := "str") T.str) pa_nil))))) (pw_or1 (pt_not (pt_chain op_le op_le pe_int (pe_callB (lenK K) (by rfl) T.len PySem.boot_len (pa_cons (pv 0) pa_nil)) (pe_gc T.m_LONGEST_WORD)))))) (pss_one (ps_ret pe_bl)) pss_nil)
      (pss_one (ps_ret (pe_callB (allK K) (by rfl) T.all (by decide +kernel) (pa_cons (pe_lc (own := [("letter", 1)]) (g := gName 1) rfl sc_is_word.nd (pi_str (pv 0)) (blkOk_by (own := [("letter", 1)]) (N := ["value", "letter"]) (sc := defScope s_is_word) (by decide +kernel)) (fun _ _ _ _ _ => (pg_name (i := 1) sc_is_word.nd rfl (Or.inl rfl))) (fun _ _ _ _ _ => pts_nil) (fun _ _ _ _ _ => (pe_cmpR op_in_sign (pv 1) (pe_gc T.m_LETTERS) rfl))) pa_nil))))), ?_⟩
    cases d with
    | str x =>
      have hl : x.length ≤ 50000 := by simpa [D.small] using hs
      refine s_when (gt_or (gt_not (gt_B (gd_isT (gd_var rfl h0) hp))) fun _ => gt_not (gt_test (gd_chain gd_i (gd_cb (ga1 (gd_var rfl h0)) (rc_len (n := x.length) rfl (by omega))) r_intB (gd_c (.int 8)) r_intB))) (fun e H1 e1 => ?_) fun e H1 e1 => ?_
      · refine s_ret (GD.is gd_b ?_) (k.up e1)
        simp [D.isT] at e
        simp only [isWord, isWordS]
        by_cases h1 : 1 ≤ x.length
        · have h2 : ¬ x.length ≤ 8 := by omega
          simp [h2]
        · simp [h1]
      · refine s_ret (d := .bl (isWord (.str x))) (GD.is (gd_cb (ga1 (GN.gd (GN.is (gn_map signIn (fun H2 e2 => gi_str (gd_var rfl ((h0.up e1).up e2))) (by simpa [signs] using (show x.cps.size ≤ 50000 from hl)) (fun _ => rfl) (fun d hd => ?_) (fun d y H2 hd e2 hy => ?_)) (signs_map x)))) rc_all) ?_) (k.up e1)
        · obtain ⟨c, _, rfl⟩ := List.mem_map.mp hd
          rfl
        · obtain ⟨c, _, rfl⟩ := List.mem_map.mp hd
          exact gd_op (gd_var rfl hy) (gd_c (.str _)) r_sign
        · simp [D.isT] at e
          simp only [isWord, isWordS, List.all_map]
          have h1 : 1 ≤ x.length := by omega
          have h2 : x.length ≤ 8 := by omega
          simp [h1, h2]
    | ob => cases hp
    | _ =>
      refine s_when (b := true) (GT.is (gt_or (b := true) (gt_not (gt_B (gd_isT (gd_var rfl h0) hp))) fun e => by simp [D.isT] at e) (by simp [D.isT])) (fun e H1 e1 => s_ret gd_b (k.up e1)) fun e => nomatch e
theorem all_bl {ds : List D} (f : D → Bool) : ds.map (fun d => D.bl (f d)) = (ds.map f).map D.bl := by rw [List.map_map]; rfl
theorem all_id {ds : List D} (f : D → Bool) : (ds.map f).all id = ds.all f := by rw [List.all_map]; rfl
theorem sum_int {ds : List D} (f : D → Int) : ds.map (fun d => D.int (f d)) = (ds.map f).map D.int := by rw [List.map_map]; rfl
theorem eqv_int (i j : Int) : (D.int i).eqv (.int j) = (i == j) := by unfold D.eqv; simp [D.py, PyData.eqv]
theorem r_neI {i j : Int} : R2D K (rNeD K) (.int i) (.int j) (.bl (!(i == j))) := by
  have h := r_ne (K := K) (d := .int i) (e := .int j) rfl rfl (by rfl) (by rfl)
  rw [eqv_int] at h
  exact h
theorem r_eqI {i j : Int} : R2D K (rEqD K) (.int i) (.int j) (.bl (i == j)) := by
  have h := r_eq (K := K) (d := .int i) (e := .int j) rfl rfl (by rfl) (by rfl)
  rw [eqv_int] at h
  exact h
abbrev spIsDoor (K : Fg) : Sp := spOf (α := D) K (fun a => [a]) (fun a => isDoorOk a = true) fun a => .bl (isDoor a)
theorem ok_is_door {f : Addr} {fd : FuncData} (F : Fun K "is_door" "is_door" s_is_door f fd) (T : Txt2 K mg) (C_is_number : Cal P w K mg base CX0 1 "is_number" ["value", "low", "high"] (spIsNumber K)) : FnOk P w K mg base CX0 2 f fd ["value"] (spIsDoor K) := by
  refine F.ok sc_is_door (fun vs H Q E h => ?_) (fun cdv A outer s H vs Q E hr h => ?_)
  · obtain ⟨a, h, _⟩ := h
    exact h.length
  · obtain ⟨d, hv, hp, k⟩ := h
    obtain ⟨v0, rfl, h0⟩ := hv.un1
    refine ⟨_, (pss_cons (ps_if (PW.pt (pw_or (pt_not (pt_val (pe_callB (isiK K) (by rfl) T.isinstance (by decide +kernel) (pa_cons (pv 0) (pa_cons (pe_ty (T := "tuple") T.tuple) pa_nil))))) (pw_or1 (pt_cmpR (neK K hr.units) (pe_callB (lenK K) (by rfl) T.len PySem.boot_len (pa_cons (pv 0) pa_nil)) pe_int (nomark _))))) (pss_one (ps_ret pe_bl)) pss_nil)
      (pss_one (ps_ret (pe_and (pe_cal C_is_number hr pass0 (pa_cons (pe_ix (ixT K) (pv 0) pe_int (fun _ _ => rfl)) (pa_cons pe_int (pa_cons (pe_gc T.m_MOST_WARMTH) pa_nil)))) (pe_one (pe_cal C_is_number hr pass0 (pa_cons (pe_ix (ixT K) (pv 0) pe_int (fun _ _ => rfl)) (pa_cons pe_int (pa_cons (pe_gc T.m_MOST_BEHIND) pa_nil))))))))), ?_⟩
    cases d with
    | ptup ds => cases hp
    | tup ds =>
      simp [isDoorOk] at hp
      obtain ⟨hl, hn⟩ := hp
      refine s_when (gt_or (gt_not (gt_B (gd_isT (gd_var rfl h0) rfl))) fun _ => gt_test (gd_op (gd_cb (ga1 (gd_var rfl h0)) (rc_len (n := ds.length) rfl (by omega))) gd_i r_neI)) (fun e H1 e1 => ?_) fun e H1 e1 => ?_
      · refine s_ret (GD.is gd_b ?_) (k.up e1)
        simp [D.isT] at e
        have : isDoor (.tup ds) = false := by
          match ds, e with
          | [], _ => rfl
          | [_], _ => rfl
          | [_, _], e => simp at e
          | _ :: _ :: _ :: _, _ => rfl
        simp [this]
      · simp [D.isT] at e
        match ds, e with
        | [a, b], _ =>
          dsimp only
          refine s_retK (k.up e1) ?_
          exact GD.is (gd_and (gd_call (a, 1, 99) (ga_cons (gd_op (gd_var rfl (h0.up e1)) gd_i (r_ixT (z := a) rfl)) (ga2 gd_i (gd_c (.int 99)))) (hn a (by simp))) fun _ => gd_call (b, 1, 4) (ga_cons (gd_op (gd_var rfl (h0.up e1)) gd_i (r_ixT (z := b) rfl)) (ga2 gd_i (gd_c (.int 4)))) (hn b (by simp))) rfl
        | [], e => simp at e
        | [_], e => simp at e
        | _ :: _ :: _ :: _, e => simp at e; omega
    | ob => cases hp
    | _ =>
      refine s_when (b := true) (GT.is (gt_or (b := true) (gt_not (gt_B (gd_isT (gd_var rfl h0) rfl))) fun e => by simp [D.isT] at e) (by simp [D.isT])) (fun e H1 e1 => s_ret gd_b (k.up e1)) fun e => nomatch e
abbrev spDoorsFit (K : Fg) : Sp := spOf (α := D) K (fun a => [a]) (fun a => doorsOk a = true) fun a => .bl (doorsFit a)
theorem ok_doors_fit {f : Addr} {fd : FuncData} (F : Fun K "doors_fit" "doors_fit" s_doors_fit f fd) (T : Txt2 K mg) (C_is_door : Cal P w K mg base CX0 2 "is_door" ["value"] (spIsDoor K)) : FnOk P w K mg base CX0 3 f fd ["doors"] (spDoorsFit K) := by
  refine F.ok sc_doors_fit (fun vs H Q E h => ?_) (fun cdv A outer s H vs Q E hr h => ?_)
  · obtain ⟨a, h, _⟩ := h
    exact h.length
  · obtain ⟨d, hv, hp, k⟩ := h
    obtain ⟨v0, rfl, h0⟩ := hv.un1
    refine ⟨_, (pss_cons (ps_if (PW.pt (pw_or (pt_not (pt_val (pe_callB (isiK K) (by rfl) T.isinstance (by decide +kernel) (pa_cons (pv 0) (pa_cons (pe_ty (T := "tuple") T.tuple) pa_nil))))) (pw_or1 (pt_not (pt_chain op_le op_le pe_int (pe_callB (lenK K) (by rfl) T.len PySem.boot_len (pa_cons (pv 0) pa_nil)) (pe_gc T.m_MOST_DOORS)))))) (pss_one (ps_ret pe_bl)) pss_nil)
      (pss_cons (ps_if (pt_not (pt_val (pe_callB (allK K) (by rfl) T.all (by decide +kernel) (pa_cons (pe_lc (own := [("door", 1)]) (g := gName 1) rfl sc_doors_fit.nd (pi_tK K (pv 0)) (blkOk_by (own := [("door", 1)]) (N := ["doors", "door"]) (sc := defScope s_doors_fit) (by decide +kernel)) (fun _ _ _ _ _ => (pg_name (i := 1) sc_doors_fit.nd rfl (Or.inl rfl))) (fun _ _ _ _ _ => pts_nil) (fun _ _ _ _ _ => (pe_cal C_is_door hr pass0 (pa_cons (pv 1) pa_nil)))) pa_nil)))) (pss_one (ps_ret pe_bl)) pss_nil)
      (pss_one (ps_ret (pe_cmpR op_le (pe_callB (sumK K) (by rfl) T.sum (by decide +kernel) (pa_cons (pe_lc (own := [("door", 1)]) (g := gName 1) rfl sc_doors_fit.nd (pi_tK K (pv 0)) (blkOk_by (own := [("door", 1)]) (N := ["doors", "door"]) (sc := defScope s_doors_fit) (by decide +kernel)) (fun _ _ _ _ _ => (pg_name (i := 1) sc_doors_fit.nd rfl (Or.inl rfl))) (fun _ _ _ _ _ => pts_nil) (fun _ _ _ _ _ => (pe_ix (ixT K) (pv 1) pe_int (fun _ _ => rfl)))) pa_nil)) (pe_gc T.m_MOST_PLACES) (nomark _)))))), ?_⟩
    cases d with
    | ptup ds => cases hp
    | tup ds =>
      simp [doorsOk] at hp
      obtain ⟨hl, hn⟩ := hp
      refine s_when (gt_or (gt_not (gt_B (gd_isT (gd_var rfl h0) rfl))) fun _ => gt_not (gt_test (gd_chain gd_i (gd_cb (ga1 (gd_var rfl h0)) (rc_len (n := ds.length) rfl (by omega))) r_intB (gd_c (.int 4)) r_intB))) (fun e H1 e1 => ?_) fun e H1 e1 => ?_
      · refine s_ret (GD.is gd_b ?_) (k.up e1)
        simp [D.isT] at e
        simp only [doorsFit]
        by_cases c : 1 ≤ ds.length
        · have : ¬ ds.length ≤ 4 := by omega
          simp [this]
        · simp [c]
      · simp [D.isT] at e
        refine s_when (gt_not (gt_B (gd_cb (ga1 (GN.gd (GN.is (gn_map (fun d => .bl (isDoor d)) (fun H2 e2 => gi_tupC (gd_var rfl ((h0.up e1).up e2))) hl (fun _ => rfl) (fun d hd => rfl) (fun d y H2 hd e2 hy => gd_call d (ga1 (gd_var rfl hy)) (hn d hd))) (all_bl isDoor)))) rc_all))) (fun e3 H2 e2 => ?_) fun e3 H2 e2 => ?_
        · refine s_ret (GD.is gd_b ?_) ((k.up e1).up e2)
          rw [all_id] at e3
          have : ds.all isDoor = false := by simpa using e3
          simp [doorsFit, this]
        · rw [all_id] at e3
          have had : ds.all isDoor = true := by simpa using e3
          refine s_ret (GD.is (gd_op (gd_cb (ga1 (GN.gd (GN.is (gn_map (fun d => .int (doorPl d)) (fun H3 e3 => gi_tupC (gd_var rfl (((h0.up e1).up e2).up e3))) hl (fun _ => rfl) (fun d hd => rfl) (fun d y H3 hd e3 hy => ?_)) (sum_int doorPl)))) rc_sum) (gd_c (.int 6)) r_intB) ?_) ((k.up e1).up e2)
          · have hd' := List.all_eq_true.mp had d hd
            unfold isDoor at hd'
            split at hd'
            · rename_i w p
              cases p with
              | int p => exact gd_op (gd_var rfl hy) gd_i (r_ixT (z := .int p) rfl)
              | _ => simp [isNum] at hd'
            · cases hd'
          · have h1 : 1 ≤ ds.length := by omega
            have h2 : ds.length ≤ 4 := by omega
            simp [doorsFit, h1, h2, had]
    | ob => cases hp
    | _ =>
      refine s_when (b := true) (GT.is (gt_or (b := true) (gt_not (gt_B (gd_isT (gd_var rfl h0) rfl))) fun e => by simp [D.isT] at e) (by simp [D.isT])) (fun e H1 e1 => s_ret gd_b (k.up e1)) fun e => nomatch e
end
end My

namespace My
open PySem L2 RZ Cc
/-! crates -/
def ltS (a b : D) : Bool := match a, b with
  | .str x, .str y => decide (x.cps.toList < y.cps.toList)
  | _, _ => false
def cratesFit (d : D) (n : Int) : Bool := match d with
  | .tup ds => decide (1 ≤ ds.length) && decide ((ds.length : Int) ≤ min 5 n) && ds.all isWord && (ds.zip (ds.drop 1)).all fun p => ltS p.1 p.2
  | _ => false
def wordOk (d : D) : Bool := d.noob && D.small d
def cratesOk : D → Bool
  | .tup ds => decide (ds.length ≤ 50000) && ds.all wordOk
  | .ptup _ => false
  | d => d.noob
/-- the places behind each door -/
def placesFrom : Int → List (Int × Int) → List D
  | _, [] => []
  | b, p :: r => .tup ((List.range p.2.toNat).map fun k => .int (b + (k : Nat))) :: placesFrom (b + p.2) r
def doorD (p : Int × Int) : D := .tup [.int p.1, .int p.2]
def doorsD (l : List (Int × Int)) : D := .tup (l.map doorD)
def sizeOf (l : List (Int × Int)) : Int := (l.map (·.2)).sum
structure GoodDoors (l : List (Int × Int)) : Prop where
  lo : 1 ≤ l.length
  hi : l.length ≤ 4
  each : ∀ p ∈ l, 1 ≤ p.1 ∧ p.1 ≤ 99 ∧ 1 ≤ p.2 ∧ p.2 ≤ 4
  size : sizeOf l ≤ 6
theorem isDoor_iff {d : D} (h : isDoor d = true) : ∃ p : Int × Int, d = doorD p ∧ 1 ≤ p.1 ∧ p.1 ≤ 99 ∧ 1 ≤ p.2 ∧ p.2 ≤ 4 := by
  unfold isDoor at h
  split at h
  · rename_i w p
    cases w <;> cases p <;> simp [isNum] at h
    rename_i i j
    exact ⟨(i, j), rfl, h.1.1, h.1.2, h.2.1, h.2.2⟩
  · cases h
theorem doors_iff {ds : List D} (h : ∀ d ∈ ds, isDoor d = true) : ∃ l : List (Int × Int), ds = l.map doorD ∧ ∀ p ∈ l, 1 ≤ p.1 ∧ p.1 ≤ 99 ∧ 1 ≤ p.2 ∧ p.2 ≤ 4 := by
  induction ds with
  | nil => exact ⟨[], rfl, fun p hp => absurd hp (by simp)⟩
  | cons d ds ih =>
    obtain ⟨l, rfl, hl⟩ := ih fun e he => h e (List.mem_cons_of_mem _ he)
    obtain ⟨p, rfl, hp⟩ := isDoor_iff (h d List.mem_cons_self)
    refine ⟨p :: l, rfl, fun q hq => ?_⟩
    rcases List.mem_cons.mp hq with e | hq
    · rw [e]; exact hp
    · exact hl q hq
theorem doorsFit_iff {d : D} (h : doorsFit d = true) : ∃ l, d = doorsD l ∧ GoodDoors l := by
  unfold doorsFit at h
  split at h
  · rename_i ds
    simp only [Bool.and_eq_true, decide_eq_true_eq, List.all_eq_true] at h
    obtain ⟨⟨⟨h1, h2⟩, h3⟩, h4⟩ := h
    obtain ⟨l, rfl, hl⟩ := doors_iff h3
    have e : (l.map doorD).map doorPl = l.map (·.2) := by rw [List.map_map]; rfl
    rw [e] at h4
    exact ⟨l, rfl, ⟨by simpa using h1, by simpa using h2, hl, h4⟩⟩
  · cases h
section
variable {P : Program} {w : World} {K : Fg} {mg : Str → Option Value} {base : Heap}
abbrev spCratesFit (K : Fg) : Sp := spOf (α := D × Int) K (fun a => [a.1, .int a.2]) (fun a => cratesOk a.1 = true) fun a => .bl (cratesFit a.1 a.2)
theorem r_ltS {x y : Str} {K : Fg} : R2D K (fun x y H Q => ∃ i j, x = .str i ∧ y = .str j ∧ Q (.bl (decide (i.cps.toList < j.cps.toList))) H) (.str x) (.str y) (.bl (ltS (.str x) (.str y))) := fun v w H Q hx hy q => by
  cases hx; cases hy
  exact ⟨x, y, rfl, rfl, q _ H (Same.refl _) (.bl _)⟩
theorem ok_crates_fit {f : Addr} {fd : FuncData} (F : Fun K "crates_fit" "crates_fit" s_crates_fit f fd) (T : Txt2 K mg) (C_is_word : Cal P w K mg base CX0 1 "is_word" ["value"] (spIsWord K)) : FnOk P w K mg base CX0 3 f fd ["crates", "size"] (spCratesFit K) := by
  refine F.ok sc_crates_fit (fun vs H Q E h => ?_) (fun cdv A outer s H vs Q E hr h => ?_)
  · obtain ⟨a, h, _⟩ := h
    exact h.length
  · obtain ⟨⟨d, n⟩, hv, hp, k⟩ := h
    obtain ⟨v0, v1, rfl, h0, h1⟩ := hv.un2
    refine ⟨_, (pss_cons (ps_if (PW.pt (pw_or (pt_not (pt_val (pe_callB (isiK K) (by rfl) T.isinstance (by decide +kernel) (pa_cons (pv 0) (pa_cons (pe_ty (T := "tuple") T.tuple) pa_nil))))) (pw_or1 (pt_not (pt_chain op_le op_le pe_int (pe_callB (lenK K) (by rfl) T.len PySem.boot_len (pa_cons (pv 0) pa_nil)) (pe_callB (call_min2 rfl) (by rfl) T.min (by decide +kernel) (pa_cons (pe_gc T.m_MOST_CRATES) (pa_cons (pv 1) pa_nil)))))))) (pss_one (ps_ret pe_bl)) pss_nil)
      (pss_cons (ps_if (pt_not (pt_val (pe_callB (allK K) (by rfl) T.all (by decide +kernel) (pa_cons (pe_lc (own := [("name", 4)]) (g := gName 4) rfl sc_crates_fit.nd (pi_tK K (pv 0)) (blkOk_by (own := [("name", 4)]) (N := ["crates", "size", "one", "other", "name"]) (sc := defScope s_crates_fit) (by decide +kernel)) (fun _ _ _ _ _ => (pg_name (i := 4) sc_crates_fit.nd rfl (Or.inl rfl))) (fun _ _ _ _ _ => pts_nil) (fun _ _ _ _ _ => (pe_cal C_is_word hr pass0 (pa_cons (pv 4) pa_nil)))) pa_nil)))) (pss_one (ps_ret pe_bl)) pss_nil)
      (pss_one (ps_ret (pe_callB (allK K) (by rfl) T.all (by decide +kernel) (pa_cons (pe_lc (own := [("one", 2), ("other", 3)]) rfl sc_crates_fit.nd (pi_zK K T.zip (pa_cons (pv 0) (pa_cons (pe_slice (slT K) (pv 0) (po_some pe_int) po_none) pa_nil))) (blkOk_by (own := [("one", 2), ("other", 3)]) (N := ["crates", "size", "one", "other", "name"]) (sc := defScope s_crates_fit) (by decide +kernel)) (fun _ _ _ _ _ => (pg_tK K (n := 2) rfl (pgs_cons (pg_name (i := 2) sc_crates_fit.nd rfl (Or.inl rfl)) (pgs_cons (pg_name (i := 3) sc_crates_fit.nd rfl (Or.inl rfl)) pgs_nil)))) (fun _ _ _ _ _ => pts_nil) (fun _ _ _ _ _ => (pe_cmpR op_lt_str (pv 2) (pv 3) (nomark _)))) pa_nil)))))), ?_⟩
    cases d with
    | ptup ds => cases hp
    | tup ds =>
      simp [cratesOk] at hp
      obtain ⟨hl, hn⟩ := hp
      refine s_when (gt_or (gt_not (gt_B (gd_isT (gd_var rfl h0) rfl))) fun _ => gt_not (gt_test (gd_chain gd_i (gd_cb (ga1 (gd_var rfl h0)) (rc_len (n := ds.length) rfl (by omega))) r_intB (gd_cb (ga2 (gd_c (.int 5)) (gd_var rfl h1)) rc_min2) r_intB))) (fun e H1 e1 => ?_) fun e H1 e1 => ?_
      · refine s_retK (k.up e1) (GD.is gd_b ?_)
        simp only [D.isT] at e
        simp only [cratesFit]
        by_cases c : (1 : Int) ≤ ds.length
        · have : ¬ (ds.length : Int) ≤ min 5 n := by
            intro h
            simp [c, h] at e
          simp [this]
        · have : ¬ 1 ≤ ds.length := by omega
          simp [this]
      · have hb : 1 ≤ ds.length ∧ (ds.length : Int) ≤ min 5 n := by
          simp [D.isT] at e
          omega
        refine s_when (gt_not (gt_B (gd_cb (ga1 (GN.gd (GN.is (gn_map (fun d => .bl (isWord d)) (fun H2 e2 => gi_tupC (gd_var rfl ((h0.up e1).up e2))) hl (fun _ => rfl) (fun d hd => rfl) (fun d y H2 hd e2 hy => gd_call d (ga1 (gd_var rfl hy)) ?_)) (all_bl isWord)))) rc_all))) (fun e3 H2 e2 => ?_) fun e3 H2 e2 => ?_
        · have := hn d hd
          simpa [wordOk] using this
        · refine s_retK ((k.up e1).up e2) (GD.is gd_b ?_)
          rw [all_id] at e3
          have : ds.all isWord = false := by simpa using e3
          simp [cratesFit, this]
        · rw [all_id] at e3
          have haw : ds.all isWord = true := by simpa using e3
          dsimp only
          refine s_retK ((k.up e1).up e2) (GD.is (gd_cb (ga1 (GN.gd (GN.is (gn_zipT (fun p => .bl (ltS p.1 p.2)) (ga2 (gd_var rfl ((h0.up e1).up e2)) (gd_slT (gd_var rfl ((h0.up e1).up e2)) (go_some (K := K) gd_i) go_none)) hl (fun _ _ => rfl) (fun p hp => rfl) (fun p x y H3 hp e3 hx hy => ?_)) (es := ((ds.zip (cutD ds (some 1) none)).map fun p => ltS p.1 p.2).map D.bl) ?_))) rc_all) ?_)
          · have hmem := List.of_mem_zip hp
            obtain ⟨c1, c2⟩ := p
            have w1 := List.all_eq_true.mp haw c1 hmem.1
            have w2 := List.all_eq_true.mp haw c2 (List.mem_of_mem_drop (List.mem_of_mem_take hmem.2))
            cases c1 <;> cases c2 <;> first | cases w1 | cases w2 | skip
            exact gd_op (gd_var rfl hx) (gd_var rfl hy) r_ltS
          · rw [List.map_map]; rfl
          · have hc : cutD ds (some 1) none = ds.drop 1 := by
              unfold cutD
              rw [HT.sIx_none, show HT.sIx ds.length 0 (some 1) = 1 from by
                rw [show (some (1 : Int)) = some ((1 : Nat) : Int) from rfl, HT.sIx_nat]; omega]
              rw [List.take_of_length_le (by rw [List.length_drop]; omega)]
            rw [hc, List.all_map]
            have h3 : 1 ≤ ds.length := hb.1
            have h4 := hb.2
            simp only [cratesFit, haw, h4, h3, decide_true, Bool.true_and]
            rfl
    | ob => cases hp
    | _ =>
      refine s_when (b := true) (GT.is (gt_or (b := true) (gt_not (gt_B (gd_isT (gd_var rfl h0) rfl))) fun e => by simp [D.isT] at e) (by simp [D.isT])) (fun e H1 e1 => s_ret gd_b (k.up e1)) fun e => nomatch e
theorem placesFrom_app (x : Int × Int) : ∀ (l : List (Int × Int)) (b : Int), placesFrom b (l ++ [x]) = placesFrom b l ++ [.tup ((List.range x.2.toNat).map fun k => .int (b + sizeOf l + (k : Nat)))]
  | [], b => by simp [placesFrom, sizeOf]
  | p :: r, b => by
    have ih := placesFrom_app x r (b + p.2)
    simp only [List.cons_append, placesFrom, ih]
    have e : b + p.2 + sizeOf r = b + sizeOf (p :: r) := by simp [sizeOf]; omega
    rw [e]
theorem sizeOf_app (l : List (Int × Int)) (x : Int × Int) : sizeOf (l ++ [x]) = sizeOf l + x.2 := by simp [sizeOf]
theorem fixs_places : ∀ (l : List (Int × Int)) (b : Int), D.fixs (placesFrom b l) = true
  | [], _ => rfl
  | p :: r, b => by
    have h : D.fixs ((List.range p.2.toNat).map fun k => D.int (b + (k : Nat))) = true := D.fixs_iff.mpr fun d hd => by
      obtain ⟨k, _, rfl⟩ := List.mem_map.mp hd
      rfl
    simp only [placesFrom, D.fixs, D.fix, fixs_places r, h, Bool.and_self]
theorem fixs_doors (l : List (Int × Int)) : D.fixs (l.map doorD) = true := D.fixs_iff.mpr fun d hd => by
  obtain ⟨k, _, rfl⟩ := List.mem_map.mp hd
  rfl
theorem sizeOf_bd {l : List (Int × Int)} (h : ∀ p ∈ l, 0 ≤ p.2 ∧ p.2 ≤ 100) (hl : l.length ≤ 100) (i : Nat) : 0 ≤ sizeOf (l.take i) ∧ sizeOf (l.take i) ≤ 10000 := by
  have key : ∀ m : List (Int × Int), (∀ p ∈ m, 0 ≤ p.2 ∧ p.2 ≤ 100) → 0 ≤ sizeOf m ∧ sizeOf m ≤ 100 * m.length := by
    intro m
    induction m with
    | nil => intro _; simp [sizeOf]
    | cons p m ih =>
      intro hm
      have h1 := hm p List.mem_cons_self
      have h2 := ih fun q hq => hm q (List.mem_cons_of_mem _ hq)
      simp only [sizeOf, List.map_cons, List.sum_cons, List.length_cons] at h2 ⊢
      omega
  have := key (l.take i) fun p hp => h p (List.mem_of_mem_take hp)
  have h2 : (l.take i).length ≤ 100 := by rw [List.length_take]; omega
  omega
abbrev spPlacesBehind (K : Fg) : Sp := spOf (α := List (Int × Int)) K (fun l => [doorsD l]) (fun l => l.length ≤ 100 ∧ ∀ p ∈ l, 0 ≤ p.2 ∧ p.2 ≤ 100) fun l => .tup (placesFrom 0 l)
theorem ok_places_behind {f : Addr} {fd : FuncData} (F : Fun K "places_behind" "places_behind" s_places_behind f fd) (T : Txt2 K mg) : FnOk P w K mg base CX0 1 f fd ["doors"] (spPlacesBehind K) := by
  refine F.ok sc_places_behind (fun vs H Q E h => ?_) (fun cdv A outer s H vs Q E hr h => ?_)
  · obtain ⟨a, h, _⟩ := h
    exact h.length
  · obtain ⟨l, hv, ⟨hl, hb⟩, k⟩ := h
    obtain ⟨v0, rfl, h0⟩ := hv.un1
    refine ⟨_, (pss_cons (ps_set (i := 1) sc_places_behind.nd rfl (Or.inl rfl) (pe_lst pa_nil))
      (pss_cons (ps_set (i := 2) sc_places_behind.nd rfl (Or.inl rfl) pe_int)
      (pss_cons (ps_for PassesOwn.never rfl (pi_tK K (pv 0)) (pg_name (i := 3) sc_places_behind.nd rfl (Or.inl rfl)) (pss_cons (ps_set (i := 4) sc_places_behind.nd rfl (Or.inl rfl) (pe_op op_add (pv 2) (pe_ix (ixT K) (pv 3) pe_int (fun _ _ => rfl))))
      (pss_cons (ps_expr (pe_bm PySem.F.plainAttrs_list PySem.F.slot_list_append PySem.F.type_list_append mt_append (pv 1) (pa_cons (pe_tupRg rfl (by rfl) T.tuple (prg_2 (by rfl) T.range (pv 2) (pv 4))) pa_nil)))
      (pss_one (ps_set (i := 2) sc_places_behind.nd rfl (Or.inl rfl) (pv 4))))))
      (pss_one (ps_ret (pe_callTy (tupK K) (by rfl) T.tuple (by decide +kernel) (pa_cons (pv 1) pa_nil))))))), ?_⟩
    refine s_asgN (K := K) (gn_lst ga_nil (by simp)) fun p xs H1 hp e1 hx hd => ?_
    cases hd
    dsimp only
    refine s_asg (K := K) gd_i fun v2 H2 e2 hv2 => ?_
    cases hv2
    have hx2 := e2 _ _ hx
    dsimp only
    refine s_for (M := [p]) (ds := l.map doorD) (gi_tup (gd_var rfl ((h0.up e1).up e2)) (ls_one hx2) (fixs_doors l)) fun H3 e3 =>
      ⟨fun i σ' H' => ∃ b ys v3 v4, σ' = [some v0, some (.ref p), some (.int b), v3, v4] ∧ b = sizeOf (l.take i) ∧ But [p] H3 H' ∧ H' p = some (.lst ys) ∧ Dns K H' ys (placesFrom 0 (l.take i)),
      ⟨0, [], none, none, rfl, by simp [sizeOf], But.refl _ _, e3 _ _ hx2, .nil⟩, fun i σ' H' ⟨_, _, _, _, _, _, q, _⟩ => q, ?_, ?_, ?_⟩
    · rintro i σ' H' H'' e ⟨b, ys, v3, v4, rfl, hbe, hbut, hp', hys⟩
      exact ⟨b, ys, v3, v4, rfl, hbe, hbut.trans (.of e), e _ _ hp', hys.up e⟩
    · rintro i d x σ' H' hd' hx' ⟨b, ys, v3, v4, rfl, hbe, hbut, hp', hys⟩
      rw [List.getElem?_map] at hd'
      obtain ⟨q, hq, rfl⟩ := Option.map_eq_some_iff.mp hd'
      have htk : l.take (i + 1) = l.take i ++ [q] := by rw [List.take_add_one, hq]; rfl
      have hbd := sizeOf_bd hb hl i
      have hqb := hb q (List.mem_of_getElem? hq)
      have hne : i ≤ 100 := by
        have := (List.getElem?_eq_some_iff.mp hq).1
        omega
      dsimp only [gName]
      refine s_asg (K := K) (gd_op (gd_var rfl (.int b)) (gd_op (gd_var rfl hx') gd_i (r_ixT (z := .int q.2) rfl)) r_int) fun w H4 e4 hw => ?_
      cases hw
      dsimp only
      refine s_app (K := K) (e4 _ _ hp') (at_var rfl) (gd_tupRg2 (gd_var rfl (.int b)) (gd_var rfl (.int (b + q.2))) (RgOk.of_le (by omega) (by omega) (by omega) (by omega))) ?_ fun w H5 e5 hw => ?_
      · have h1 := hys.length
        have h2 : (placesFrom 0 (l.take i)).length ≤ 100 := by
          have : ∀ (m : List (Int × Int)) (b : Int), (placesFrom b m).length = m.length := by
            intro m
            induction m with
            | nil => intro b; rfl
            | cons p m ih => intro b; simp [placesFrom, ih]
          rw [this, List.length_take]
          omega
        omega
      · have h45 := (e4.trans e5) _ _ hp'
        dsimp only
        refine s_asg (K := K) (gd_var rfl (.int (b + q.2))) fun w2 H6 e6 hw2 => ?_
        cases hw2
        refine ⟨b + q.2, _, _, _, rfl, by rw [htk, sizeOf_app, hbe], (hbut.trans (.of (e4.trans e5))).trans ((But.upd (by simp)).trans (.of e6)), e6 _ _ upd_same, ?_⟩
        rw [htk, placesFrom_app]
        have e : b + q.2 - b = q.2 := by omega
        rw [e, hbe] at hw
        have z : (0 : Int) + sizeOf (l.take i) = sizeOf (l.take i) := by omega
        rw [z]
        refine Dns.up (Dns.app ((hys.up (e4.trans e5)).keep (Kp.upd h45 rfl) (fixs_places _ _)) (.cons (hw.keep (Kp.upd h45 rfl) ?_) .nil)) e6
        exact D.fixs_iff.mpr fun d hd => by
          obtain ⟨k, _, rfl⟩ := List.mem_map.mp hd
          rfl
    · rintro σ' H' ⟨b, ys, v3, v4, rfl, hbe, hbut, hp', hys⟩
      rw [List.length_map, List.take_length] at hys
      have hs : Same H H' := But.fresh ((e1.trans e2).trans e3) hbut fun m hm => by rw [List.mem_singleton.mp hm]; exact hp
      dsimp only
      exact s_retK (k.up hs) (gd_cb (ga1 (gd_var rfl (.lst hp' hys))) (rc_tuple (.inl rfl) (fixs_places _ _)))
end
end My

namespace My
open PySem L2 RZ Cc
/-! the row of draws: the script, how many were taken, the generator's state, what is left of a great number -/
def Ind (K : Fg) (S : Addr × List Int) (r : Addr) : Prop := S.1 ≠ r ∨ ∀ H', SqL K H' S.1 (S.2.map V.int)
def Row (K : Fg) (S : Addr × List Int) (H : Hp) (r : Addr) : Prop := ∃ (pos rng rest : Int), H r = some (.lst [.ref S.1, .int pos, .int rng, .int rest]) ∧ SqL K H S.1 (S.2.map V.int) ∧ Ind K S r ∧ S.2.length ≤ 63 ∧ 0 ≤ pos
theorem ind_new {K : Fg} {S : Addr × List Int} {H : Hp} {p : Addr} (h : SqL K H S.1 (S.2.map V.int)) (hp : H p = none) : Ind K S p := by
  rcases h with (h | ⟨o, h⟩) | h
  · exact .inl (ne_of_none h hp)
  · exact .inl (ne_of_none h hp)
  · exact .inr fun H' => .inr h
theorem Row.up {K : Fg} {H H' : Hp} {r : Addr} {S : Addr × List Int} (h : Row K S H r) (e : Same H H') : Row K S H' r := by
  obtain ⟨pos, rng, rest, h1, h2, h3, h4⟩ := h
  exact ⟨pos, rng, rest, e _ _ h1, same_l e h2, h3, h4⟩
theorem Row.ls {K : Fg} {H : Hp} {r : Addr} {S : Addr × List Int} (h : Row K S H r) : Ls [r] H := by
  obtain ⟨pos, rng, rest, h1, _⟩ := h
  exact ls_one h1
/-- a draw: some number below the bound -/
def spTaken (K : Fg) : Sp := fun vs H Q _ => ∃ (S : Addr × List Int) (r : Addr) (n : Int), vs = [.ref r, .int n] ∧ Row K S H r ∧ 0 < n ∧ n < 1073741824 ∧ ∀ k H', 0 ≤ k → k < n → But [r] H H' → Row K S H' r → Q (.int k) H'
structure Txt3 (K : Fg) (mg : Str → Option Value) : Prop extends Txt2 K mg
theorem lkeep {K : Fg} {H : Hp} {S : Addr × List Int} {r : Addr} {ys : List V} (h : SqL K H S.1 (S.2.map V.int)) (hne : Ind K S r) : SqL K (upd H r (.lst ys)) S.1 (S.2.map V.int) := by
  rcases hne with hne | hne
  case inr => exact hne _
  rcases h with (h | ⟨o, h⟩) | h
  · exact .inl (.inl (by rw [upd_ne hne]; exact h))
  · exact .inl (.inr ⟨o, by rw [upd_ne hne]; exact h⟩)
  · exact .inr h
section
variable {P : Program} {w : World} {K : Fg} {mg : Str → Option Value} {base : Heap}
theorem ok_taken {f : Addr} {fd : FuncData} (F : Fun K "_law_taken" "_law_taken" s__law_taken f fd) (T : Txt2 K mg) : FnOk P w K mg base CX0 1 f fd ["_law_row", "_law_many"] (spTaken K) := by
  refine F.ok sc__law_taken (fun vs H Q E h => ?_) (fun cdv A outer s H vs Q E hr h => ?_)
  · obtain ⟨S, r, n, rfl, _⟩ := h
    rfl
  · obtain ⟨⟨a, ns⟩, r, n, rfl, ⟨pos, rng, rest, hr0, hs, hne, hl, hp⟩, hn, hn2, k⟩ := h
    dsimp only at hr0 hs hl
    refine ⟨_, (pss_cons (ps_if (pt_cmpR op_gt (pe_ix (ixL K) (pv 0) pe_int (fun _ _ => rfl)) pe_int (nomark _)) (pss_cons (ps_set (i := 2) sc__law_taken.nd rfl (Or.inl rfl) (pe_op op_mod (pe_callTy call_int1 (by rfl) T.int (by decide +kernel) (pa_cons (pe_ix (ixL K) (pv 0) pe_int (fun _ _ => rfl)) pa_nil)) (pv 1)))
      (pss_cons (ps_asg (pe_op op_fdiv (pe_ix (ixL K) (pv 0) pe_int (fun _ _ => rfl)) (pv 1)) (pg_sub (pv 0) pe_int set_list))
      (pss_one (ps_ret (pv 2))))) pss_nil)
      (pss_cons (ps_asg (pe_op op_add (pe_ix (ixL K) (pv 0) pe_int (fun _ _ => rfl)) pe_int) (pg_sub (pv 0) pe_int set_list))
      (pss_cons (ps_if (pt_cmpR op_gt (pe_ix (ixL K) (pv 0) pe_int (fun _ _ => rfl)) (pe_callB (lenK K) (by rfl) T.len PySem.boot_len (pa_cons (pe_ix (ixL K) (pv 0) pe_int (fun _ _ => rfl)) pa_nil)) (nomark _)) (pss_cons (ps_asg (pe_op op_mod (pe_callTy call_int1 (by rfl) T.int (by decide +kernel) (pa_cons (pe_op op_add (pe_op op_mul (pe_ix (ixL K) (pv 0) pe_int (fun _ _ => rfl)) pe_int) pe_int) pa_nil)) pe_int) (pg_sub (pv 0) pe_int set_list))
      (pss_one (ps_ret (pe_op op_mod (pe_callTy call_int1 (by rfl) T.int (by decide +kernel) (pa_cons (pe_op op_fdiv (pe_ix (ixL K) (pv 0) pe_int (fun _ _ => rfl)) pe_int) pa_nil)) (pv 1))))) pss_nil)
      (pss_cons (ps_set (i := 3) sc__law_taken.nd rfl (Or.inl rfl) (pe_ix (ixA K) (pe_ix (ixL K) (pv 0) pe_int (fun _ _ => rfl)) (pe_op op_sub (pe_ix (ixL K) (pv 0) pe_int (fun _ _ => rfl)) pe_int) (fun _ _ => rfl)))
      (pss_cons (ps_asg (pe_op op_mod (pe_callTy call_int1 (by rfl) T.int (by decide +kernel) (pa_cons (pe_op op_add (pe_op op_add (pe_op op_mul (pe_ix (ixL K) (pv 0) pe_int (fun _ _ => rfl)) pe_int) (pv 3)) pe_int) pa_nil)) pe_int) (pg_sub (pv 0) pe_int set_list))
      (pss_cons (ps_asg (pe_ifExp (pt_cmpR op_ge (pv 3) (pe_op op_pow pe_int pe_int) (nomark _)) (pe_op op_fdiv (pv 3) (pv 1)) pe_int) (pg_sub (pv 0) pe_int set_list))
      (pss_one (ps_ret (pe_op op_mod (pe_callTy call_int1 (by rfl) T.int (by decide +kernel) (pa_cons (pv 3) pa_nil)) (pv 1)))))))))), ?_⟩
    refine s_when (gt_test (gd_op (gd_ixV (j := 3) (i := 0) rfl hr0 rfl (.int rest)) gd_i r_intB)) (fun e H1 e1 => ?_) fun e H1 e1 => ?_
    · -- what is left of a great number
      have h1 := e1 _ _ hr0
      refine s_asg (K := K) (gd_op (gd_cb (ga1 (gd_ixV (j := 3) (i := 0) rfl h1 rfl (.int rest))) rc_int) (gd_var rfl (.int n)) (r_intC (by omega))) fun v H2 e2 hv => ?_
      cases hv
      have h2 := e2 _ _ h1
      dsimp only
      refine s_setL (K := K) (j := 3) h2 (at_var rfl) gd_i (by simp) (gd_op (gd_ixV (j := 3) (i := 0) rfl h2 rfl (.int rest)) (gd_var rfl (.int n)) (r_intC ⟨hn, hn2⟩)) fun v H3 e3 hv => ?_
      cases hv
      dsimp only
      refine s_ret (K := K) (gd_var rfl (.int _)) fun v H4 e4 hv => ?_
      cases hv
      have e13 := (e1.trans e2).trans e3
      refine k _ H4 (Int.emod_nonneg _ (by omega)) (Int.emod_lt_of_pos _ hn) (((But.of e13).trans (But.upd (by simp))).trans (.of e4)) ⟨pos, rng, _, e4 _ _ upd_same, same_l e4 (lkeep (S := (a, ns)) (same_l e13 hs) hne), hne, hl, hp⟩
    · dsimp only
      have h1 := e1 _ _ hr0
      refine s_setL (K := K) (j := 1) h1 (at_var rfl) gd_i (by simp) (gd_op (gd_ixV (j := 1) (i := 0) rfl h1 rfl (.int pos)) gd_i r_int) fun v H2 e2 hv => ?_
      cases hv
      have e12 := e1.trans e2
      generalize hG : upd H2 r _ = G
      have hGr : G r = some (.lst [.ref a, .int (pos + 1), .int rng, .int rest]) := by rw [← hG]; exact upd_same
      have hGs : SqL K G a (ns.map V.int) := by rw [← hG]; exact lkeep (S := (a, ns)) (same_l e12 hs) hne
      have hGb : But [r] H G := by rw [← hG]; exact (But.of e12).trans (But.upd (by simp))
      dsimp only
      have hlen : GD K (tCB (rLen K) (tCons (tOp (rIxL K) (tVar 0) (tC (.int 0))) tNil)) [some (.ref r), some (.int n), none, none] G (.int (ns.length : Nat)) := fun H3 e Q q =>
        ⟨.ref r, rfl, r, _, 0, .ref a, rfl, rfl, SqL.of (e _ _ hGr), rfl, .ref a, ns.length, rfl, .inl ⟨_, same_l e hGs, by simp⟩, q _ H3 (Same.refl _) (.int _)⟩
      refine s_when (gt_test (gd_op (gd_ixV (j := 1) (i := 0) rfl hGr rfl (.int (pos + 1))) hlen r_intB)) (fun e H3 e3 => ?_) fun e H3 e3 => ?_
      · -- behind the script's end
        have h3 := e3 _ _ hGr
        refine s_setL (K := K) (j := 2) h3 (at_var rfl) gd_i (by simp) (gd_op (gd_cb (ga1 (gd_op (gd_op (gd_ixV (j := 2) (i := 0) rfl h3 rfl (.int rng)) gd_i (r_intC (.inr (by decide)))) gd_i r_int)) rc_int) gd_i (r_intC (by decide))) fun v H4 e4 hv => ?_
        cases hv
        dsimp only
        generalize hR : (rng * 48271 + 11) % 2147483647 = R
        refine s_ret (K := K) (gd_op (gd_cb (ga1 (gd_op (gd_ixV (xs := [.ref a, .int (pos + 1), .int R, .int rest]) (j := 2) (i := 0) rfl upd_same rfl (.int R)) gd_i (r_intC ⟨by decide, by decide⟩))) rc_int) (gd_var rfl (.int n)) (r_intC hn)) fun v H5 e5 hv => ?_
        cases hv
        refine k _ H5 (Int.emod_nonneg _ (by omega)) (Int.emod_lt_of_pos _ hn) ((hGb.trans (.of (e3.trans e4))).trans ((But.upd (by simp)).trans (.of e5))) ⟨pos + 1, R, rest, e5 _ _ upd_same, same_l e5 (lkeep (S := (a, ns)) (same_l (e3.trans e4) hGs) hne), hne, hl, by omega⟩
      · have hlt : pos < ns.length := by
          simp at e
          omega
        obtain ⟨j, rfl⟩ : ∃ j : Nat, pos = j := ⟨pos.toNat, by omega⟩
        obtain ⟨c, hc⟩ : ∃ c, ns[j]? = some c := ⟨ns[j]'(by omega), by simp⟩
        have h3 := e3 _ _ hGr
        have hcell : GD K (tOp (rIx K) (tOp (rIxL K) (tVar 0) (tC (.int 0))) (tOp (rI0 fun i j => .int (i - j)) (tOp (rIxL K) (tVar 0) (tC (.int 1))) (tC (.int 1)))) [some (.ref r), some (.int n), none, none] H3 (.int c) := fun H4 e Q q =>
          ⟨.ref r, rfl, r, _, 0, .ref a, rfl, rfl, SqL.of (e _ _ h3), rfl, .ref r, rfl, r, _, 1, .int ((j : Nat) + 1), rfl, rfl, SqL.of (e _ _ h3), rfl, (j : Nat) + 1, 1, rfl, rfl, .inl ⟨a, _, (j : Nat) + 1 - 1, .int c, rfl, rfl, same_l (e3.trans e) hGs, by
            rw [show ((j : Nat) : Int) + 1 - 1 = (j : Nat) by omega]
            exact atI_nat (by rw [List.getElem?_map, hc]; rfl), q _ H4 (Same.refl _) (.int _)⟩⟩
        dsimp only
        refine s_asg (K := K) hcell fun v H4 e4 hv => ?_
        cases hv
        have h4 := e4 _ _ h3
        dsimp only
        refine s_setL (K := K) (j := 2) h4 (at_var rfl) gd_i (by simp) (gd_op (gd_cb (ga1 (gd_op (gd_op (gd_op (gd_ixV (j := 2) (i := 0) rfl h4 rfl (.int rng)) gd_i (r_intC (.inr (by decide)))) (gd_var rfl (.int c)) r_int) gd_i r_int)) rc_int) gd_i (r_intC (by decide))) fun v H5 e5 hv => ?_
        cases hv
        generalize hR : (rng * 48271 + c + 11) % 2147483647 = R
        dsimp only
        have hu : upd H5 r (.lst ([.ref a, .int ((j : Nat) + 1), .int rng, .int rest].set 2 (.int R))) r = some (.lst [.ref a, .int ((j : Nat) + 1), .int R, .int rest]) := upd_same
        generalize hV : upd H5 r (.lst ([.ref a, .int ((j : Nat) + 1), .int rng, .int rest].set 2 (.int R))) = W at hu
        have hWb : But [r] H W := by rw [← hV]; exact (hGb.trans (.of ((e3.trans e4).trans e5))).trans (But.upd (by simp))
        have hWs : SqL K W a (ns.map V.int) := by rw [← hV]; exact lkeep (S := (a, ns)) (same_l ((e3.trans e4).trans e5) hGs) hne
        have hrest : ∃ z, GD K (tIf (tTest (tOp (rI0 fun i j => .bl (decide (j ≤ i))) (tVar 3) (tOp (rI CPow fun i j => .int (i ^ j.toNat)) (tC (.int 10)) (tC (.int 18))))) (tOp (rI CDiv fun i j => .int (i / j)) (tVar 3) (tVar 1)) (tC (.int 0))) [some (.ref r), some (.int n), none, some (.int c)] W (.int z) := by
          by_cases hb : (10 : Int) ^ ((18 : Int).toNat) ≤ c
          · exact ⟨c / n, gd_if (b := true) (GT.is (gt_test (K := K) (gd_op (gd_var rfl (.int c)) (gd_op gd_i gd_i (r_intC ⟨by decide, by decide, by decide⟩)) r_intB)) (by simpa using hb)) (fun _ => gd_op (gd_var rfl (.int c)) (gd_var rfl (.int n)) (r_intC ⟨hn, hn2⟩)) fun e => nomatch e⟩
          · exact ⟨0, gd_if (b := false) (GT.is (gt_test (K := K) (gd_op (gd_var rfl (.int c)) (gd_op gd_i gd_i (r_intC ⟨by decide, by decide, by decide⟩)) r_intB)) (by simpa using hb)) (fun e => nomatch e) fun _ => gd_i⟩
        obtain ⟨z, hz⟩ := hrest
        refine s_setL (K := K) (j := 3) hu (at_var rfl) gd_i (by simp) hz fun v H6 e6 hv => ?_
        cases hv
        dsimp only
        refine s_ret (K := K) (gd_op (gd_cb (ga1 (gd_var rfl (.int c))) rc_int) (gd_var rfl (.int n)) (r_intC hn)) fun v H7 e7 hv => ?_
        cases hv
        exact k _ H7 (Int.emod_nonneg _ (by omega)) (Int.emod_lt_of_pos _ hn) ((hWb.trans (.of e6)).trans ((But.upd (by simp)).trans (.of e7))) ⟨(j : Nat) + 1, R, z, e7 _ _ upd_same, same_l e7 (lkeep (S := (a, ns)) (same_l e6 hWs) hne), hne, hl, by omega⟩
end
end My

namespace My
open PySem L2 RZ Cc
theorem dn_but {K : Fg} {H H' : Hp} {r : Addr} {v : V} {d : D} (h : Dn K H v d) (hr : ∃ xs, H r = some (.lst xs)) (b : But [r] H H') (f : d.fix = true) : Dn K H' v d := by
  obtain ⟨xs, hr⟩ := hr
  exact h.keep (kp_one b hr) f
theorem Row.at {K : Fg} {H : Hp} {r : Addr} {S : Addr × List Int} (h : Row K S H r) : ∃ xs, H r = some (.lst xs) := by
  obtain ⟨pos, rng, rest, h1, _⟩ := h
  exact ⟨_, h1⟩
/-- a draw from a list or a tuple: some item -/
def spPick (K : Fg) : Sp := fun vs H Q _ => ∃ (S : Addr × List Int) (r : Addr) (v : V) (d : D) (ds : List D), vs = [.ref r, v] ∧ Row K S H r ∧ Dn K H v d ∧ (d = .lst ds ∨ d = .tup ds) ∧ v ≠ .ref r ∧ D.fixs ds = true ∧ 0 < ds.length ∧ ds.length ≤ 100000 ∧
  ∀ d' v' H', d' ∈ ds → But [r] H H' → Row K S H' r → Dn K H' v' d' → Q v' H'
section
variable {P : Program} {w : World} {K : Fg} {mg : Str → Option Value} {base : Heap}
theorem taken_run {σ : L2.St} {H : Hp} {r : Addr} {n : Int} {tn : TE} {X : XK} {S : Addr × List Int} (h0 : σ[0]? = some (some (.ref r))) (hR : Row K S H r) (hn : GD K tn σ H (.int n)) (h1 : 0 < n) (h2 : n < 1073741824) {Q : VK}
    (k : ∀ k H', 0 ≤ k → k < n → But [r] H H' → Row K S H' r → Q (.int k) H') : tCall (spTaken K) [] X (tCons (tVar 0) (tCons tn tNil)) σ H Q :=
  ⟨.ref r, h0, hn H (Same.refl _) _ fun w H1 e1 hw => by
    cases hw
    exact ⟨S, r, n, rfl, hR.up e1, h1, h2, fun k' H2 a b c d => k k' H2 a b ((But.of e1).trans c) d⟩⟩
theorem ok_pick {f : Addr} {fd : FuncData} (F : Fun K "_law_pick" "_law_pick" s__law_pick f fd) (T : Txt2 K mg) (C__law_taken : Cal P w K mg base CX0 1 "_law_taken" ["_law_row", "_law_many"] (spTaken K)) : FnOk P w K mg base CX0 2 f fd ["_law_row", "_law_some"] (spPick K) := by
  refine F.ok sc__law_pick (fun vs H Q E h => ?_) (fun cdv A outer s H vs Q E hr h => ?_)
  · obtain ⟨S, r, v, d, ds, rfl, _⟩ := h
    rfl
  · obtain ⟨S, r, v, d, ds, rfl, hR, hv, hd, hne, hf, hl, hl2, k⟩ := h
    refine ⟨_, (pss_one (ps_ret (pe_ix (ixA K) (pv 1) (pe_cal C__law_taken hr pass0 (pa_cons (pv 0) (pa_cons (pe_callB (lenK K) (by rfl) T.len PySem.boot_len (pa_cons (pv 1) pa_nil)) pa_nil))) (fun _ _ => rfl)))), ?_⟩
    refine ⟨v, rfl, taken_run rfl hR (gd_cb (ga1 (gd_var rfl hv)) (rc_len (n := ds.length) (by rcases hd with rfl | rfl <;> rfl) hl2)) (by omega) (by omega) fun j H1 h1 h2 hb hR1 => ?_⟩
    obtain ⟨m, rfl⟩ : ∃ m : Nat, j = m := ⟨j.toNat, by omega⟩
    have hm : m < ds.length := by omega
    have hat : atI ds (m : Nat) = some ds[m] := atI_nat (by simp [hm])
    rcases hd with rfl | rfl
    · cases hv with
      | @lst a xs _ hs ha =>
        have har : a ≠ r := fun z => hne (by rw [z])
        have hs1 : H1 a = some (.lst xs) := hb _ _ hs (by simpa using har)
        obtain ⟨ys, hy⟩ := hR.at
        have ha1 : Dns K H1 xs ds := ha.keep (kp_one hb hy) hf
        exact r_ix_l hat _ _ H1 Q (.lst hs1 ha1) (.int _) fun v' H2 e2 hv' => k _ v' H2 (List.getElem_mem hm) (hb.trans (.of e2)) (hR1.up e2) hv'
    · exact r_ix_t hat _ _ H1 Q (dn_but hv hR.at hb hf) (.int _) fun v' H2 e2 hv' => k _ v' H2 (List.getElem_mem hm) (hb.trans (.of e2)) (hR1.up e2) hv'
/-! a scheme: doors and crates -/
abbrev names : List Str := ["fig", "jam", "kiwi", "lime", "plum"]
def cratesD (c : Nat) : D := .tup ((names.take c).map D.str)
def schemeD (l : List (Int × Int)) (c : Nat) : D := .tup [doorsD l, cratesD c]
structure Scheme (most crates : Int) (l : List (Int × Int)) (c : Nat) : Prop where
  lo : 1 ≤ l.length
  hi : l.length ≤ 4
  each : ∀ p ∈ l, 1 ≤ p.1 ∧ p.1 ≤ 9 ∧ 1 ≤ p.2 ∧ p.2 ≤ 3
  size : sizeOf l ≤ most
  c1 : 1 ≤ c
  c2 : (c : Int) ≤ crates
  c3 : (c : Int) ≤ sizeOf l
def spScheme (K : Fg) : Sp := fun vs H Q _ => ∃ (S : Addr × List Int) (r : Addr) (most crates : Int), vs = [.ref r, .int most, .int crates] ∧ Row K S H r ∧ 0 < most ∧ most ≤ 100 ∧ 0 < crates ∧ crates ≤ 5 ∧
  ∀ l c v H', Scheme most crates l c → But [r] H H' → Row K S H' r → Dn K H' v (schemeD l c) → Q v H'
theorem ok_scheme {f : Addr} {fd : FuncData} (F : Fun K "_law_scheme" "_law_scheme" s__law_scheme f fd) (T : Txt2 K mg) (C__law_taken : Cal P w K mg base CX0 1 "_law_taken" ["_law_row", "_law_many"] (spTaken K)) : FnOk P w K mg base CX0 2 f fd ["_law_row", "_law_most", "_law_crates"] (spScheme K) := by
  refine F.ok sc__law_scheme (fun vs H Q E h => ?_) (fun cdv A outer s H vs Q E hr h => ?_)
  · obtain ⟨S, r, v, d, rfl, _⟩ := h
    rfl
  · obtain ⟨S, r, most, crates, rfl, hR, hm1, hm2, hc1, hc2, k⟩ := h
    refine ⟨_, (pss_cons (ps_par (i := 3) (j := 4) rfl sc__law_scheme.nd rfl rfl (by decide) rfl rfl (pa_cons (pe_lst pa_nil) (pa_cons (pe_op op_add pe_int (pe_cal C__law_taken hr pass0 (pa_cons (pv 0) (pa_cons (pv 1) pa_nil)))) pa_nil)) (by rfl))
      (pss_cons (ps_while PassesOwn.never (PW.pt (pw_and (pt_cmpR op_gt (pv 4) pe_int (nomark _)) (pw_and1 (pt_cmpR op_lt (pe_callB (lenK K) (by rfl) T.len PySem.boot_len (pa_cons (pv 3) pa_nil)) pe_int (nomark _))))) (pss_cons (ps_set (i := 5) sc__law_scheme.nd rfl (Or.inl rfl) (pe_callB (call_min2 rfl) (by rfl) T.min (by decide +kernel) (pa_cons (pv 4) (pa_cons (pe_op op_add pe_int (pe_cal C__law_taken hr pass0 (pa_cons (pv 0) (pa_cons pe_int pa_nil)))) pa_nil))))
      (pss_cons (ps_expr (pe_bm PySem.F.plainAttrs_list PySem.F.slot_list_append PySem.F.type_list_append mt_append (pv 3) (pa_cons (pe_tup (pa_cons (pe_op op_add pe_int (pe_cal C__law_taken hr pass0 (pa_cons (pv 0) (pa_cons pe_int pa_nil)))) (pa_cons (pv 5) pa_nil))) pa_nil)))
      (pss_one (ps_set (i := 4) sc__law_scheme.nd rfl (Or.inl rfl) (pe_op op_sub (pv 4) (pv 5)))))))
      (pss_cons (ps_set (i := 6) sc__law_scheme.nd rfl (Or.inl rfl) (pe_callB (sumK K) (by rfl) T.sum (by decide +kernel) (pa_cons (pe_lc (own := [("_law_door", 7)]) (g := gName 7) rfl sc__law_scheme.nd (pi_lK K (pv 3)) (blkOk_by (own := [("_law_door", 7)]) (N := ["_law_row", "_law_most", "_law_crates", "_law_found", "_law_left", "_law_count", "_law_size", "_law_door"]) (sc := defScope s__law_scheme) (by decide +kernel)) (fun _ _ _ _ _ => (pg_name (i := 7) sc__law_scheme.nd rfl (Or.inl rfl))) (fun _ _ _ _ _ => pts_nil) (fun _ _ _ _ _ => (pe_ix (ixT K) (pv 7) pe_int (fun _ _ => rfl)))) pa_nil)))
      (pss_cons (ps_set (i := 5) sc__law_scheme.nd rfl (Or.inl rfl) (pe_callB (call_min2 rfl) (by rfl) T.min (by decide +kernel) (pa_cons (pe_op op_add pe_int (pe_cal C__law_taken hr pass0 (pa_cons (pv 0) (pa_cons (pv 2) pa_nil)))) (pa_cons (pv 6) pa_nil))))
      (pss_one (ps_ret (pe_tup (pa_cons (pe_callTy (tupK K) (by rfl) T.tuple (by decide +kernel) (pa_cons (pv 3) pa_nil)) (pa_cons (pe_callTy (tupK K) (by rfl) T.tuple (by decide +kernel) (pa_cons (pe_slice (slL K) (pe_lst (pa_cons pe_str (pa_cons pe_str (pa_cons pe_str (pa_cons pe_str (pa_cons pe_str pa_nil)))))) po_none (po_some (pv 5))) pa_nil)) pa_nil))))))))), ?_⟩
    -- the list, how many places are to come
    refine ⟨by simp, fun p hp => ?_⟩
    have n1 := Same.new (o := .lst []) hp
    refine taken_run (K := K) rfl (hR.up n1) (gd_var rfl (.int most)) hm1 (by omega) fun q H1 hq1 hq2 hb1 hR1 => ⟨1, q, rfl, rfl, _, _, rfl, ?_⟩
    have hrp : p ≠ r := fun z => by
      obtain ⟨xs, hx⟩ := hR.at
      rw [← z, hp] at hx
      cases hx
    have hip : Ind K S p := by
      obtain ⟨_, _, _, _, g2, _⟩ := hR
      exact ind_new g2 hp
    have hp1 : H1 p = some (.lst []) := hb1 _ _ upd_same (by simpa using hrp)
    have hbp : ∀ {H' : Hp}, But [p, r] H1 H' → But [r] H H' := fun {H'} b c o hc hn => by
      have hcp : c ≠ p := ne_of_none hc hp
      refine b c o (hb1 c o ?_ hn) (by simp at hn; simp [hcp, hn])
      rw [upd_ne hcp]
      exact hc
    dsimp only
    refine s_while (fun m σ' H' => ∃ (l : List (Int × Int)) (left : Int) (xs : List V) (v5 : Option V), σ' = [some (.ref r), some (.int most), some (.int crates), some (.ref p), some (.int left), v5, none, none] ∧ m = left.toNat ∧ 0 ≤ left ∧ sizeOf l + left = 1 + q ∧
        l.length ≤ 4 ∧ (l = [] → 1 ≤ left) ∧ (∀ p ∈ l, 1 ≤ p.1 ∧ p.1 ≤ 9 ∧ 1 ≤ p.2 ∧ p.2 ≤ 3) ∧ H' p = some (.lst xs) ∧ Dns K H' xs (l.map doorD) ∧ Row K S H' r ∧ But [p, r] H1 H') (1 + q).toNat
      ⟨[], 1 + q, [], none, rfl, rfl, by omega, by simp [sizeOf], by simp, fun _ => by omega, fun p hp => absurd hp (by simp), hp1, .nil, hR1, But.refl _ _⟩ ?_
    rintro m σ' H' ⟨l, left, xs, v5, rfl, rfl, hle, hsz, hl4, hnil, heach, hp', hxs, hR', hb'⟩
    have hlen := hxs.length
    rw [List.length_map] at hlen
    refine ⟨_, gt_and (gt_test (gd_op (gd_var rfl (.int left)) (gd_i (K := K)) r_intB)) (fun _ => gt_test (gd_op (gd_cb (ga1 (gd_var rfl (.lst hp' hxs))) (rc_len (n := l.length) (by simp [D.len]) (by omega))) gd_i r_intB)), fun hyes H2 e2 => ?_, fun hno H2 e2 => ?_⟩
    · -- one more door
      simp at hyes
      obtain ⟨hy1, hy2⟩ := hyes
      refine ⟨_, fun _ _ z => z, ?_⟩
      refine ⟨.int left, rfl, taken_run (K := K) rfl (hR'.up e2) gd_i (by decide) (by decide) fun q2 H3 a1 a2 b3 hR3 => ⟨1, q2, rfl, rfl, left, 1 + q2, rfl, ?_⟩⟩
      generalize hcc : (if 1 + q2 < left then 1 + q2 else left) = c
      have hc1' : 1 ≤ c ∧ c ≤ 3 ∧ c ≤ left := by
        rw [← hcc]
        by_cases z : 1 + q2 < left
        · rw [if_pos z]; omega
        · rw [if_neg z]; omega
      have hp3 : H3 p = some (.lst xs) := b3 _ _ (e2 _ _ hp') (by simpa using hrp)
      have hd3 : Dns K H3 xs (l.map doorD) := (hxs.up e2).keep (kp_one b3 (hR'.up e2).at.choose_spec) (fixs_doors l)
      dsimp only [gName]
      refine ⟨.ref p, rfl, Or.inl ⟨rfl, xs, SqL.of hp3⟩, taken_run (K := K) rfl hR3 gd_i (by decide) (by decide) fun q3 H4 a3 a4 b4 hR4 => ⟨1, q3, rfl, rfl, .int c, rfl, by simp [sizeLine_eq], fun a ha => ?_⟩⟩
      have hp4 : H4 p = some (.lst xs) := b4 _ _ hp3 (by simpa using hrp)
      have hd4 : Dns K H4 xs (l.map doorD) := hd3.keep (kp_one b4 hR3.at.choose_spec) (fixs_doors l)
      have n5 := Same.new (o := .tup [.int (1 + q3), .int c]) ha
      have hp5 := n5 _ _ hp4
      refine ⟨p, xs, .ref a, rfl, rfl, hp5, by rw [sizeLine_eq]; omega, ?_⟩
      refine s_asg (K := K) (gd_op (gd_var rfl (.int left)) (gd_var rfl (.int c)) r_int) fun v H6 e6 hv => ?_
      cases hv
      have hnew : Dn K (upd H4 a (.tup [.int (1 + q3), .int c])) (.ref a) (doorD (1 + q3, c)) := .tup (SqT.of upd_same) (.cons (.int _) (.cons (.int _) .nil))
      have kpp := Kp.upd (o := .lst (xs ++ [.ref a])) hp5 rfl
      refine ⟨(left - c).toNat, by omega, l ++ [(1 + q3, c)], left - c, xs ++ [.ref a], _, rfl, rfl, by omega, by rw [sizeOf_app]; show sizeOf l + c + (left - c) = 1 + q; omega, by simp; omega, by simp, fun z hz => ?_, e6 _ _ upd_same, ?_, ?_, ?_⟩
      · rcases List.mem_append.mp hz with hz | hz
        · exact heach z hz
        · rw [List.mem_singleton.mp hz]
          exact ⟨by show 1 ≤ 1 + q3; omega, by show 1 + q3 ≤ 9; omega, hc1'.1, hc1'.2.1⟩
      · rw [List.map_append]
        exact ((((hd4.up n5).keep kpp (fixs_doors l)).app (.cons (hnew.keep kpp rfl) .nil))).up e6
      · obtain ⟨pos, rng, rest, g1, g2, g3, g4⟩ := hR4
        exact ⟨pos, rng, rest, e6 _ _ (by rw [upd_ne hrp.symm]; exact n5 _ _ g1), same_l e6 (lkeep (same_l n5 g2) hip), g3, g4⟩
      · refine hb'.trans ((But.of e2).trans (((b3.mono (by simp)).trans ((b4.mono (by simp)).trans (.of n5))).trans ((But.upd (by simp)).trans (.of e6))))
    · -- the crates
      have hex : left = 0 ∨ l.length = 4 := by
        simp at hno
        omega
      have hne : l ≠ [] := fun z => by
        subst z
        have := hnil rfl
        simp at hex
        omega
      have hpl : (l.map doorD).map doorPl = l.map (·.2) := by rw [List.map_map]; rfl
      have hd2 : Dn K H2 (.ref p) (.lst (l.map doorD)) := (Dn.lst hp' hxs).up e2
      dsimp only
      refine s_asg (gd_cb (ga1 (GN.gd (GN.is (gn_map (K := K) (fun d => .int (doorPl d)) (fun H3 e3 => gi_listC (gd_var rfl (hd2.up e3))) (by simp; omega) (fun _ => rfl) (fun d hd => rfl) (fun d y H3 hd e3 hy => ?_)) (sum_int doorPl)))) rc_sum) fun v H3 e3 hv => ?_
      · obtain ⟨z, hz, rfl⟩ := List.mem_map.mp hd
        exact gd_op (gd_var rfl hy) gd_i (r_ixT (z := .int z.2) rfl)
      rw [hpl] at hv
      change Dn K H3 v (.int (sizeOf l)) at hv
      cases hv
      have e23 := e2.trans e3
      dsimp only
      refine taken_run (K := K) rfl (hR'.up e23) (gd_var rfl (.int crates)) hc1 (by omega) fun q4 H4 a1 a2 b4 hR4 => ⟨1, q4, rfl, rfl, .int (sizeOf l), rfl, 1 + q4, sizeOf l, rfl, ?_⟩
      have hpos : 1 ≤ sizeOf l := by
        cases l with
        | nil => exact absurd rfl hne
        | cons z l =>
          have h1 := heach z List.mem_cons_self
          have h3 : ∀ m : List (Int × Int), (∀ p ∈ m, 1 ≤ p.1 ∧ p.1 ≤ 9 ∧ 1 ≤ p.2 ∧ p.2 ≤ 3) → 0 ≤ sizeOf m := by
            intro m
            induction m with
            | nil => intro _; simp [sizeOf]
            | cons p m ih =>
              intro hm
              have h1 := hm p List.mem_cons_self
              have h2 := ih fun q hq => hm q (List.mem_cons_of_mem _ hq)
              simp only [sizeOf, List.map_cons, List.sum_cons] at h2 ⊢
              omega
          have h4 := h3 l fun p hp => heach p (List.mem_cons_of_mem _ hp)
          simp only [sizeOf, List.map_cons, List.sum_cons] at h4 ⊢
          omega
      generalize hcc : (if sizeOf l < 1 + q4 then sizeOf l else 1 + q4) = c
      have hcb : 1 ≤ c ∧ c ≤ sizeOf l ∧ c ≤ crates := by
        rw [← hcc]
        by_cases z : sizeOf l < 1 + q4
        · rw [if_pos z]; omega
        · rw [if_neg z]; omega
      obtain ⟨m, rfl⟩ : ∃ m : Nat, c = m := ⟨c.toNat, by omega⟩
      have hb34 : But [r] H2 H4 := (But.of e3).trans b4
      have hd4 : Dn K H4 (.ref p) (.lst (l.map doorD)) := by
        have hp3 := e23 _ _ hp'
        exact .lst (b4 _ _ hp3 (by simpa using hrp)) ((hxs.up e23).keep (kp_one b4 (hR'.up e23).at.choose_spec) (fixs_doors l))
      dsimp only [gName]
      have hcut : cutD (names.map D.str) none (some (m : Nat)) = (names.take m).map D.str := by
        unfold cutD
        rw [HT.sIx_none, HT.sIx_nat, List.drop_zero, Nat.sub_zero, ← List.map_take]
        have : min m (names.map D.str).length = m := by
          have : (names.map D.str).length = 5 := rfl
          omega
        rw [this]
      refine s_ret (K := K) (d := schemeD l m) (GD.is (gd_tup (ga2 (gd_cb (ga1 (gd_var rfl hd4)) (rc_tuple (.inl rfl) (fixs_doors l))) (gd_cb (ga1 (GN.gd (GN.is (gn_slL (GN.gd (gn_lst (ds := names.map D.str) (ga_cons gd_s (ga_cons gd_s (ga_cons gd_s (ga2 gd_s gd_s)))) (by decide))) go_none (go_some (K := K) (gd_var rfl (.int (m : Nat))))) hcut))) (rc_tuple (.inl rfl) ?_))) (by simp)) rfl) fun v H5 e5 hv => ?_
      · exact D.fixs_iff.mpr fun d hd => by
          obtain ⟨k, _, rfl⟩ := List.mem_map.mp hd
          rfl
      · refine k l m v H5 ⟨by cases l with | nil => exact absurd rfl hne | cons a b => simp, hl4, heach, by omega, by omega, by omega, by omega⟩ (hbp (((hb'.trans (.of e2)).trans (hb34.mono (by simp))).trans (.of e5))) (hR4.up e5) hv
end
end My

/-! own errors whose __init__ hands a text on by super() and keeps its one argument in a field -/
namespace CcX
open PySem PySem.W PySem.Calls PyProof.Rows PySem.HandSPX
/-- what may be shown in such a text -/
def Shown (v : Value) : Prop := (∃ z t, v = .str z t ∧ z.length ≤ 1000) ∨ ∃ i t, v = .int i t ∧ i.natAbs.log2 < 1920
structure SupC (prog : Program) (K : Frag) (C fI : Addr) (qual fld : Str) (body : List Stmt) (params : Arguments) (scope : Scope) : Prop where
  cls : ∃ nm q N bs bm sn sub ab col dd k0 k1 k2 k3 k5, K.lookup C = some (excClassObj nm q C N bs bm true sn sub ab col dd k0 k1 k2 k3 k5 "ValueError.__new__") ∧ refsVE bm = true
  sa : findIn K (.ref C) "__setattr__" = some (some (.builtin "object.__setattr__"))
  noN : findIn K (.ref C) fld = some none
  iC : findIn K (.ref C) "__init__" = some (some (.ref fI))
  tC : typeIn K (.ref fI) = some (.type "function")
  kC : keepIn K (.ref C) = true
  exC : subIn K (.ref C) (.type "BaseException") = some true
  veC : subIn K (.ref C) (.type "ValueError") = some true
  slfC : mroIn K C (.ref C) = some true
  tyC : typeIn K (.ref C) = some (.type "type")
  opq : nsIn K cStatics "thirdparty.any" = some none
  alg : ks_superIn K C C "__init__" = some (some (.builtin "ValueError.__init__"))
  top : (prog.main.scope.names.lookup ("super" : Str)).isSome = false
  fn : ∃ (oc : Value) (od : Option Addr) (doc pm : Value) (an : Option Addr) (cda cc : Addr) (ct : Value) (osl : Array (Option Value)) (ccl cl : Value) (cdd cld : Option Addr) (ccs csl : Array (Option Value)) (vs : Array Value) (file : Str) (tf : Tok),
    K.lookup fI = some ⟨oc, od, .func (ksFn "__init__" qual params body scope .none .none doc pm an (.ref cda) ct cc), osl⟩ ∧ codeIn K (.ref cda) qual = true ∧
    K.lookup cda = some ⟨ccl, cdd, .fields vs, ccs⟩ ∧ vs[2]? = some (.str file tf) ∧ ((prog.main.file : Str) == file) = true ∧
    K.lookup cc = some ⟨cl, cld, .cell (some (.ref C)), csl⟩
section
variable {prog : Program} {w : World} {A : Around} {E : Value → Shared → Prop} {R : Result → Shared → Prop} {s : Shared} {K : Frag} {mg mb : Str → Option Value} {C fI : Addr}
/-- the built-in __init__ bound to the new object, called: only the object's own record is laid anew -/
theorem mw_call {nm q : Str} {N : Addr} {bs bm : List Value} {sn : List Str} {sub : List Value} {ab : Bool} {col : Option Bool} {dd : Option Addr} {k0 k1 k2 k3 k5 : Option Value} {u x t0 : Addr} {rest : List Value} {Q : Value → Shared → Prop}
    (hC : s.heap.get? C = some (excClassObj nm q C N bs bm true sn sub ab col dd k0 k1 k2 k3 k5 "ValueError.__new__")) (hx : s.heap.get? x = some (excO C t0)) (hu : s.heap.get? u = some (kxs_mw "ValueError.__init__" x)) (hz : rest.length ≤ sizeLine)
    (h : ∀ h' t1, (∀ b o, b ≠ x → s.heap.get? b = some o → h'.get? b = some o) → h'.get? x = some (excO C t1) → Q .none { s with heap := h' }) : wpAny (model prog w) A (call (.ref u) rest) Q E s := by
  have FB := F.excBase_ValueError
  obtain ⟨hh, g, d, tk, os⟩ := s
  refine wpAny_call (codeAny_of_tree ?_)
  show wpAny _ A.in1 (callAny (.ref u) ⟨rest, []⟩) _ _ _
  simp only [callAny]
  refine wpAny_bind (wpAny_load hu ?_)
  have a1 : (Value.type "method-wrapper" == Value.type "method" || Value.type "method-wrapper" == Value.type "builtin_function_or_method" || Value.type "method-wrapper" == Value.type "method-wrapper") = true := by decide
  simp only [kxs_mw, a1, if_true]
  refine KFB.if_so (by decide) ?_
  refine wpAny_bind (check_bound_init (FB.toExcCallFacts) hC hx rfl ?_)
  refine wpAny_bind (wpAny_pure (wpAny_pure ?_))
  refine ⟨plainId_quiet FB.init.plain _, codeAny_builtin FB.initEntry ?_⟩
  exact exc_init_tree (cls := Value.ref C) (t0 := t0) (dv := Option.none) (c2 := Value.none) (c3 := Value.none) (b4 := Value.bool false) hx hz fun h' k' e' _ => h h' _ k' e'
/-- a part of the text that is shown -/
def PartOk (ar : Str) (e : Expr) : Prop := (∃ z j p, e = .Constant (.str z) j p ∧ z.length ≤ 100) ∨ ∃ p p2, e = .FormattedValue (.Name ar p) (-1) none p2
theorem parts_join {env : Env} {m : Str → Option Value} {hp : Heap} {ar : Str} {v : Value} (hn : hp.Ns env.locals m) (hk : env.scope.kind = .function) (hl : env.kindOf ar = some .local) (hd : (ar == ("__debug__" : Str)) = false) (hv : m ar = some v) (hs : Shown v) {R : Str → Shared → Prop} : ∀ (es : List Expr) (acc : Str) (s : Shared), s.heap = hp → (∀ e ∈ es, PartOk ar e) →
    acc.length + 4000 * es.length ≤ 100000 → (∀ out tk, out.length ≤ 100000 → R out { s with toks := tk }) → Joins (model prog w) A E (evalEach es env) acc R s
  | [], acc, s, e, _, hz, k => by
    rw [show evalEach [] env = [] from by first | rfl | simp [evalEach]]
    exact k acc s.toks (by simpa using hz)
  | p :: es, acc, s, e, hp', hz, k => by
    rw [show evalEach (p :: es) env = eval p env :: evalEach es env from by first | rfl | simp [evalEach]]
    have line : sizeLine = 16777216 := sizeLine_eq
    have hz' : acc.length + 4000 * (es.length + 1) ≤ 100000 := by simpa using hz
    have go : ∀ (y : Str) (t : Tok) (tk : Nat), y.length ≤ 4000 → ∃ z t', (Value.str y t) = .str z t' ∧ (acc ++ z).length ≤ sizeLine ∧ Joins (model prog w) A E (evalEach es env) (acc ++ z) R { s with toks := tk } := fun y t tk hy => by
      have hl2 : (acc ++ y).length = acc.length + y.length := PySem.Str.length_append ..
      exact ⟨y, t, rfl, by omega, parts_join hn hk hl hd hv hs es (acc ++ y) { s with toks := tk } e (fun q hq => hp' q (List.mem_cons_of_mem _ hq)) (by omega) fun out tk' hz => k out tk' hz⟩
    rcases hp' p List.mem_cons_self with ⟨z, j, q, rfl, hz1⟩ | ⟨q, q2, rfl⟩
    · exact Calls.Constant_str (go z _ _ (by omega))
    · refine wpAny_FormattedValue_plain (wpAny_Name (wpAny_loadName_local hk hl (by rw [e]; exact hn) hv ?_) hd)
      rcases hs with ⟨z, t, rfl, hz1⟩ | ⟨i, t, rfl, hi⟩
      · exact wpAny_formatField_str (go z _ s.toks (by omega)) (go z _ _ (by omega)) (by omega)
      · exact wpAny_formatField_int hi (go _ _ _ (by have := int_text_length_le (k := 1920) (by decide) hi; rw [PySem.ofString_length]; omega))

/-! ### the text of such an __init__ -/
abbrev supA (ar : Str) (p1 p2 : Pos) : Arguments := { posonlyargs := [], args := [{ arg := "self", annotation := none, pos := p1 }, { arg := ar, annotation := none, pos := p2 }], vararg := none, kwonlyargs := [], kw_defaults := [], kwarg := none, defaults := [] }
abbrev supS (ar : Str) : Scope := { kind := .function, names := [(PySem.Str.ofString "self", .local), (ar, .local), (PySem.Str.ofString "__class__", .free), (PySem.Str.ofString "super", .globalImplicit)], isGenerator := false, isCoroutine := false, more := [] }
abbrev supB (ar fld : Str) (v1 v2 : Expr) (rest : List Expr) (q0 q1 q2 q3 q4 q5 q6 q7 q8 q9 : Pos) : List Stmt :=
  [.Expr (.Call (.Attribute (.Call (.Name "super" q0) [] [] q1) "__init__" q2) [.JoinedStr (v1 :: v2 :: rest) q3] [] q4) q5, .Assign [.Attribute (.Name "self" q6) fld q7] (.Name ar q8) q9]
/-- what __init__ leaves of a fresh exception at x -/
structure InitEnd (h h' : Heap) (x C dx t1 : Addr) (fld : Str) (v : Value) : Prop where
  keep : ∀ b o, b ≠ x → h.get? b = some o → h'.get? b = some o
  obj : h'.get? x = some { cls := .ref C, dict := some dx, data := .fields #[.ref t1, .none, .none, .none, .bool false, .none] }
  dbig : h.objs.size ≤ dx
  dne : dx ≠ x
  ns : h'.Ns1 dx (fun y => if y = fld then some v else none)
theorem me_call {env : Env} {c : Code} {o : Expr} {name : Str} {apos pos : Pos} {args : List Expr} {Q : Value → Shared → Prop} (hline : (apos.endLine == pos.line) = true)
    (hform : methodCallForm (args.length + ([] : List Keyword).length) (backTo pos (starEach args env)) (backToKw pos (keywordEach [] env)) = true)
    (h : PySem.wpAt (model prog w) A c (attributeBase o name env (eval o env)) (fun ov s₁ => ∀ pl, wpAny (model prog w) A (getMethod ov name pl) (fun fx s₂ => wpAny (model prog w) A (callWith pos fx.1 fx.2 (backTo pos (starEach args env)) []) Q E s₂) E s₁) E s) :
    PySem.wpAt (model prog w) A c (eval (.Call (.Attribute o name apos) args [] pos) env) Q E s := by
  rw [arm_eval_Call]
  refine PySem.wpAt_bind (PySem.wpAt_mono h (fun ov s₁ h₁ => PySem.wpAt_of_wpAny (wpAny_bind (wpAny_standAt ?_))) fun _ _ x => x)
  have hpos : methodCallPos true o env apos pos = pure pos := by unfold methodCallPos; simp [hline]
  unfold methodCall
  rw [hform]
  refine wpAny_bind (wpAny_holding (wpAny_mono (h₁ _) (fun fx s₂ h₂ => ?_) fun _ _ x => x))
  exact wpAny_bind (wpAny_of_eq hpos h₂)
theorem Heap.Ns.over {L x : Addr} {h h' : Heap} {m : Str → Option Value} (hn : h.Ns L m) (hx : L ≠ x) (k : ∀ b o, b ≠ x → h.get? b = some o → h'.get? b = some o) : h'.Ns L m := by
  obtain ⟨oL, es, ep, hL, r⟩ := hn
  exact ⟨oL, es, ep, k _ _ hx hL, r⟩
theorem kept_but {K : Frag} {h h' : Heap} {x : Addr} (X : K.In h) (hx : K.lookup x = none) (k : ∀ b o, b ≠ x → h.get? b = some o → h'.get? b = some o) : K.In h' := fun a o e =>
  k a o (fun z => by subst z; rw [show List.lookup a K = some o from e] at hx; cases hx) (X a o e)
theorem sup_init {qual ar fld : Str} {v1 v2 : Expr} {rest : List Expr} {p1 p2 q0 q1 q2 q3 q4 q5 q6 q7 q8 q9 : Pos} (T : SupC prog K C fI qual fld (supB ar fld v1 v2 rest q0 q1 q2 q3 q4 q5 q6 q7 q8 q9) (supA ar p1 p2) (supS ar))
    (ha : ar = "part" ∨ ar = "index" ∨ ar = "name" ∨ ar = "row" ∨ ar = "offset") (hparts : ∀ e ∈ v1 :: v2 :: rest, PartOk ar e) (hlen : rest.length ≤ 8) (hline : (q2.endLine == q4.line) = true) {x t0 : Addr} {v : Value} (hv : Shown v)
    (X : K.In s.heap) (hlim : s.heap.NoLimit) (hg : s.heap.Ns mainGlobals mg) (hb : s.heap.Ns builtinsNs mb) (hms : mg "super" = none) (hbs : mb "super" = some (.type "super")) (hx : s.heap.get? x = some (excO C t0)) (hnx : K.lookup x = none) (hroom : A.depth < recursionLimit)
    (hq : ∀ h' tk dx t1, InitEnd s.heap h' x C dx t1 fld v → R (.ok (.ret .none)) { s with heap := h', toks := tk }) :
    codeAny (model prog w) A (.call (.ref fI) ⟨[.ref x, v], []⟩) R s := by
  obtain ⟨oc, od, doc, pm, an, cda, cc, ct, osl, ccl, cl, cdd, cld, ccs, csl, vs, file, tf, ho, hcd, hcda, hvs, hfile, hcell⟩ := T.fn
  obtain ⟨nm, q, N, bs, bm, sn, sub, ab, col, dd, k0, k1, k2, k3, k5, hC, hbm⟩ := T.cls
  have hcl : clsIn K C = some { name := nm, bases := bs, mro := .ref C :: bm, ns := N, qualname := q, hasDict := true, slotNames := sn, subclasses := sub, abstract := ab, collection := col, hasDel := false } := by unfold clsIn; rw [hC] <;> rfl
  refine ks_codeAny_call_defAt (binds := [("self", .ref x), (ar, v)]) hroom (X _ _ ho) rfl hlim ?_ rfl (BindsTo.of_eq ?_) ?_ ?_ (fun h₁ hn k => ?_)
  · exact codeRec_of X hcd
  · rcases ha with rfl | rfl | rfl | rfl | rfl <;> first | rfl | with_unfolding_all rfl
  · intro y hy
    simp at hy
    rcases hy with rfl | rfl | rfl | rfl <;> exact fun e => by cases e
  · intro y hy
    rcases List.mem_cons.mp hy with rfl | hy
    · rfl
    · rcases List.mem_cons.mp hy with rfl | hy
      · rcases ha with rfl | rfl | rfl | rfl | rfl <;> rfl
      · cases hy
  have hxL : s.heap.objs.size ≠ x := Nat.ne_of_gt (Heap.lt_size hx)
  have X₁ : K.In h₁ := X.keeps k
  have hx₁ := k _ _ hx
  have hC₁ := X₁ _ _ hC
  have hz₁ : s.heap.objs.size < h₁.objs.size := hn.lt
  generalize eF : ksFn "__init__" qual (supA ar p1 p2) (supB ar fld v1 v2 rest q0 q1 q2 q3 q4 q5 q6 q7 q8 q9) (supS ar) Value.none Value.none doc pm an (Value.ref cda) ct cc = fd
  have eE : callEnv fd s.heap.objs.size fI = ksEnv qual (supS ar) s.heap.objs.size fI (.ref cda) cc := by rw [← eF]; rfl
  rw [eE]
  have nec : (ar == ("__class__" : Str)) = false ∧ (ar == ("super" : Str)) = false ∧ (ar == ("self" : Str)) = false ∧ (ar == ("__debug__" : Str)) = false := by rcases ha with rfl | rfl | rfl | rfl | rfl <;> decide
  have kS : (ksEnv qual (supS ar) s.heap.objs.size fI (.ref cda) cc).kindOf "super" = some .globalImplicit := by rcases ha with rfl | rfl | rfl | rfl | rfl <;> rfl
  have kC : (ksEnv qual (supS ar) s.heap.objs.size fI (.ref cda) cc).kindOf "__class__" = some .free := by rcases ha with rfl | rfl | rfl | rfl | rfl <;> rfl
  have kA : (ksEnv qual (supS ar) s.heap.objs.size fI (.ref cda) cc).kindOf ar = some .local := by rcases ha with rfl | rfl | rfl | rfl | rfl <;> rfl
  have kX : (ksEnv qual (supS ar) s.heap.objs.size fI (.ref cda) cc).kindOf "self" = some .local := rfl
  have mA : (List.reverse [(("self" : Str), Value.ref x), (ar, v)]).lookup ar = some v := by simp [List.lookup]
  have mX : (List.reverse [(("self" : Str), Value.ref x), (ar, v)]).lookup ("self" : Str) = some (.ref x) := by rcases ha with rfl | rfl | rfl | rfl | rfl <;> rfl
  refine ks_wpAt_execs_cons (ks_wpAt_Expr_any (me_call hline (by rfl) ?_) (by rfl) (by rfl))
  · refine ks_wpAt_super_base (env := ksEnv qual (supS ar) s.heap.objs.size fI (.ref cda) cc) (fd := fd) (ar := { arg := "self", annotation := none, pos := p1 }) kS kC (by decide) rfl (k _ _ (X _ _ ho)) (by rw [← eF]) (by rw [← eF]; rfl) rfl (X₁ _ _ hcda) rfl hvs hfile T.top ?_
    refine ks_loadName_global rfl kS (loadGlobal_builtin (hg.keeps k) hms (hb.keeps k) hbs ⟨rfl, ?_⟩)
    refine wpAny_loadName_free rfl kC rfl ⟨_, X₁ _ _ hcell, rfl⟩ ?_
    refine wpAny_loadName_local rfl kX hn mX ?_
    refine ks_wpAny_isType_cls hC₁ rfl ⟨rfl, ?_⟩
    refine ks_wpAny_call_super hC₁ rfl hx₁ rfl (fun c e => by cases e) (looks_mroIn X₁ T.slfC) (fun h₂ hso k₂ => ?_)
    have X₂ : K.In h₂ := X₁.keeps k₂
    have hx₂ := k₂ _ _ hx₁
    have hn₂ := hn.keeps k₂
    intro pl
    refine kxs_getMethod kxs_ValueError hso (looks_opaque X₂ T.opq) (l₀ := .ref C :: bm) (fun A Q E s' k q => wpAny_bind ((looks_clsIn X₂ hcl) A _ E s' k (wpAny_pure q))) rfl X₂ ?_ ?_ ?_ (by decide) ?_
    · have := T.alg
      unfold ks_superIn at this
      rw [hcl] at this
      exact this
    · exact InstAt.type (od := none) ⟨hx₂, rfl, rfl, trivial⟩ |>.andThen (looks_subIn X₂ T.veC)
    · intro z
      rw [z] at hnx
      have : K.lookup C = some _ := hC
      rw [this] at hnx; cases hnx
    have k₃ : ∀ b o, h₂.get? b = some o → (h₂.push (kxs_mw "ValueError.__init__" x)).get? b = some o := fun b o e => Heap.get?_push_of_some _ e
    have hn₃ := hn₂.keeps k₃
    have hu₃ : (h₂.push (kxs_mw "ValueError.__init__" x)).get? h₂.objs.size = some (kxs_mw "ValueError.__init__" x) := Heap.get?_push_at rfl rfl
    have hC₃ := k₃ _ _ (k₂ _ _ hC₁)
    have hx₃ := k₃ _ _ hx₂
    generalize eh : h₂.push (kxs_mw "ValueError.__init__" x) = h₃ at hn₃ hu₃ hC₃ hx₃ k₃ ⊢
    refine kxs_callWith (i := "ValueError.__init__") (x := x) rfl (evalArgs_plain (spliced_cons (wpAny_JoinedStr (pos := q3) ?_)))
    refine parts_join (hp := h₃) hn₃ rfl kA nec.2.2.2 mA hv (v1 :: v2 :: rest) Str.empty _ rfl hparts (by simp only [List.length_cons]; have : Str.empty.length = 0 := rfl; omega) (fun out tk hz => ?_)
    refine ⟨by rw [sizeLine_eq]; omega, spliced_nil ⟨hu₃, ?_⟩⟩
    refine mw_call hC₃ hx₃ hu₃ (by simp [sizeLine_eq]) (fun h₄ t1 k₄ hx₄ => ?_)
    have kk : ∀ b o, b ≠ x → s.heap.get? b = some o → h₄.get? b = some o := fun b o hb e => k₄ b o hb (k₃ _ _ (k₂ _ _ (k _ _ e)))
    have X₄ : K.In h₄ := kept_but X hnx kk
    refine PySem.wpAt_of_wpAny (wpAny_execs_cons (plainObj_wpAny_Assign_Attribute ?_))
    have hn₄ := Heap.Ns.over hn₃ (x := x) (h' := h₄) hxL k₄
    refine wpAny_Name (wpAny_loadName_local rfl kA hn₄ mA ?_) nec.2.2.2
    refine wpAny_Name (wpAny_loadName_local rfl kX hn₄ mX ?_) (by decide)
    refine set_plain X₄ (ox := excO C t1) (od := none) ⟨hx₄, rfl, rfl, trivial⟩ T.sa ?_
    refine exc_osa X₄ hx₄ hcl (show refsVE (.ref C :: bm) = true from hbm) rfl T.noN (fun h₅ tk₅ dx k₅ dn dne hx₅ hn₅ => ?_)
    refine wpAny_execs_nil (hq h₅ tk₅ dx t1 ⟨fun b o hb e => k₅ b o hb (kk b o hb e), hx₅, ?_, dne, hn₅⟩)
    exact Nat.le_of_lt (Nat.lt_of_lt_of_le hn₄.lt dn)
/-- one made -/
structure Made1 (h h' : Heap) (e C d : Addr) (fld : Str) (v : Value) : Prop where
  keep : ∀ b o, h.get? b = some o → h'.get? b = some o
  new : h.objs.size ≤ e
  obj : ∃ oe vs, h'.get? e = some oe ∧ oe.cls = .ref C ∧ oe.dict = some d ∧ oe.data = .fields vs ∧ vs[1]? = some .none
  dbig : h.objs.size ≤ d
  dne : d ≠ e
  ns : h'.Ns1 d (fun y => if y = fld then some v else none)
/-- an own error with one field, its __init__ shown -/
structure SupI (prog : Program) (w : World) (K : Frag) (mg : Str → Option Value) (C fI : Addr) (fld : Str) : Prop where
  cls : ∃ nm q N bs bm sn sub ab col dd k0 k1 k2 k3 k5, K.lookup C = some (excClassObj nm q C N bs bm true sn sub ab col dd k0 k1 k2 k3 k5 "ValueError.__new__") ∧ refsVE bm = true
  iC : findIn K (.ref C) "__init__" = some (some (.ref fI))
  tC : typeIn K (.ref fI) = some (.type "function")
  kC : keepIn K (.ref C) = true
  exC : subIn K (.ref C) (.type "BaseException") = some true
  tyC : typeIn K (.ref C) = some (.type "type")
  init : ∀ {A : Around} {R : Result → Shared → Prop} {s : Shared} {x t0 : Addr} {v : Value} {mb : Str → Option Value}, Shown v → K.In s.heap → s.heap.NoLimit → s.heap.Ns mainGlobals mg → s.heap.Ns builtinsNs mb → mb "super" = some (.type "super") → s.heap.get? x = some (excO C t0) → K.lookup x = none → A.depth < recursionLimit →
    (∀ h' tk dx t1, InitEnd s.heap h' x C dx t1 fld v → R (.ok (.ret .none)) { s with heap := h', toks := tk }) → codeAny (model prog w) A (.call (.ref fI) ⟨[.ref x, v], []⟩) R s
theorem sup_of {qual ar fld : Str} {v1 v2 : Expr} {rest : List Expr} {p1 p2 q0 q1 q2 q3 q4 q5 q6 q7 q8 q9 : Pos} (T : SupC prog K C fI qual fld (supB ar fld v1 v2 rest q0 q1 q2 q3 q4 q5 q6 q7 q8 q9) (supA ar p1 p2) (supS ar))
    (ha : ar = "part" ∨ ar = "index" ∨ ar = "name" ∨ ar = "row" ∨ ar = "offset") (hparts : ∀ e ∈ v1 :: v2 :: rest, PartOk ar e) (hlen : rest.length ≤ 8) (hline : (q2.endLine == q4.line) = true) (hms : mg "super" = none) : SupI prog w K mg C fI fld :=
  ⟨T.cls, T.iC, T.tC, T.kC, T.exC, T.tyC, fun hv X hlim hg hb hbs hx hnx hroom hq => sup_init T ha hparts hlen hline hv X hlim hg hb hms hbs hx hnx hroom hq⟩
theorem sup_made {fld : Str} (T : SupI prog w K mg C fI fld) {v : Value} (hv : Shown v) (X : K.In s.heap) (hlim : s.heap.NoLimit) (hg : s.heap.Ns mainGlobals mg) (hb : s.heap.Ns builtinsNs mb) (hbs : mb "super" = some (.type "super")) (hroom : A.depth + 1 < recursionLimit)
    (hq : ∀ h' tk e d, Made1 s.heap h' e C d fld v → R (.ok (.ret (.ref e))) { s with heap := h', toks := tk }) : codeAny (model prog w) A (.call (.ref C) ⟨[v], []⟩) R s := by
  obtain ⟨nm, q, N, bs, bm, sn, sub, ab, col, dd, k0, k1, k2, k3, k5, hC, hbm⟩ := T.cls
  obtain ⟨hp, g, dr, tk, os⟩ := s
  have old1 : ∀ b o, hp.get? b = some o → ((hp.push (kdv_tup [v])).push (excO C hp.objs.size)).get? b = some o := fun b o e => Heap.get?_push_of_some _ (Heap.get?_push_of_some _ e)
  have at1 : ((hp.push (kdv_tup [v])).push (excO C hp.objs.size)).get? (hp.objs.size + 1) = some (excO C hp.objs.size) := by heap_get
  have free : K.lookup (hp.objs.size + 1) = none := by
    rcases e : K.lookup (hp.objs.size + 1) with _ | o
    · rfl
    · exact absurd (Nat.lt_of_succ_lt (Heap.lt_size (X _ _ e))) (Nat.lt_irrefl _)
  refine call_own F.excBase_ValueError (fun X => refsVE_contains X bm hbm) (X _ _ hC) (looks_findIn X T.iC) (fun self => bind_fn X self T.tC) (by simp [sizeLine_eq]) ?_
  refine T.init (s := ⟨(hp.push (kdv_tup [v])).push (excO C hp.objs.size), g, dr, tk, os⟩) hv (X.keeps old1) (hlim.keeps old1) (hg.keeps old1) (hb.keeps old1) hbs at1 free hroom fun h' tk' dx t1 I => ?_
  have z : hp.objs.size + 1 + 1 ≤ dx := by
    have q := I.dbig
    first | exact q | (rw [Heap.size_push, Heap.size_push] at q; exact q) | simpa only [Heap.size_push] using q
  exact ⟨rfl, hq h' tk' (hp.objs.size + 1) dx ⟨fun b o e => I.keep b o (Nat.ne_of_lt (Nat.lt_succ_of_lt (Heap.lt_size e))) (old1 b o e), Nat.le_succ _, ⟨_, _, I.obj, rfl, rfl, rfl, rfl⟩, (by show hp.objs.size ≤ dx; omega), I.dne, I.ns⟩⟩
end
end CcX

namespace Cc
open PySem L2
/-- an own error, made with a text -/
structure ErrT (K : Fg) (mg : Str → Option Value) (x : Str) (C : Addr) : Prop where
  gC : mg x = some (.ref C)
  q : PySem.W.excIn K C [.type "ValueError", .type "Exception", .type "BaseException", .type "object"] "ValueError.__new__" = true
  kC : PySem.W.keepIn K (.ref C) = true
  exC : PySem.W.subIn K (.ref C) (.type "BaseException") = some true
  tyC : PySem.W.typeIn K (.ref C) = some (.type "type")
/-- an own error with one field -/
structure ErrF (P : Program) (w : World) (K : Fg) (mg : Str → Option Value) (x : Str) (C fI : Addr) (fld : Str) : Prop where
  gC : mg x = some (.ref C)
  sup : CcX.SupI P w K mg C fI fld
section
variable {X : Cx} {x : Str} {C : Addr} {p p2 pos pos2 : Pos} {m : Str} {j : Nat}
def tRaiseT (C : Addr) (W : WX) : TS := fun _ σ H => W (.ref C) none σ H
theorem ps_raiseT {W : WX} (hc : X.calm = true) (tk : Takes X W) (T : ErrT X.K X.mg x C) (hg : Gl X x := by rfl) (hdb : (x == ("__debug__" : Str)) = false := by decide) :
    PS X (.Raise (some (.Call (.Name x p) [.Constant (.str m) j p2] [] pos)) none pos2) (tRaiseT C W) :=
  ps_raise hc tk (pmk_own F.excBase_ValueError T.q T.gC T.kC (raises_own T.exC T.tyC) hg hdb)
def ShownV (v : V) : Prop := (∃ z : Str, v = .str z ∧ z.length ≤ 1000) ∨ ∃ i : Int, v = .int i ∧ i.natAbs.log2 < 1920
def tRaiseF (C : Addr) (fld : Str) (W : WX) (ta : TA) : TS := fun _ σ H => ta σ H fun vs H1 => ∃ v, vs = [v] ∧ ShownV v ∧ ∀ d, H1 d = none → W (.ref C) (some d) σ (upd H1 d (.xd [(fld, v)]))
theorem relO_one {v : V} {v' : Value} (r : RelV v v') (fld f : Str) : RelO (List.lookup f [(fld, v)]) (if f = fld then some v' else none) := by
  by_cases h : f = fld
  · subst h
    simpa [List.lookup, RelO] using r
  · have e : (f == fld) = false := by simpa using h
    simp [List.lookup, e, h, RelO]
theorem ps_raiseF {W : WX} {a : Expr} {ta : TA} {fI : Addr} {fld : Str} {k : Nat} (hc : X.calm = true) (tk : Takes X W) (T : ErrF X.prog X.w X.K X.mg x C fI fld) (hr : Room k X.A) (hk : 1 ≤ k) (ha : PA X [a] ta) (hg : Gl X x := by rfl) (hdb : (x == ("__debug__" : Str)) = false := by decide)
    (he : starEach (a :: []) X.env = (false, eval a X.env) :: starEach [] X.env := by rfl) (hpl : (backTo pos (starEach [] X.env)).any (·.1) = false := by rfl) :
    PS X (.Raise (some (.Call (.Name x p) [a] [] pos)) none pos2) (tRaiseF C fld W ta) := by
  refine ps_raise (t := fun σ H Q => ta σ H fun vs H1 => ∃ v, vs = [v] ∧ ShownV v ∧ ∀ d, H1 d = none → Q (.ref C) (some d) (upd H1 d (.xd [(fld, v)]))) hc tk ?_
  intro pins s σ H Q I h
  refine wpAny_Call_Name_kw (ld_glob I hg T.gC ?_ hdb)
  refine PySem.W.callWith_K (h₀ := X.base) I.ok.mod.kin T.sup.kC (thn (ha.run pos pins s σ H _ I h) fun us s1 hh => ?_) he hpl
  obtain ⟨vs, H1, I1, r1, v, ev, hsh, q1⟩ := hh
  subst ev
  refine ⟨I1.kIn, ?_⟩
  cases r1 with
  | @cons _ v' _ us' rv rn =>
    cases rn
    show wpAny _ _ (call (.ref C) [v']) _ _ _
    have hlim := I1.nolimit
    obtain ⟨mb, hB0, hB1⟩ := I1.mod.blt
    have hB : s1.heap.Ns builtinsNs mb := hB0.keeps I1.bk
    have hbs : mb "super" = some (.type "super") := (hB1 "super" (by decide)).trans (by decide +kernel)
    have hG : s1.heap.Ns mainGlobals X.mg := I1.mod.glob.keeps I1.bk
    have hsv : CcX.Shown v' := by
      rcases hsh with ⟨z, rfl, hz⟩ | ⟨i, rfl, hi⟩
      · obtain ⟨t, rfl⟩ := rv
        exact .inl ⟨z, t, rfl, hz⟩
      · obtain ⟨t, rfl⟩ := rv
        exact .inr ⟨i, t, rfl, hi⟩
    obtain ⟨hp, g, dr, tk', os⟩ := s1
    refine wpAny_call (CcX.sup_made T.sup hsv I1.kIn hlim hG hB hbs (by have := hr.dp; omega) fun h' tk2 e d M => ?_)
    show MkP X pins σ Q (.ref e) ⟨h', g, dr, tk2, os⟩
    obtain ⟨oe, fv, hoe, hcl, hd, hdat, h1⟩ := M.obj
    have hns := M.ns
    obtain ⟨G, g1, g2⟩ := restrict h' fun b => decide (b ≠ e)
    have gne : ∀ b, b ≠ e → G.get? b = h'.get? b := fun b hb => g1 b (decide_eq_true hb)
    have ge : G.get? e = none := g2 e (by simp)
    have old : ∀ b o, hp.get? b = some o → G.get? b = some o := fun b o q => (gne b (Nat.ne_of_lt (Nat.lt_of_lt_of_le (Heap.lt_size q) M.new))).trans (M.keep b o q)
    have ob : ObjOk X.prog X.w (upd H1 d (.xd [(fld, v)])) G d (.xd [(fld, v)]) := ⟨_, hns.at (fun o q => (gne d M.dne).trans q), fun f => relO_one rv fld f⟩
    have J : Inv X pins σ (upd H1 d (.xd [(fld, v)])) ⟨G, g, dr, tk2, os⟩ := I1.laid (t' := tk2) old M.dbig ob
    refine ⟨e, oe, fv, ⟨G, g, dr, tk2, os⟩, _, .ref C, some d, rfl, J, fun b o q => ?_, ge, hoe, ⟨hcl, hd⟩, hdat, h1, ?_, rfl, I1.bare, raises_own T.sup.exC T.sup.tyC, q1 d (I1.hok.fresh M.dbig)⟩
    · have q' : G.get? b = some o := q
      by_cases hb : b = e
      · rw [hb, ge] at q'; cases q'
      · exact (gne b hb).symm.trans q'
    · rw [upd_ne (Ne.symm M.dne)]
      exact I1.hok.fresh M.new
end
end Cc

/-! own classes: made, methods, properties, len, != -/
namespace Cc
open PySem L2 PyProof.Rows
/-- the class under the name x is called -/
def CMk (P : Program) (w : World) (K : Fg) (mg : Str → Option Value) (base : Heap) (CX : CXT) (n : Nat) (x : Str) (C : Addr) (ps : List Str) (sp : Sp) : Prop :=
  ∃ (f : Addr) (fd : FuncData), Mk K C f ∧ FnOk P w K mg base CX n f fd ps sp ∧ mg x = some (.ref C) ∧ L2.Binds K fd ps []
def CMet (P : Program) (w : World) (K : Fg) (mg : Str → Option Value) (base : Heap) (CX : CXT) (n : Nat) (C : Addr) (m : Str) (ps : List Str) (sp : Sp) : Prop :=
  ∃ (f : Addr) (fd : FuncData), Cls K C ∧ Meth K C m f ∧ FnOk P w K mg base CX n f fd ps sp ∧ L2.Binds K fd ps []
def CPrp (P : Program) (w : World) (K : Fg) (mg : Str → Option Value) (base : Heap) (CX : CXT) (n : Nat) (C : Addr) (f : Str) (sp : Sp) : Prop :=
  ∃ (p g : Addr) (fd : FuncData), Cls K C ∧ PropOf K C f p g ∧ FnOk P w K mg base CX n g fd ["self"] sp ∧ L2.Binds K fd ["self"] []
/-- nothing leaves -/
abbrev E0 : XK := fun _ _ _ => False
theorem passN {X : Cx} : Passes (L2.CX X.prog X.w) X E0 := passes_call LamX.takes0 fun _ _ _ _ h => h
section
variable {X : Cx} {CX : CXT} {n m : Nat} {x f mt : Str} {C : Addr} {ps : List Str} {sp : Sp} {E : XK} {e o : Expr} {es : List Expr} {t : TA} {ta : TE} {p pos apos : Pos}
theorem pe_mk (M : CMk X.prog X.w X.K X.mg X.base CX n x C ps sp) (hr : Room m X.A) (hx : Passes CX X E) (ha : PA X (e :: es) t) (hg : Gl X x := by rfl) (hn : n + 1 ≤ m := by decide)
    (hdb : (x == ("__debug__" : Str)) = false := by decide) (he : starEach (e :: es) X.env = (false, eval e X.env) :: starEach es X.env := by rfl) (hpl : (backTo pos (starEach es X.env)).any (·.1) = false := by rfl) : PE X (.Call (.Name x p) (e :: es) [] pos) (tMake C sp [] E t) := by
  obtain ⟨f, fd, M, F, hm, hb⟩ := M
  exact pe_make M F (hr.mono hn) hg hm hb .nil hx ha hdb he hpl
theorem pe_met {pl : Sem Bool} (M : CMet X.prog X.w X.K X.mg X.base CX n C mt ps sp) (hr : Room m X.A) (hx : Passes CX X E) (ho : PE X o ta) (ha : PA X (e :: es) t) (hn : n ≤ m := by decide)
    (hst : starEach (e :: es) X.env = (false, eval e X.env) :: starEach es X.env := by rfl) (hpl : (backTo pos (starEach es X.env)).any (·.1) = false := by rfl)
    (ht : eval (.Call (.Attribute o mt apos) (e :: es) [] pos) X.env = (do
      let ov ← eval o X.env
      standAt apos.atName
      let (f, first) ← holding [ov] (getMethod ov mt pl)
      callWith pos f first (backTo pos (starEach (e :: es) X.env)) (backToKw pos (keywordEach [] X.env))) := by rfl) : PE X (.Call (.Attribute o mt apos) (e :: es) [] pos) (tMeth C mt sp [] E ta t) := by
  obtain ⟨f, fd, c, hm, F, hb⟩ := M
  exact pe_meth ho c hm F (hr.mono hn) hb .nil hx ha hst hpl ht
theorem pe_prp (M : CPrp X.prog X.w X.K X.mg X.base CX n C f sp) (hr : Room m X.A) (hx : Passes CX X.nox E) (he : PE X e ta) (hn : n + 1 ≤ m := by decide) (hab : attributeBase e f X.env (eval e X.env) = eval e X.env := by rfl) : PE X (.Attribute e f pos) (tProp C sp [] E ta) := by
  obtain ⟨q, g, fd, c, hp, F, hb⟩ := M
  exact pe_prop he c hp F (hr.mono hn) hb .nil hx hab
/-- a call of a def that may raise -/
theorem pe_calS {W : WX} (K0 : Cal X.prog X.w X.K X.mg X.base (L2.CX X.prog X.w) n x ps sp) (hr : Room m X.A) (tk : Takes X W) (ha : PA X (e :: es) t) (hg : Gl X x := by rfl) (hn : n ≤ m := by decide)
    (hdb : (x == ("__debug__" : Str)) = false := by decide) (he : starEach (e :: es) X.env = (false, eval e X.env) :: starEach es X.env := by rfl) (hpl : (backTo pos (starEach es X.env)).any (·.1) = false := by rfl) : PE X (.Call (.Name x p) (e :: es) [] pos) (tCallS sp (WE W) t) := by
  obtain ⟨f, fd, F, hm, hk, hb⟩ := K0
  exact pe_callS F (hr.mono hn) hg hm hk hb (fun σ => passAt tk σ) ha hdb he hpl
/-! len(o) by an own __len__ -/
structure LenC (P : Program) (w : World) (K : Fg) (mg : Str → Option Value) (base : Heap) (n : Nat) (C : Addr) (sp : Sp) : Prop where
  run : ∃ (f : Addr) (fd : FuncData), FnOk P w K mg base CX0 n f fd ["self"] sp ∧ L2.Binds K fd ["self"] [] ∧ PySem.W.findIn K (.ref C) "__len__" = some (some (.ref f)) ∧ PySem.W.isFn K (.ref f) = true
def rLenI (C : Addr) (sp : Sp) : List V → Hp → VK → Prop := fun xs H Q => ∃ (a dx : Addr) (fs : List (Str × V)), xs = [.ref a] ∧ H a = some (.ins C dx fs) ∧ sp [.ref a] H (fun v H' => ∃ k : Int, v = .int k ∧ 0 ≤ k ∧ k < 2 ^ 63 ∧ Q v H') E0
theorem call_lenI (L : LenC X.prog X.w X.K X.mg X.base n C sp) (hr : Room m X.A) (hn : n + 1 ≤ m := by decide) : CallR X (.builtin "len") (rLenI C sp) := by
  intro pins s σ H xs us Q I r h
  obtain ⟨a, dx, fs, rfl, ea, h⟩ := h
  obtain ⟨f, fd, F, hb, hs, hf⟩ := L.run
  cases r with
  | cons rv rn =>
    cases rn
    cases rv
    obtain ⟨mA, O, _⟩ := ins_get I.hok ea
    obtain ⟨od, J, _⟩ := O.look
    obtain ⟨m', hF⟩ := I.fr
    refine PySem.W.len_K hF I.ok.mod.kin J hs hf ?_
    have hr1 : Room n X.A.in1 := (hr.mono hn).in1
    refine wpAny_call (codeAny_mono (F.run X.A.in1 X.stack s H ⟨[.ref a], []⟩ [.ref a] [.ref a] _ _ hr1 I.env0.in1 (by have := hb s [.ref a] I.kIn rfl; simpa using this) (.cons rfl .nil) h) fun r s' hq => ?_)
    cases r with
    | error e => exact (show False from hq).elim
    | ok fl =>
      cases fl with
      | ret u =>
        obtain ⟨v, H', I', rv, k, rfl, k0, k1, q⟩ := I.after hq
        obtain ⟨t, rfl⟩ := rv
        exact ⟨⟨k0, k1⟩, .int k, H', I'.tok _, ⟨_, rfl⟩, q⟩
      | next => exact False.elim hq
      | brk => exact False.elim hq
      | cont => exact False.elim hq
theorem ns_at {K : Fg} {h : Heap} {N : Addr} {mN : Str → Option Value} {y : Str} {v : Value} (kin : K.In h) (hns : h.Ns N mN) (e : PySem.W.nsIn K N y = some (some v)) : mN y = some v := by
  obtain ⟨o, es, ep, ho, hd, _, hf⟩ := hns
  unfold PySem.W.nsIn at e
  split at e
  · rename_i q
    have z := kin _ _ q
    rw [ho] at z
    cases z
    cases hd
    split at e
    · rename_i he
      cases e
      rw [← hf]
      unfold nsFind findBy
      rw [← Array.find?_toList, he]
      rfl
    · split at e <;> cases e
  · cases e
/-! o != u by an own __eq__ -/
structure NeC (P : Program) (w : World) (K : Fg) (mg : Str → Option Value) (base : Heap) (n : Nat) (C : Addr) (sp : Sp) : Prop where
  run : ∃ (f : Addr) (fd : FuncData), FnOk P w K mg base CX0 n f fd ["self", "other"] sp ∧ L2.Binds K fd ["self", "other"] [] ∧ PySem.W.typeIn K (.ref f) = some (.type "function") ∧
    ∃ nm q N bs hdct sn sub ab col dd k0 k1 k2 k3 k5 newId, K.lookup C = some (excClassObj nm q C N bs [.type "object"] hdct sn sub ab col dd k0 k1 k2 k3 k5 newId) ∧ PySem.W.nsOkIn K N = true ∧ PySem.W.nsIn K N "__eq__" = some (some (.ref f)) ∧ PySem.W.nsIn K N "__ne__" = some none
def rNeI (C : Addr) (sp : Sp) : R2 := fun x y H Q => ∃ (a b dx dy : Addr) (fs gs : List (Str × V)), x = .ref a ∧ y = .ref b ∧ H a = some (.ins C dx fs) ∧ H b = some (.ins C dy gs) ∧ sp [.ref a, .ref b] H (fun v H' => ∃ k : Bool, v = .bl k ∧ Q (.bl (!k)) H') E0
theorem op_neI (L : NeC X.prog X.w X.K X.mg X.base n C sp) (hr : Room m X.A) (hn : n + 1 ≤ m := by decide) : OpR X (compareOp .NotEq) (rNeI C sp) := by
  intro pins s σ H x y v u Q I rx ry h
  obtain ⟨a, b, dx, dy, fs, gs, rfl, rfl, ea, eb, h⟩ := h
  obtain ⟨f, fd, F, hb, hty, nm, q, N, bs, hdct, sn, sub, ab, col, dd, k0, k1, k2, k3, k5, newId, hC, hok, heq, hne⟩ := L.run
  cases rx
  cases ry
  obtain ⟨mA, O, _⟩ := ins_get I.hok ea
  obtain ⟨od, J, _⟩ := O.look
  obtain ⟨mB, O', _⟩ := ins_get I.hok eb
  obtain ⟨od', J', _⟩ := O'.look
  have XK := I.kIn
  have hns : s.heap.Ns N (s.heap.nsMap N) := Heap.Ns.of_isNs (PySem.W.isNs_of_in XK hok)
  have h1 : s.heap.nsMap N "__eq__" = some (.ref f) := ns_at XK hns heq
  have h2 : s.heap.nsMap N "__ne__" = none := PySem.W.ns_none_of XK hns hne
  obtain ⟨fo, hfo, hfc⟩ : ∃ fo, s.heap.get? f = some fo ∧ fo.cls = Value.type "function" := by
    have z : (List.lookup f X.K).map (·.cls) = some (Value.type "function") := hty
    rcases e : List.lookup f X.K with _ | fo
    · rw [e] at z; cases z
    · rw [e] at z; exact ⟨fo, XK _ _ e, Option.some.inj z⟩
  have ow : s.heap.OwnEqNoNe a C f "object" [.type "object"] :=
    ⟨_, fo, nm, q, N, bs, hdct, sn, sub, ab, col, dd, k0, k1, k2, k3, k5, newId, _, some (.builtin "object.__eq__"), J.at_, J.cls, XK _ _ hC, hns, h1, hfo, hfc, PySem.F.mro_object, by rw [typeLookup_type, builtinLookup_eq_fast]; kernel_rfl, h2⟩
  have hr1 : Room n X.A.in1 := (hr.mono hn).in1
  obtain ⟨hp, g, dr, tk, os⟩ := s
  refine compareOp_ne_ownEq PySem.F.cmp_object ow J'.at_ J'.cls (by have := hr.un; omega) ?_
  refine wpAny_call (codeAny_mono (F.run X.A.in1 X.stack _ H ⟨[.ref a, .ref b], []⟩ [.ref a, .ref b] [.ref a, .ref b] _ _ hr1 I.env0.in1 (by have := hb ⟨hp, g, dr, tk, os⟩ [.ref a, .ref b] I.kIn rfl; simpa using this) (.cons rfl (.cons rfl .nil)) h) fun r s' hq => ?_)
  cases r with
  | error e => exact (show False from hq).elim
  | ok fl =>
    cases fl with
    | ret u =>
      obtain ⟨v, H', I', rv, k, rfl, q⟩ := I.after hq
      cases rv
      exact ⟨k, rfl, .bl (!k), H', I', rfl, q⟩
    | next => exact False.elim hq
    | brk => exact False.elim hq
    | cont => exact False.elim hq
end
section
variable {K : Fg} {σ : L2.St} {H H' : Hp} {ta : TE} {t : TA} {d : D} {C : Addr} {ns : List Str} {ds es : List D} {f m : Str} {sp : Sp} {E : XK}
theorem lookup_none {fs : List (Str × V)} (hn : fs.map (·.1) = ns) (h : m ∉ ns) : fs.lookup m = none := by
  subst hn
  induction fs with
  | nil => rfl
  | cons p fs ih =>
    simp only [List.map_cons, List.mem_cons, not_or] at h
    have e : (m == p.1) = false := by simpa using h.1
    simp only [List.lookup, e]
    exact ih h.2
theorem lookup_at {fs : List (Str × V)} {w : V} : ∀ {i : Nat}, (fs.map (·.1)).Nodup → (fs.map (·.1))[i]? = some f → (fs.map (·.2))[i]? = some w → fs.lookup f = some w := by
  induction fs with
  | nil => intro i _ h1; simp at h1
  | cons p fs ih =>
    intro i hnd h1 h2
    cases i with
    | zero =>
      simp at h1 h2
      simp [List.lookup, h1, h2]
    | succ i =>
      have hnd' : p.1 ∉ fs.map (·.1) ∧ (fs.map (·.1)).Nodup := List.nodup_cons.mp hnd
      have hm : f ∈ fs.map (·.1) := List.mem_of_getElem? (by simpa using h1)
      have ne : (f == p.1) = false := by
        rw [beq_eq_false_iff_ne]
        rintro rfl
        exact hnd'.1 hm
      simp only [List.lookup, ne]
      exact ih hnd'.2 (by simpa using h1) (by simpa using h2)
/-- a property that hands a field out -/
theorem gd_prp {g : Str} {i : Nat} (h : GD K ta σ H (.ob C ns ds)) (hi : ns[i]? = some g) (hn : ns.Nodup) (hd : ds[i]? = some d) : GD K (tProp C (getSp C g) [] E ta) σ H d := fun H1 e Q q =>
  h H1 e _ fun v H2 e2 hv => by
    cases hv with
    | @ob a C dx fs ns ds ho hm ha =>
      subst hm
      obtain ⟨w, hw, hwd⟩ := ha.getD hd
      exact ⟨a, dx, fs, rfl, ho, a, dx, fs, w, rfl, ho, lookup_at hn hi hw, q w H2 e2 hwd⟩
theorem gd_meth (h : GD K ta σ H (.ob C ns ds)) (hm : m ∉ ns) (ha : GA K t σ H es) (hs : ∀ vs H1 Q, Same H H1 → Dns K H1 vs (.ob C ns ds :: es) → (∀ v H2, Same H1 H2 → Dn K H2 v d → Q v H2) → sp vs H1 Q E) : GD K (tMeth C m sp [] E ta t) σ H d := fun H1 e Q q =>
  h H1 e _ fun v H2 e2 hv => by
    have hv' := hv
    cases hv with
    | @ob a _ dx fs _ _ ho hnm hx =>
      refine ⟨a, dx, fs, rfl, ho, lookup_none hnm hm, ha H2 (e.trans e2) _ fun vs H3 e3 hvs => ?_⟩
      rw [List.append_nil]
      exact hs _ H3 Q ((e.trans e2).trans e3) (.cons (hv'.up e3) hvs) fun v H4 e4 hd => q v H4 ((e2.trans e3).trans e4) hd
theorem rc_lenI {k : Int} (h0 : 0 ≤ k) (h1 : k < 2 ^ 63) {α : Type} {args : α → List D} {pre : α → Prop} {res : α → D} (a : α) (ha : args a = [.ob C ns ds]) (hp : pre a) (hr : res a = .int k) : RCD K (rLenI C (spOf K args pre res)) [.ob C ns ds] (.int k) := fun vs H Q hv q => by
  obtain ⟨v, rfl, hw⟩ := hv.un1
  clear hv
  have hv' := hw
  cases hw with
  | @ob a' _ dx fs _ _ ho hnm hx =>
    refine ⟨a', dx, fs, rfl, ho, a, by rw [ha]; exact .cons hv' .nil, hp, fun v H2 e2 hd => ?_⟩
    rw [hr] at hd
    cases hd
    exact ⟨k, rfl, h0, h1, q _ H2 e2 (.int k)⟩
theorem r_neIns {b : Bool} {ns' : List Str} {es : List D} {α : Type} {args : α → List D} {pre : α → Prop} {res : α → D} (a : α) (ha : args a = [.ob C ns ds, .ob C ns' es]) (hp : pre a) (hr : res a = .bl b) : R2D K (rNeI C (spOf K args pre res)) (.ob C ns ds) (.ob C ns' es) (.bl (!b)) := fun x y H Q hx hy q => by
  have hx' := hx
  have hy' := hy
  cases hx with
  | @ob a1 _ dx fs _ _ ho hnm hfs =>
    cases hy with
    | @ob a2 _ dy gs _ _ ho2 hnm2 hgs =>
      refine ⟨a1, a2, dx, dy, fs, gs, rfl, rfl, ho, ho2, a, by rw [ha]; exact .cons hx' (.cons hy' .nil), hp, fun v H2 e2 hd => ?_⟩
      rw [hr] at hd
      cases hd
      exact ⟨b, rfl, q _ H2 e2 (.bl _)⟩
/-- C(..): what the new object becomes -/
theorem gd_make (ha : GA K t σ H es) (hs : ∀ vs H1 x dx Q, Same H H1 → Dns K H1 vs es → H1 x = none → H1 dx = none → dx ≠ x → (∀ H2 fs, Same H1 H2 → H2 x = some (.ins C dx fs) → fs.map (·.1) = ns → Dns K H2 (fs.map (·.2)) ds → Q .non H2) →
    sp (.ref x :: vs) (upd (upd H1 dx (.own x)) x (.ins C dx [])) Q E) : GD K (tMake C sp [] E t) σ H (.ob C ns ds) := fun H1 e Q q =>
  ha H1 e _ fun vs H2 e2 hv x dx hx hdx hne => by
    rw [List.append_nil]
    exact hs vs H2 x dx _ (e.trans e2) hv hx hdx hne fun H3 fs e3 ho hm hd => ⟨rfl, q _ H3 (e2.trans e3) (.ob ho hm hd)⟩
theorem gd_calS {W : WX} (ha : GA K t σ H es) (hs : ∀ vs H1 Q, Same H H1 → Dns K H1 vs es → (∀ v H2, Same H1 H2 → Dn K H2 v d → Q v H2) → sp vs H1 Q (WE W σ)) : GD K (tCallS sp (WE W) t) σ H d := fun H1 e Q q =>
  ha H1 e _ fun vs H2 e2 hv => hs vs H2 Q (e.trans e2) hv fun v H3 e3 hd => q v H3 (e2.trans e3) hd
end
end Cc

namespace My
open PySem L2 RZ Cc
abbrev storeNs : List Str := ["_places", "_size", "_doors", "_crates"]
def storeDs (l : List (Int × Int)) (e : D) : List D := [.tup (placesFrom 0 l), .int (sizeOf l), doorsD l, e]
def storeD (C : Addr) (l : List (Int × Int)) (e : D) : D := .ob C storeNs (storeDs l e)
/-- what the top says of the class Store and its errors -/
structure TxtS (P : Program) (w : World) (K : Fg) (mg : Str → Option Value) (C CI fI CP CD : Addr) : Prop extends Txt2 K mg where
  cls : Cls K C
  nPl : NoAttr K C "_places"
  nSz : NoAttr K C "_size"
  nDo : NoAttr K C "_doors"
  nCr : NoAttr K C "_crates"
  g_Store : Cst mg "Store" (.ref C)
  x_InvalidStore : ErrF P w K mg "InvalidStore" CI fI "part"
  x_UnknownDoor : ErrT K mg "UnknownDoor" CD
section
variable {P : Program} {w : World} {K : Fg} {mg : Str → Option Value} {base : Heap} {C CI fI CP CD : Addr}
/-! Store.__len__ -/
abbrev spLenS (K : Fg) (C : Addr) : Sp := spOf (α := List (Int × Int) × D) K (fun a => [storeD C a.1 a.2]) (fun a => a.1.length ≤ 100000) fun a => .int (a.1.length : Nat)
theorem ok_len {f : Addr} {fd : FuncData} (F : Fun K "__len__" "Store.__len__" s_Store___len__ f fd) (T : TxtS P w K mg C CI fI CP CD) : FnOk P w K mg base CX0 1 f fd ["self"] (spLenS K C) := by
  refine F.ok sc_Store___len__ (fun vs H Q E h => ?_) (fun cdv A outer s H vs Q E hr h => ?_)
  · obtain ⟨a, h, _⟩ := h
    exact h.length
  · obtain ⟨⟨l, e⟩, hv, hp, k⟩ := h
    obtain ⟨v, rfl, hv1⟩ := hv.un1
    refine ⟨_, (pss_one (ps_ret (pe_callB (lenK K) (by rfl) T.len PySem.boot_len (pa_cons (pe_fK K (pv 0)) pa_nil)))), ?_⟩
    refine s_retK (k.up (.refl _)) (gd_cb (ga1 (gd_fld (C := C) (ns := storeNs) (gd_var rfl hv1) T.cls T.nDo (i := 2) rfl (by decide) rfl)) (rc_len (d := doorsD l) (n := l.length) ?_ (by simpa using hp)))
    simp [doorsD, D.len]
/-! has_door, check_door -/
def isDoorNum (d : D) (n : Nat) : Bool := isNum d 0 ((n : Int) - 1)
abbrev spHasDoor (K : Fg) (C : Addr) : Sp := spOf (α := List (Int × Int) × D × D) K (fun a => [storeD C a.1 a.2.1, a.2.2]) (fun a => a.1.length ≤ 100000 ∧ a.2.2.noob = true) fun a => .bl (isDoorNum a.2.2 a.1.length)
theorem ok_has_door {f : Addr} {fd : FuncData} (F : Fun K "has_door" "has_door" s_has_door f fd) (T : TxtS P w K mg C CI fI CP CD) (C_is_number : Cal P w K mg base CX0 1 "is_number" ["value", "low", "high"] (spIsNumber K)) (L_Store : LenC P w K mg base 1 C (spLenS K C)) : FnOk P w K mg base CX0 3 f fd ["store", "door"] (spHasDoor K C) := by
  refine F.ok sc_has_door (fun vs H Q E h => ?_) (fun cdv A outer s H vs Q E hr h => ?_)
  · obtain ⟨a, h, _⟩ := h
    exact h.length
  · obtain ⟨⟨l, e, d⟩, hv, ⟨hp, hp2⟩, k⟩ := h
    obtain ⟨v, x, rfl, hv, hx⟩ := hv.un2
    refine ⟨_, (pss_one (ps_ret (pe_cal C_is_number hr pass0 (pa_cons (pv 1) (pa_cons pe_int (pa_cons (pe_op op_sub (pe_callB (call_lenI L_Store hr) (by rfl) T.len PySem.boot_len (pa_cons (pv 0) pa_nil)) pe_int) pa_nil)))))), ?_⟩
    refine s_retK (k.up (.refl _)) (gd_call (d, 0, (l.length : Int) - 1) (ga_cons (gd_var rfl hx) (ga2 gd_i (gd_op (gd_cb (ga1 (gd_var rfl hv)) (rc_lenI (k := (l.length : Nat)) (by omega) (by have : l.length ≤ 100000 := hp; omega) (l, e) rfl hp rfl)) gd_i r_int))) hp2)
def spCheckDoor (K : Fg) (C CD : Addr) : Sp := fun vs H Q E => ∃ (l : List (Int × Int)) (e d : D), Dns K H vs [storeD C l e, d] ∧ l.length ≤ 100000 ∧ d.noob = true ∧ (isDoorNum d l.length = true → ∀ H', Same H H' → Q .non H') ∧ (isDoorNum d l.length = false → ∀ H', Same H H' → E (.ref CD) none H')
theorem ok_check_door {f : Addr} {fd : FuncData} (F : Fun K "check_door" "check_door" s_check_door f fd) (T : TxtS P w K mg C CI fI CP CD) (C_has_door : Cal P w K mg base CX0 3 "has_door" ["store", "door"] (spHasDoor K C)) : FnOk P w K mg base (L2.CX P w) 4 f fd ["store", "door"] (spCheckDoor K C CD) := by
  refine F.okX sc_check_door (fun vs H Q E h => ?_) (fun cdv A outer s H vs Q E hr h => ?_)
  · obtain ⟨l, e, d, h, _⟩ := h
    exact h.length
  · obtain ⟨l, e, d, hv, hp, hp2, k1, k2⟩ := h
    obtain ⟨v, x, rfl, hv, hx⟩ := hv.un2
    refine ⟨_, (pss_one (ps_if (pt_not (pt_val (pe_cal C_has_door hr pass0 (pa_cons (pv 0) (pa_cons (pv 1) pa_nil))))) (pss_one (ps_raiseT rfl (takes_of rfl rfl rfl rfl) T.x_UnknownDoor)) pss_nil)), ?_⟩
    refine s_when (b := !isDoorNum d l.length) (gt_not (gt_B (gd_call (l, e, d) (ga2 (gd_var rfl hv) (gd_var rfl hx)) ⟨hp, hp2⟩))) (fun h H1 e1 => ?_) (fun h H1 e1 => ?_)
    · exact k2 (by simpa using h) H1 e1
    · exact k1 (by simpa using h) H1 e1
end
end My

/-! fields of a new instance, stored one by one -/
namespace Cc
open PySem L2
mutual
/-- only plain values and tuples -/
def D.imm : D → Bool
  | .lst _ => false
  | .tup ds => D.imms ds
  | .ob _ _ _ => false
  | .ptup _ => false
  | _ => true
def D.imms : List D → Bool
  | [] => true
  | d :: ds => d.imm && D.imms ds
end
theorem D.imms_iff {ds : List D} : D.imms ds = true ↔ ∀ d ∈ ds, d.imm = true := by
  induction ds with
  | nil => simp [D.imms]
  | cons d ds ih => simp [D.imms, ih]
section
variable {K : Fg} {H H' : Hp}
mutual
theorem Dn.byT (e : ∀ a xs, SqT K H a xs → SqT K H' a xs) : ∀ (d : D) (v : V), d.imm = true → Dn K H v d → Dn K H' v d
  | .non, _, _, h => by cases h; exact .non
  | .bl b, _, _, h => by cases h; exact .bl b
  | .int i, _, _, h => by cases h; exact .int i
  | .str x, _, _, h => by cases h; exact .str x
  | .lst _, _, f, _ => by cases f
  | .ob _ _ _, _, f, _ => by cases f
  | .ptup _, _, f, _ => by cases f
  | .tup ds, _, f, h => by
    cases h with
    | tup hs ha => exact .tup (e _ _ hs) (Dns.byT e ds _ f ha)
theorem Dns.byT (e : ∀ a xs, SqT K H a xs → SqT K H' a xs) : ∀ (ds : List D) (vs : List V), D.imms ds = true → Dns K H vs ds → Dns K H' vs ds
  | [], _, _, h => by cases h; exact .nil
  | d :: ds, _, f, h => by
    cases h with
    | cons h1 h2 =>
      have f' : d.imm = true ∧ D.imms ds = true := by simpa [D.imms] using f
      exact .cons (Dn.byT e d _ f'.1 h1) (Dns.byT e ds _ f'.2 h2)
end
theorem sqT_upd {x C dx : Addr} {fs : List (Str × V)} {o : HO} (hx : H x = some (.ins C dx fs)) : ∀ a xs, SqT K H a xs → SqT K (upd H x o) a xs := fun a xs h => by
  have ne : ∀ u, H a = some u → (∀ C dx fs, u ≠ .ins C dx fs) → a ≠ x := fun u hu n z => by
    subst z
    rw [hx] at hu
    exact n _ _ _ (Option.some.inj hu).symm
  rcases h with (h | ⟨q, h⟩) | h
  · exact .inl (.inl (by rw [upd_ne (ne _ h fun _ _ _ z => by cases z)]; exact h))
  · exact .inl (.inr ⟨q, by rw [upd_ne (ne _ h fun _ _ _ z => by cases z)]; exact h⟩)
  · exact .inr h
theorem putF_new {f : Str} {v : V} : ∀ {fs : List (Str × V)}, f ∉ fs.map (·.1) → putF f v fs = fs ++ [(f, v)]
  | [], _ => rfl
  | (g, x) :: r, h => by
    simp only [List.map_cons, List.mem_cons, not_or] at h
    have e : ¬ g = f := fun z => h.1 z.symm
    simp only [putF, if_neg e, List.cons_append]
    rw [putF_new h.2]
variable {σ : L2.St} {to te : TE} {d : D} {ds : List D} {ns : List Str} {f : Str} {E : Ends}
theorem s_fldN {x C dx : Addr} {fs : List (Str × V)} (ho : ∀ H1, Same H H1 → ∀ Q : VK, Q (.ref x) H1 → to σ H1 Q) (he : GD K te σ H d) (hx : H x = some (.ins C dx fs)) (hm : fs.map (·.1) = ns) (hd : Dns K H (fs.map (·.2)) ds) (hi : D.imms ds = true) (hi2 : d.imm = true) (hf : f ∉ ns) (hl : ns.length < 900)
    (c : Cls K C) (n : NoAttr K C f) (k : ∀ H2 fs', But [x] H H2 → H2 x = some (.ins C dx fs') → fs'.map (·.1) = ns ++ [f] → Dns K H2 (fs'.map (·.2)) (ds ++ [d]) → E.nx σ H2) : sFld K to te f E σ H :=
  he H (Same.refl _) _ fun v H1 e1 hv => ho H1 e1 _ (by
    have hx1 := e1 _ _ hx
    have hle : fs.length < 1000 := by
      have : fs.length = ns.length := by rw [← hm]; simp
      omega
    refine ⟨x, C, dx, fs, rfl, hx1, c, n, hle, ?_⟩
    rw [putF_new (by rw [hm]; exact hf)]
    refine k _ _ ((But.of e1).trans (But.upd (by simp))) upd_same (by simp [hm]) ?_
    rw [List.map_append]
    exact Dns.app (Dns.byT (sqT_upd hx1) ds _ hi (hd.up e1)) (.one (Dn.byT (sqT_upd hx1) d v hi2 hv)))
theorem s_raiseS {C : Addr} {fld z : Str} {W : WX} {j : TA} (hz : z.length ≤ 1000) (k : ∀ dd, H dd = none → W (.ref C) (some dd) σ (upd H dd (.xd [(fld, .str z)]))) : tRaiseF C fld W (tCons (tC (.str z)) tNil) E σ H :=
  ⟨.str z, rfl, .inl ⟨z, rfl, hz⟩, k⟩
end
end Cc

namespace My
open PySem L2 RZ Cc
theorem imms_places : ∀ (l : List (Int × Int)) (b : Int), D.imms (placesFrom b l) = true
  | [], _ => rfl
  | p :: r, b => by
    have h : D.imms ((List.range p.2.toNat).map fun k => D.int (b + (k : Nat))) = true := D.imms_iff.mpr fun d hd => by
      obtain ⟨k, _, rfl⟩ := List.mem_map.mp hd
      rfl
    simp only [placesFrom, D.imms, D.imm, imms_places r, h, Bool.and_self]
theorem imm_doors (l : List (Int × Int)) : (doorsD l).imm = true := D.imms_iff.mpr fun d hd => by
  obtain ⟨k, _, rfl⟩ := List.mem_map.mp hd
  rfl
theorem imm_crates {e : D} {n : Int} (h : cratesFit e n = true) : e.imm = true := by
  cases e with
  | tup ds =>
    simp only [cratesFit, Bool.and_eq_true, List.all_eq_true] at h
    refine D.imms_iff.mpr fun d hd => ?_
    have := h.1.2 d hd
    cases d <;> first | rfl | cases this
  | _ => cases h
theorem lens_places : ∀ (l : List (Int × Int)) (b : Int), (∀ p ∈ l, 0 ≤ p.2) → (placesFrom b l).map (fun d => D.int (match d with | .tup ds => ds.length | _ => 0 : Nat)) = (l.map (·.2)).map D.int
  | [], _, _ => rfl
  | p :: r, b, h => by
    have h0 := h p List.mem_cons_self
    have e : ((p.2.toNat : Nat) : Int) = p.2 := by omega
    simp only [placesFrom, List.map_cons, lens_places r (b + p.2) fun q hq => h q (List.mem_cons_of_mem _ hq), List.length_map, List.length_range, e]
theorem len_places : ∀ (l : List (Int × Int)) (b : Int), (placesFrom b l).length = l.length
  | [], _ => rfl
  | p :: r, b => by simp [placesFrom, len_places r]
theorem mem_places {d : D} : ∀ (l : List (Int × Int)) (b : Int), (∀ p ∈ l, p.2 ≤ 100) → d ∈ placesFrom b l → ∃ ds, d = .tup ds ∧ ds.length ≤ 100
  | [], _, _, h => by cases h
  | p :: r, b, hb, h => by
    rcases List.mem_cons.mp h with rfl | h
    · exact ⟨_, rfl, by have := hb p List.mem_cons_self; simp; omega⟩
    · exact mem_places r _ (fun q hq => hb q (List.mem_cons_of_mem _ hq)) h
section
variable {P : Program} {w : World} {K : Fg} {mg : Str → Option Value} {base : Heap} {C CI fI CP CD : Addr}
def spInit (K : Fg) (C CI : Addr) : Sp := fun vs H Q E => ∃ (H1 : Hp) (x dx : Addr) (vd ve : V) (d e : D), vs = [.ref x, vd, ve] ∧ H1 x = none ∧ H1 dx = none ∧ dx ≠ x ∧ H = upd (upd H1 dx (.own x)) x (.ins C dx []) ∧ Dn K H1 vd d ∧ Dn K H1 ve e ∧ doorsOk d = true ∧ cratesOk e = true ∧
  (doorsFit d = false → ∀ H2 dd, Same H1 H2 → H2 dd = some (.xd [("part", .str "doors")]) → E (.ref CI) (some dd) H2) ∧
  (∀ l, d = doorsD l → GoodDoors l → cratesFit e (sizeOf l) = false → ∀ H2 dd, Same H1 H2 → H2 dd = some (.xd [("part", .str "crates")]) → E (.ref CI) (some dd) H2) ∧
  (∀ l, d = doorsD l → GoodDoors l → cratesFit e (sizeOf l) = true → ∀ H2 fs, Same H1 H2 → H2 x = some (.ins C dx fs) → fs.map (·.1) = storeNs → Dns K H2 (fs.map (·.2)) (storeDs l e) → Q .non H2)
theorem ok_init {f : Addr} {fd : FuncData} (F : Fun K "__init__" "Store.__init__" s_Store___init__ f fd) (T : TxtS P w K mg C CI fI CP CD) (C_doors_fit : Cal P w K mg base CX0 3 "doors_fit" ["doors"] (spDoorsFit K)) (C_places_behind : Cal P w K mg base CX0 1 "places_behind" ["doors"] (spPlacesBehind K))
    (C_crates_fit : Cal P w K mg base CX0 3 "crates_fit" ["crates", "size"] (spCratesFit K)) : FnOk P w K mg base (L2.CX P w) 4 f fd ["self", "doors", "crates"] (spInit K C CI) := by
  refine F.okX sc_Store___init__ (fun vs H Q E h => ?_) (fun cdv A outer s H vs Q E hr h => ?_)
  · obtain ⟨_, _, _, _, _, _, _, rfl, _⟩ := h
    rfl
  · obtain ⟨H0, x, dx, vd, ve, d, e, rfl, hx0, hdx0, hne, rfl, hd, he, ok1, ok2, k1, k2, k3⟩ := h
    refine ⟨_, (pss_cons (ps_if (pt_not (pt_val (pe_cal C_doors_fit hr pass0 (pa_cons (pv 1) pa_nil)))) (pss_one (ps_raiseF rfl (takes_of rfl rfl rfl rfl) T.x_InvalidStore hr (by decide) (pa_cons pe_str pa_nil))) pss_nil)
      (pss_cons (ps_fld (pv 0) (pe_cal C_places_behind hr pass0 (pa_cons (pv 1) pa_nil)) rfl)
      (pss_cons (ps_fld (pv 0) (pe_callB (sumK K) (by rfl) T.sum (by decide +kernel) (pa_cons (pe_lc (own := [("places", 3)]) (g := gName 3) rfl sc_Store___init__.nd (pi_tK K (pe_fK K (pv 0))) (blkOk_by (own := [("places", 3)]) (N := ["self", "doors", "crates", "places"]) (sc := defScope s_Store___init__) (by decide +kernel)) (fun _ _ _ _ _ => (pg_name (i := 3) sc_Store___init__.nd rfl (Or.inl rfl))) (fun _ _ _ _ _ => pts_nil) (fun _ _ _ _ _ => (pe_callB (lenK K) (by rfl) T.len PySem.boot_len (pa_cons (pv 3) pa_nil)))) pa_nil)) rfl)
      (pss_cons (ps_if (pt_not (pt_val (pe_cal C_crates_fit hr pass0 (pa_cons (pv 2) (pa_cons (pe_fK K (pv 0)) pa_nil))))) (pss_one (ps_raiseF rfl (takes_of rfl rfl rfl rfl) T.x_InvalidStore hr (by decide) (pa_cons pe_str pa_nil))) pss_nil)
      (pss_cons (ps_fld (pv 0) (pv 1) rfl)
      (pss_one (ps_fld (pv 0) (pv 2) rfl))))))), ?_⟩
    have e0 : Same H0 (upd (upd H0 dx (.own x)) x (.ins C dx [])) := (Same.new hdx0).trans (Same.new (by rw [upd_ne hne.symm]; exact hx0))
    have hx1 : (upd (upd H0 dx (.own x)) x (.ins C dx [])) x = some (.ins C dx []) := upd_same
    generalize upd (upd H0 dx (.own x)) x (.ins C dx []) = H1 at e0 hx1 ⊢
    refine s_when (b := !doorsFit d) (gt_not (gt_B (gd_call d (ga1 (gd_var rfl (hd.up e0))) ok1))) (fun h H2 e2 => ?_) (fun h H2 e2 => ?_)
    · refine s_raiseS (j := tNil) (by decide) fun dd hdd => k1 (by simpa using h) _ dd (((e0.trans e2)).trans (Same.new hdd)) upd_same
    · obtain ⟨l, rfl, G⟩ := doorsFit_iff (by simpa using h : doorsFit d = true)
      have g1 : ∀ p ∈ l, 0 ≤ p.2 ∧ p.2 ≤ 100 := fun p hp => by have := G.each p hp; omega
      have sx : ∀ {Ha Hb : Hp}, Same H0 Ha → But [x] Ha Hb → Same H0 Hb := fun {Ha Hb} a b => But.fresh a b fun m hm => by rw [List.mem_singleton.mp hm]; exact hx0
      dsimp only
      refine s_fldN (K := K) (x := x) (d := .tup (placesFrom 0 l)) (at_var rfl) (gd_call l (ga1 (gd_var rfl (hd.up (e0.trans e2)))) ⟨by have := G.hi; omega, g1⟩) (e2 _ _ hx1) rfl .nil rfl (imms_places l 0) (by decide) (by decide) T.cls T.nPl fun H3 fs3 b3 hx3 hn3 hd3 => ?_
      have e3 := sx (e0.trans e2) b3
      dsimp only
      have self3 : ∀ {Hc : Hp}, Same H3 Hc → Dn K Hc (.ref x) (.ob C ["_places"] [.tup (placesFrom 0 l)]) := fun {Hc} q => (Dn.ob hx3 hn3 hd3).up q
      have hin : ∀ p ∈ l, 0 ≤ p.2 := fun p hp => (g1 p hp).1
      refine s_fldN (K := K) (x := x) (d := .int (sizeOf l)) (at_var rfl) ?_ hx3 hn3 hd3 (imms_places l 0 |> fun q => by simp [D.imms, D.imm, q]) rfl (by decide) (by decide) T.cls T.nSz fun H4 fs4 b4 hx4 hn4 hd4 => ?_
      · refine gd_cb (ga1 (GN.gd (gn_map (K := K) (ds := placesFrom 0 l) (fun d => D.int (match d with | .tup ds => ds.length | _ => 0 : Nat)) (fun Hc c => gi_tupC (gd_fld (C := C) (ns := ["_places"]) (gd_var rfl (self3 c)) T.cls T.nPl (i := 0) rfl (by decide) rfl)) (by rw [len_places]; have := G.hi; omega) (fun _ => rfl) (fun _ _ => rfl) ?_) |>.is (by rw [lens_places l 0 hin]))) rc_sum
        intro d y Hc hd c hy
        obtain ⟨ds, rfl, hl⟩ := mem_places l 0 (fun p hp => (g1 p hp).2) hd
        exact gd_cb (ga1 (gd_var rfl hy)) (rc_len (d := .tup ds) (n := ds.length) rfl (by omega))
      have e4 := sx e3 b4
      dsimp only
      refine s_when (b := !cratesFit e (sizeOf l)) (gt_not (gt_B (gd_call (e, sizeOf l) (ga2 (gd_var rfl (he.up e4)) (gd_fld (C := C) (ns := ["_places", "_size"]) (gd_var rfl (Dn.ob hx4 hn4 hd4)) T.cls T.nSz (i := 1) rfl (by decide) rfl)) ok2))) (fun h H5 e5 => ?_) (fun h H5 e5 => ?_)
      · refine s_raiseS (j := tNil) (by decide) fun dd hdd => k2 l rfl G (by simpa using h) _ dd (((e4.trans e5)).trans (Same.new hdd)) upd_same
      · have hce : cratesFit e (sizeOf l) = true := by simpa using h
        have e45 := e4.trans e5
        dsimp only
        refine s_fldN (K := K) (x := x) (d := doorsD l) (at_var rfl) (gd_var rfl (hd.up e45)) (e5 _ _ hx4) hn4 (hd4.up e5) (by simp [D.imms, D.imm, imms_places l 0]) (imm_doors l) (by decide) (by decide) T.cls T.nDo fun H6 fs6 b6 hx6 hn6 hd6 => ?_
        have e6 := sx e45 b6
        dsimp only
        refine s_fldN (K := K) (x := x) (d := e) (at_var rfl) (gd_var rfl (he.up e6)) hx6 hn6 hd6 (by simp [D.imms, D.imm, imms_places l 0, imm_doors l]) (imm_crates hce) (by decide) (by decide) T.cls T.nCr fun H7 fs7 b7 hx7 hn7 hd7 => ?_
        exact k3 l rfl G hce H7 fs7 (sx e6 b7) hx7 hn7 hd7
end
end My

namespace My
open PySem L2 RZ Cc
/-- the door of a place -/
def doorAt : List (Int × Int) → Int → Nat
  | [], _ => 0
  | p :: r, i => if i < p.2 then 0 else doorAt r (i - p.2) + 1
theorem doorAt_lt : ∀ (l : List (Int × Int)) (i : Int), 0 ≤ i → i < sizeOf l → (∀ p ∈ l, 1 ≤ p.2) → doorAt l i < l.length
  | [], i, h0, h, _ => by simp [sizeOf] at h; omega
  | p :: r, i, h0, h, hp => by
    unfold doorAt
    split
    · simp
    · have h' : i - p.2 < sizeOf r := by simp [sizeOf] at h ⊢; omega
      have := doorAt_lt r (i - p.2) (by omega) h' fun q hq => hp q (List.mem_cons_of_mem _ hq)
      simp; omega
/-- the places behind the door j: the places that have it -/
theorem places_get : ∀ (l : List (Int × Int)) (b : Int) (j : Nat), (∀ p ∈ l, 1 ≤ p.2) → j < l.length → ∃ ns : List Int, (placesFrom b l)[j]? = some (.tup (ns.map D.int)) ∧ ns.length ≤ (l.map (·.2.toNat)).sum ∧ ∀ i, 0 ≤ i → (b + i ∈ ns ↔ i < sizeOf l ∧ doorAt l i = j)
  | [], _, _, _, h => by simp at h
  | p :: r, b, 0, hp, h => by
    have h1 := hp p List.mem_cons_self
    refine ⟨(List.range p.2.toNat).map fun k => b + (k : Nat), by simp [placesFrom, List.map_map, Function.comp_def], by simp, fun i hi => ?_⟩
    unfold doorAt
    have hs : 0 ≤ sizeOf r := by
      clear h hi
      have : ∀ m : List (Int × Int), (∀ q ∈ m, 1 ≤ q.2) → 0 ≤ sizeOf m := fun m => by
        induction m with
        | nil => intro _; simp [sizeOf]
        | cons q m ih =>
          intro hq
          have h2 := hq q List.mem_cons_self
          have h3 := ih fun q' hq' => hq q' (List.mem_cons_of_mem _ hq')
          simp [sizeOf] at h3 ⊢; omega
      exact this r fun q hq => hp q (List.mem_cons_of_mem _ hq)
    have e : sizeOf (p :: r) = p.2 + sizeOf r := by simp [sizeOf]
    simp only [List.mem_map, List.mem_range]
    constructor
    · rintro ⟨k, hk, hk2⟩
      have : i = (k : Nat) := by omega
      have hlt : i < p.2 := by omega
      exact ⟨by omega, by rw [if_pos hlt]⟩
    · rintro ⟨h1, h2⟩
      split at h2
      · exact ⟨i.toNat, by omega, by omega⟩
      · omega
  | p :: r, b, j + 1, hp, h => by
    have h1 := hp p List.mem_cons_self
    obtain ⟨ns, g1, g2, g3⟩ := places_get r (b + p.2) j (fun q hq => hp q (List.mem_cons_of_mem _ hq)) (by simpa using h)
    refine ⟨ns, by simpa [placesFrom] using g1, by simp; omega, fun i hi => ?_⟩
    have e : sizeOf (p :: r) = p.2 + sizeOf r := by simp [sizeOf]
    unfold doorAt
    by_cases hlt : i < p.2
    · rw [if_pos hlt]
      constructor
      · intro hm
        exfalso
        have key : ∀ (r : List (Int × Int)) (b : Int) (j : Nat) (d : D) (ns : List Int) (x : Int), (∀ q ∈ r, 1 ≤ q.2) → (placesFrom b r)[j]? = some (.tup (ns.map D.int)) → x ∈ ns → b ≤ x := by
          intro r
          induction r with
          | nil => intro b j d ns x _ h; simp [placesFrom] at h
          | cons q r ih =>
            intro b j d ns x hq h hx
            cases j with
            | zero =>
              simp only [placesFrom, List.getElem?_cons_zero, Option.some.injEq, D.tup.injEq] at h
              have hx' : D.int x ∈ ns.map D.int := List.mem_map_of_mem hx
              rw [← h] at hx'
              obtain ⟨k, _, hk⟩ := List.mem_map.mp hx'
              cases hk
              omega
            | succ j =>
              have := ih (b + q.2) j d ns x (fun q' h' => hq q' (List.mem_cons_of_mem _ h')) (by simpa [placesFrom] using h) hx
              have := hq q List.mem_cons_self
              omega
        have := key r (b + p.2) j .non ns (b + i) (fun q hq => hp q (List.mem_cons_of_mem _ hq)) g1 hm
        omega
      · rintro ⟨_, h2⟩; omega
    · rw [if_neg hlt]
      have := g3 (i - p.2) (by omega)
      have eb : b + p.2 + (i - p.2) = b + i := by omega
      rw [eb] at this
      rw [this, e]
      constructor
      · rintro ⟨a, c⟩; exact ⟨by omega, by omega⟩
      · rintro ⟨a, c⟩; exact ⟨by omega, by omega⟩
section
variable {P : Program} {w : World} {K : Fg} {mg : Str → Option Value} {base : Heap} {C CI fI CP CD : Addr}
theorem inV_int {i : Int} {ns : List Int} : inV (.int i) (ns.map V.int) = decide (i ∈ ns) := by
  unfold inV
  rw [List.any_map]
  induction ns with
  | nil => simp
  | cons n ns ih =>
    simp only [List.any_cons, Function.comp, eqV] at ih ⊢
    rw [ih]
    by_cases h : n = i
    · subst h; simp
    · have h' : ¬ i = n := fun z => h z.symm
      simp [h, h']
theorem r_niI {i : Int} {ns : List Int} : R2D K (rIn K true) (.int i) (.tup (ns.map D.int)) (.bl (!decide (i ∈ ns))) := fun x y H Q hx hy q => by
  cases hx
  cases hy with
  | @tup a xs ds hs hd =>
    have e := dns_ints hd
    subst e
    refine ⟨a, _, rfl, .inr hs, rfl, by simp [flatV], ?_⟩
    rw [inV_int]
    exact q _ H (Same.refl _) (.bl _)
theorem isNum_int {d : D} {lo hi : Int} (h : isNum d lo hi = true) : ∃ i, d = .int i ∧ lo ≤ i ∧ i ≤ hi := by
  cases d <;> simp [isNum] at h
  exact ⟨_, rfl, h.1, h.2⟩
/-! places_of -/
def spPlacesOf (K : Fg) (C CD : Addr) : Sp := fun vs H Q E => ∃ (l : List (Int × Int)) (e d : D), Dns K H vs [storeD C l e, d] ∧ GoodDoors l ∧ d.noob = true ∧
  (∀ (j : Nat) z, d = .int (j : Nat) → (placesFrom 0 l)[j]? = some z → Ret K z H Q) ∧ (isDoorNum d l.length = false → ∀ H', Same H H' → E (.ref CD) none H')
theorem ok_places_of {f : Addr} {fd : FuncData} (F : Fun K "places_of" "Store.places_of" s_Store_places_of f fd) (T : TxtS P w K mg C CI fI CP CD) (C_check_door : Cal P w K mg base (L2.CX P w) 4 "check_door" ["store", "door"] (spCheckDoor K C CD)) : FnOk P w K mg base (L2.CX P w) 5 f fd ["self", "door"] (spPlacesOf K C CD) := by
  refine F.okX sc_Store_places_of (fun vs H Q E h => ?_) (fun cdv A outer s H vs Q E hr h => ?_)
  · obtain ⟨l, e, d, h, _⟩ := h
    exact h.length
  · obtain ⟨l, e, d, hv, G, hp2, k1, k2⟩ := h
    obtain ⟨v, x, rfl, hw, hx⟩ := hv.un2
    refine ⟨_, (pss_cons (ps_expr (pe_calS C_check_door hr (takes_of rfl rfl rfl rfl) (pa_cons (pv 0) (pa_cons (pv 1) pa_nil))))
      (pss_one (ps_ret (pe_ix (ixT K) (pe_fK K (pv 0)) (pv 1) (fun _ _ => rfl))))), ?_⟩
    refine ⟨_, rfl, _, rfl, l, e, d, .cons hw (.cons hx .nil), by have := G.hi; omega, hp2, fun hok H1 e1 => ?_, fun hok H1 e1 => k2 hok H1 e1⟩
    obtain ⟨i, rfl, h0, h1⟩ := isNum_int (show isNum d 0 ((l.length : Int) - 1) = true from hok)
    obtain ⟨j, rfl⟩ : ∃ j : Nat, i = j := ⟨i.toNat, by omega⟩
    have hj : j < l.length := by omega
    obtain ⟨ns, g1, _⟩ := places_get l 0 j (fun p hp => (G.each p hp).2.2.1) hj
    dsimp only
    exact s_retK ((k1 j _ rfl g1).up e1) (gd_op (gd_fld (C := C) (ns := storeNs) (gd_var rfl (hw.up e1)) T.cls T.nPl (i := 0) rfl (by decide) rfl) (gd_var rfl (hx.up e1)) (r_ixT (atI_nat g1)))
/-! == -/
theorem r_isiO {ns : List Str} {ds : List D} (c : Cls K C) (h1 : PySem.W.findIn K (.ref C) "__class__" = some (some (.builtin "object.__class__"))) (h2 : PySem.W.specialIn K (.builtin "object.__class__") "__get__" = some (some (.builtin "getset_descriptor.__get__"))) (h3 : PySem.W.takesIn K (.builtin "object.__class__") = some true)
    (h4 : PySem.W.mroIn K C (.type "object") = some true) {te : TE} {σ : L2.St} {H : Hp} (h : GD K te σ H (.ob C ns ds)) : GD K (tCB (rIsi K) (tCons te (tCons (tC (.ref C)) tNil))) σ H (.bl true) := fun H1 e Q q =>
  h H1 e _ fun v H2 e2 hv => by
    cases hv with
    | @ob a _ dx fs _ _ ho hn hd => exact ⟨.ref a, .ref C, .ref C, .ref C, true, rfl, .own C, .base (.ins ho c h1 h2 h3 h4), if_pos (by simp), q _ H2 e2 (.bl _)⟩
structure IsiC (K : Fg) (C : Addr) : Prop where
  h1 : PySem.W.findIn K (.ref C) "__class__" = some (some (.builtin "object.__class__"))
  h2 : PySem.W.specialIn K (.builtin "object.__class__") "__get__" = some (some (.builtin "getset_descriptor.__get__"))
  h3 : PySem.W.takesIn K (.builtin "object.__class__") = some true
  h4 : PySem.W.mroIn K C (.type "object") = some true
abbrev spEqS (K : Fg) (C : Addr) : Sp := spOf (α := (List (Int × Int) × D) × (List (Int × Int) × D)) K (fun a => [storeD C a.1.1 a.1.2, storeD C a.2.1 a.2.2]) (fun a => (doorsD a.1.1).pl = true ∧ (doorsD a.2.1).pl = true ∧ (doorsD a.1.1).shp = true ∧ (doorsD a.2.1).shp = true ∧ a.1.2.pl = true ∧ a.2.2.pl = true ∧ a.1.2.shp = true ∧ a.2.2.shp = true) fun a => .bl ((doorsD a.1.1).eqv (doorsD a.2.1) && a.1.2.eqv a.2.2)
theorem ok_eq {f : Addr} {fd : FuncData} (F : Fun K "__eq__" "Store.__eq__" s_Store___eq__ f fd) (T : TxtS P w K mg C CI fI CP CD) (I : IsiC K C) : FnOk P w K mg base CX0 1 f fd ["self", "other"] (spEqS K C) := by
  refine F.ok sc_Store___eq__ (fun vs H Q E h => ?_) (fun cdv A outer s H vs Q E hr h => ?_)
  · obtain ⟨a, h, _⟩ := h
    exact h.length
  · obtain ⟨⟨⟨l, e⟩, ⟨l2, e2⟩⟩, hv, ⟨p1, p2, p3, p4, p5, p6, p7, p8⟩, k⟩ := h
    obtain ⟨v, x, rfl, hw, hx⟩ := hv.un2
    refine ⟨_, (pss_one (ps_ret (pe_and (pe_callB (isiK K) (by rfl) T.isinstance (by decide +kernel) (pa_cons (pv 1) (pa_cons (pe_gc T.g_Store) pa_nil))) (pe_and (pe_cmpR (eqK K hr.units) (pe_fK K (pv 0)) (pe_fK K (pv 1)) (nomark _)) (pe_one (pe_cmpR (eqK K hr.units) (pe_fK K (pv 0)) (pe_fK K (pv 1)) (nomark _))))))), ?_⟩
    refine s_retK (k.up (.refl _)) (GD.is (gd_and (a := true) (b := (doorsD l).eqv (doorsD l2) && e.eqv e2) (r_isiO T.cls I.h1 I.h2 I.h3 I.h4 (gd_var rfl hx)) fun _ => gd_and (gd_op (gd_fld (C := C) (ns := storeNs) (gd_var rfl hw) T.cls T.nDo (i := 2) rfl (by decide) rfl) (gd_fld (C := C) (ns := storeNs) (gd_var rfl hx) T.cls T.nDo (i := 2) rfl (by decide) rfl) (r_eq p1 p2 p3 p4)) fun _ =>
      gd_op (gd_fld (C := C) (ns := storeNs) (gd_var rfl hw) T.cls T.nCr (i := 3) rfl (by decide) rfl) (gd_fld (C := C) (ns := storeNs) (gd_var rfl hx) T.cls T.nCr (i := 3) rfl (by decide) rfl) (r_eq p5 p6 p7 p8)) (by simp))
end
end My

namespace My
open PySem L2 RZ Cc
/-- for each place its door -/
def edgesFrom : Nat → List (Int × Int) → List Int
  | _, [] => []
  | k, p :: r => List.replicate p.2.toNat (k : Int) ++ edgesFrom (k + 1) r
theorem edgesFrom_app (x : Int × Int) : ∀ (l : List (Int × Int)) (k : Nat), edgesFrom k (l ++ [x]) = edgesFrom k l ++ List.replicate x.2.toNat ((k + l.length : Nat) : Int)
  | [], k => by simp [edgesFrom]
  | p :: r, k => by
    simp only [List.cons_append, edgesFrom, edgesFrom_app x r (k + 1), List.append_assoc, List.length_cons]
    have e : k + 1 + r.length = k + (r.length + 1) := by omega
    rw [e]
theorem edges_len : ∀ (l : List (Int × Int)) (k : Nat), (∀ p ∈ l, 0 ≤ p.2) → ((edgesFrom k l).length : Int) = sizeOf l
  | [], _, _ => by simp [edgesFrom, sizeOf]
  | p :: r, k, h => by
    have h1 := h p List.mem_cons_self
    have h2 := edges_len r (k + 1) fun q hq => h q (List.mem_cons_of_mem _ hq)
    have e : sizeOf (p :: r) = p.2 + sizeOf r := by simp [sizeOf]
    rw [e]
    simp only [edgesFrom, List.length_append, List.length_replicate]
    omega
theorem edges_get : ∀ (l : List (Int × Int)) (k i : Nat), (∀ p ∈ l, 0 ≤ p.2) → i < (edgesFrom k l).length → (edgesFrom k l)[i]? = some ((k + doorAt l i : Nat) : Int)
  | [], _, _, _, h => by simp [edgesFrom] at h
  | p :: r, k, i, hp, h => by
    have h1 := hp p List.mem_cons_self
    unfold doorAt
    simp only [edgesFrom] at h ⊢
    by_cases c : (i : Int) < p.2
    · rw [List.getElem?_append_left (by simp; omega), if_pos c, List.getElem?_replicate, if_pos (by omega)]
      simp
    · rw [List.getElem?_append_right (by simp; omega), if_neg c, List.length_replicate]
      have h2 := edges_get r (k + 1) (i - p.2.toNat) (fun q hq => hp q (List.mem_cons_of_mem _ hq)) (by simp at h; omega)
      rw [h2]
      have e : ((i - p.2.toNat : Nat) : Int) = (i : Int) - p.2 := by omega
      rw [e]
      congr 2
      omega
section
variable {P : Program} {w : World} {K : Fg} {mg : Str → Option Value} {base : Heap} {C CI fI CP CD : Addr}
theorem r_rep {ds : List D} {k : Int} (h : 0 ≤ k ∧ k ≤ 100) (hl : ds.length ≤ 1000) {tl tk : TE} {σ : L2.St} {H : Hp} (ha : GN K tl σ H ds) (hb : GD K tk σ H (.int k)) : GN K (tOp rRep tl tk) σ H (List.replicate k.toNat ds).flatten := fun H1 e Q q =>
  ha H1 e _ fun p xs H2 hp e2 hx hd => hb H2 (e.trans e2) _ fun y H3 e3 hy => by
    cases hy
    have len := hd.length
    refine ⟨p, k, xs, rfl, rfl, e3 _ _ hx, by omega, by omega, ?_, fun r hr => ?_⟩
    · have : xs.length * k.toNat ≤ 1000 * 100 := Nat.mul_le_mul (by omega) (by omega)
      rw [sizeLine_eq]; omega
    · exact q r _ _ ((e2.trans e3).free hr) ((e2.trans e3).trans (Same.new hr)) upd_same ((Dns.rep (hd.up e3) k.toNat).up (Same.new hr))
theorem gn_cat {tl tr : TE} {σ : L2.St} {H : Hp} {ds es : List D} (ha : GD K tl σ H (.lst ds)) (hb : GD K tr σ H (.lst es)) (hl : ds.length + es.length ≤ 100000) : GN K (tOp rCat tl tr) σ H (ds ++ es) := fun H1 e Q q =>
  ha H1 e _ fun x H2 e2 hx => hb H2 (e.trans e2) _ fun y H3 e3 hy => by
    have hx' := hx.up e3
    cases hx' with
    | lst h1 d1 =>
      cases hy with
      | lst h2 d2 =>
        have l1 := d1.length
        have l2 := d2.length
        refine ⟨_, _, _, _, rfl, rfl, h1, h2, by rw [sizeLine_eq]; omega, fun r hr => ?_⟩
        exact q r _ _ ((e2.trans e3).free hr) ((e2.trans e3).trans (Same.new hr)) upd_same ((d1.app d2).up (Same.new hr))
abbrev spEdges (K : Fg) : Sp := spNew (α := List (Int × Int) × D) K (fun a => [.tup [doorsD a.1, a.2]]) (fun a => a.1.length ≤ 100 ∧ ∀ p ∈ a.1, 0 ≤ p.2 ∧ p.2 ≤ 100) fun a => (edgesFrom 0 a.1).map D.int
theorem ok_edges {f : Addr} {fd : FuncData} (F : Fun K "_law_edges" "_law_edges" s__law_edges f fd) (T : Txt2 K mg) : FnOk P w K mg base CX0 1 f fd ["_law_s"] (spEdges K) := by
  refine F.ok sc__law_edges (fun vs H Q E h => ?_) (fun cdv A outer s H vs Q E hr h => ?_)
  · obtain ⟨a, h, _⟩ := h
    exact h.length
  · obtain ⟨⟨l, e⟩, hv, ⟨hl, hb⟩, k⟩ := h
    obtain ⟨v0, rfl, h0⟩ := hv.un1
    replace hl : l.length ≤ 100 := hl
    replace hb : ∀ p ∈ l, 0 ≤ p.2 ∧ p.2 ≤ 100 := hb
    refine ⟨_, (pss_cons (ps_set (i := 1) sc__law_edges.nd rfl (Or.inl rfl) (pe_lst pa_nil))
      (pss_cons (ps_for PassesOwn.never rfl (pi_range1 (by rfl) T.range (pa_cons (pe_callB (lenK K) (by rfl) T.len PySem.boot_len (pa_cons (pe_ix (ixT K) (pv 0) pe_int (fun _ _ => rfl)) pa_nil)) pa_nil)) (pg_name (i := 2) sc__law_edges.nd rfl (Or.inl rfl)) (pss_one (ps_set (i := 1) sc__law_edges.nd rfl (Or.inl rfl) (pe_op op_cat (pv 1) (pe_op op_rep (pe_lst (pa_cons (pv 2) pa_nil)) (pe_ix (ixA K) (pe_ix (ixT K) (pe_ix (ixT K) (pv 0) pe_int (fun _ _ => rfl)) (pv 2) (fun _ _ => rfl)) pe_int (fun _ _ => rfl)))))))
      (pss_one (ps_ret (pv 1))))), ?_⟩
    refine s_asgN (K := K) (gn_lst ga_nil (by simp)) fun p xs H1 hp e1 hx hd => ?_
    cases hd
    dsimp only
    have ix0 : ∀ {H' : Hp} {σ : L2.St}, σ[0]? = some (some v0) → Same H H' → GD K (tOp (rIxT K) (tVar 0) (tC (.int 0))) σ H' (doorsD l) := fun hs q => gd_op (gd_var hs (h0.up q)) gd_i (r_ixT (ds := [doorsD l, e]) (i := 0) rfl)
    refine s_for (K := K) (M := []) (ds := (List.range l.length).map fun i => D.int (i : Nat)) ?_ fun H3 e3 =>
      ⟨fun i σ' H' => ∃ p ys v3, σ' = [some v0, some (.ref p), v3] ∧ Same H3 H' ∧ H p = none ∧ H' p = some (.lst ys) ∧ Dns K H' ys ((edgesFrom 0 (l.take i)).map D.int), ⟨p, [], none, rfl, .refl _, hp, e3 _ _ hx, .nil⟩, fun i σ' H' ⟨_, _, _, _, q, _⟩ => .of q, ?_, ?_, ?_⟩
    · rw [show List.range l.length = List.range ((l.length : Nat) : Int).toNat by simp]
      exact gi_range1 (n := (l.length : Nat)) (ga1 (gd_cb (ga1 (ix0 rfl e1)) (rc_len (d := doorsD l) (n := l.length) (by simp [doorsD, D.len]) (by omega)))) (by omega) (by omega)
    · rintro i σ' H' H'' q ⟨p, ys, v3, rfl, q1, q2, q3, q4⟩
      exact ⟨p, ys, v3, rfl, q1.trans q, q2, q _ _ q3, q4.up q⟩
    · rintro i d x σ' H' hd hx' ⟨p, ys, v3, rfl, q1, q2, q3, q4⟩
      obtain ⟨hi, rfl⟩ : i < l.length ∧ d = .int (i : Nat) := by
        rw [List.getElem?_map] at hd
        by_cases c : i < l.length
        · rw [List.getElem?_range c] at hd
          cases hd
          exact ⟨c, rfl⟩
        · rw [List.getElem?_eq_none (by simpa using c)] at hd
          cases hd
      cases hx'
      have eH : Same H H' := (e1.trans e3).trans q1
      have hpi := hb l[i] (List.getElem_mem hi)
      have sz : ((edgesFrom 0 (l.take i)).length : Int) ≤ 10000 := by
        rw [edges_len _ _ fun p hp => (hb p (List.mem_of_mem_take hp)).1]
        exact (sizeOf_bd hb hl i).2
      dsimp only [gName]
      refine s_asgN (K := K) (gn_cat (ds := (edgesFrom 0 (l.take i)).map D.int) (es := (List.replicate l[i].2.toNat [D.int (i : Nat)]).flatten) (gd_var rfl (.lst q3 q4)) (GN.gd (r_rep (k := l[i].2) hpi (by simp) (gn_lst (ga1 (gd_var rfl (.int (i : Nat)))) (by simp)) ?_)) (by simp; omega)) fun p2 xs2 H4 hp2 e4 hx4 hd4 => ?_
      · refine gd_op (d := doorD l[i]) (e := .int 1) (gd_op (d := doorsD l) (e := .int (i : Nat)) (ix0 rfl eH) (gd_var rfl (.int (i : Nat))) (r_ixT (atI_nat (show (l.map doorD)[i]? = some (doorD l[i]) by simp [hi])))) gd_i (r_ix_t (ds := [.int l[i].1, .int l[i].2]) (i := 1) rfl)
      · refine ⟨p2, xs2, _, rfl, q1.trans e4, eH.free hp2, hx4, ?_⟩
        have e : l.take (i + 1) = l.take i ++ [l[i]] := by rw [List.take_add_one]; simp [hi]
        rw [e, edgesFrom_app, List.map_append]
        have e2 : (List.replicate l[i].2.toNat ((0 + (l.take i).length : Nat) : Int)).map D.int = (List.replicate l[i].2.toNat [D.int (i : Nat)]).flatten := by
          have : (l.take i).length = i := by rw [List.length_take]; omega
          rw [this]
          simp [List.flatten_replicate_singleton]
        rw [e2]
        exact hd4
    · rintro σ' H' ⟨p, ys, v3, rfl, q1, q2, q3, q4⟩
      have q4' : Dns K H' ys ((edgesFrom 0 l).map D.int) := by simpa using q4
      dsimp only
      exact ⟨_, rfl, k p ys H' q2 ((e1.trans e3).trans q1) q3 q4'⟩
abbrev storeOk (d e : D) (l : List (Int × Int)) : Prop := d = doorsD l ∧ GoodDoors l ∧ cratesFit e (sizeOf l) = true
abbrev spStore (K : Fg) (C : Addr) : Sp := spOf (α := List (Int × Int) × D) K (fun a => [.tup [doorsD a.1, a.2]]) (fun a => GoodDoors a.1 ∧ doorsOk (doorsD a.1) = true ∧ doorsFit (doorsD a.1) = true ∧ cratesOk a.2 = true ∧ cratesFit a.2 (sizeOf a.1) = true) fun a => storeD C a.1 a.2
theorem gd_new {l : List (Int × Int)} {e : D} {ta : TA} {σ : L2.St} {H : Hp} (ha : GA K ta σ H [doorsD l, e]) (hG : GoodDoors l) (h1 : doorsOk (doorsD l) = true) (h2 : doorsFit (doorsD l) = true) (h3 : cratesOk e = true) (h4 : cratesFit e (sizeOf l) = true) : GD K (tMake C (spInit K C CI) [] Cc.E0 ta) σ H (storeD C l e) :=
  gd_make ha fun vs H1 x dx Q e1 hv hx hdx hne k => by
    obtain ⟨vd, ve, rfl, hd, he⟩ := hv.un2
    refine ⟨H1, x, dx, vd, ve, doorsD l, e, rfl, hx, hdx, hne, rfl, hd, he, h1, h3, fun z => (by rw [h2] at z; cases z), fun l' z G z2 => ?_, fun l' z G z2 H2 fs e2 hx2 hn hd2 => ?_⟩
    · have hl : l' = l := by
        have := D.tup.inj z
        exact (List.map_inj_right (f := doorD) fun a b h => by
          simp only [doorD, D.tup.injEq, List.cons.injEq, D.int.injEq, and_true] at h
          exact Prod.ext h.1 h.2).mp this.symm
      subst hl
      rw [h4] at z2; cases z2
    · have hl : l' = l := by
        have := D.tup.inj z
        exact (List.map_inj_right (f := doorD) fun a b h => by
          simp only [doorD, D.tup.injEq, List.cons.injEq, D.int.injEq, and_true] at h
          exact Prod.ext h.1 h.2).mp this.symm
      subst hl
      exact k H2 fs e2 hx2 hn hd2
theorem ok_store {f : Addr} {fd : FuncData} (F : Fun K "_law_store" "_law_store" s__law_store f fd) (C_Store : CMk P w K mg base (L2.CX P w) 4 "Store" C ["self", "doors", "crates"] (spInit K C CI)) : FnOk P w K mg base CX0 6 f fd ["_law_s"] (spStore K C) := by
  refine F.ok sc__law_store (fun vs H Q E h => ?_) (fun cdv A outer s H vs Q E hr h => ?_)
  · obtain ⟨a, h, _⟩ := h
    exact h.length
  · obtain ⟨⟨l, e⟩, hv, ⟨p1, p2, p3, p4, p5⟩, k⟩ := h
    obtain ⟨v0, rfl, h0⟩ := hv.un1
    refine ⟨_, (pss_one (ps_ret (pe_mk C_Store hr passN (pa_cons (pe_ix (ixT K) (pv 0) pe_int (fun _ _ => rfl)) (pa_cons (pe_ix (ixT K) (pv 0) pe_int (fun _ _ => rfl)) pa_nil))))), ?_⟩
    refine s_retK (k.up (.refl _)) (gd_new (ga2 (gd_op (gd_var rfl h0) gd_i (r_ixT (ds := [doorsD l, e]) (i := 0) rfl)) (gd_op (gd_var rfl h0) gd_i (r_ixT (ds := [doorsD l, e]) (i := 1) rfl))) p1 p2 p3 p4 p5)
end
end My

/-! all orders of names and free places: by recursion and place by place (pure) -/
namespace Arr
variable {α : Type} [DecidableEq α]
/-- each item with the others -/
def picks : List α → List (α × List α)
  | [] => []
  | x :: r => (x, r) :: (picks r).map fun p => (p.1, x :: p.2)
theorem picks_length : ∀ l : List α, (picks l).length = l.length
  | [] => rfl
  | x :: r => by simp [picks, picks_length r]
theorem picks_get : ∀ (l : List α) (i : Nat) (h : i < l.length), (picks l)[i]? = some (l[i], l.take i ++ l.drop (i + 1))
  | x :: r, 0, _ => by simp [picks]
  | x :: r, i + 1, h => by
    have h' : i < r.length := by simpa using h
    simp [picks, picks_get r i h', List.getElem?_map]
/-- the recursion: n = how many names and free places together -/
def arr : Nat → List α → Nat → List (List (Option α))
  | 0, _, _ => [[]]
  | n + 1, ns, f => (if f > 0 then (arr n ns (f - 1)).map (none :: ·) else []) ++ (picks ns).flatMap fun p => (arr n p.2 f).map (some p.1 :: ·)
/-- one place more -/
def step (S : List α) (F : Nat) (p : List (Option α)) : List (List (Option α)) := (if p.count none < F then [p ++ [none]] else []) ++ (S.filter fun x => decide (some x ∉ p)).map fun x => p ++ [some x]
def bfs (S : List α) (F : Nat) : Nat → List (List (Option α)) → List (List (Option α))
  | 0, l => l
  | k + 1, l => bfs S F k (l.flatMap (step S F))
theorem bfs_app (S : List α) (F : Nat) : ∀ (k : Nat) (l m : List (List (Option α))), bfs S F k (l ++ m) = bfs S F k l ++ bfs S F k m
  | 0, _, _ => rfl
  | k + 1, l, m => by simp only [bfs, List.flatMap_append, bfs_app S F k]
theorem bfs_flat (S : List α) (F : Nat) (k : Nat) : ∀ l : List (List (Option α)), bfs S F k l = l.flatMap fun p => bfs S F k [p]
  | [] => by
    have : ∀ k, bfs S F k [] = [] := fun k => by
      induction k with
      | zero => rfl
      | succ k ih => simpa [bfs] using ih
    rw [this]
    rfl
  | p :: l => by
    rw [← List.singleton_append, bfs_app, bfs_flat S F k l]
    simp
theorem picks_nodup : ∀ l : List α, l.Nodup → picks l = l.map fun x => (x, l.filter fun y => decide (y ≠ x))
  | [], _ => rfl
  | x :: r, h => by
    have hx := (List.nodup_cons.mp h).1
    have hr := (List.nodup_cons.mp h).2
    have e : r.filter (fun y => decide (y ≠ x)) = r := List.filter_eq_self.mpr fun y hy => by
      simp
      rintro rfl
      exact hx hy
    simp only [picks, picks_nodup r hr, List.map_cons, List.map_map]
    congr 1
    · rw [List.filter_cons, if_neg (by simp), e]
    · refine List.map_congr_left fun y hy => ?_
      have : x ≠ y := fun z => hx (z ▸ hy)
      simp [Function.comp, List.filter_cons, this]
/-- place by place from a beginning p: what the recursion gives, behind p -/
theorem bfs_arr (S : List α) (F : Nat) (hS : S.Nodup) : ∀ (n : Nat) (p : List (Option α)), (S.filter fun x => decide (some x ∉ p)).length + (F - p.count none) = n → p.count none ≤ F →
    bfs S F n [p] = (arr n (S.filter fun x => decide (some x ∉ p)) (F - p.count none)).map (p ++ ·)
  | 0, p, _, _ => by simp [bfs, arr]
  | n + 1, p, hn, hp => by
    have hL : (S.filter fun x => decide (some x ∉ p)).Nodup := hS.filter _
    rw [bfs, show [p].flatMap (step S F) = step S F p by simp, bfs_flat, step, List.flatMap_append, arr, List.map_append]
    congr 1
    · by_cases c : p.count none < F
      · have c2 : F - p.count none > 0 := by omega
        have ec : (p ++ [none]).count none = p.count none + 1 := by simp
        have ef : (S.filter fun x => decide (some x ∉ p ++ [none])) = S.filter fun x => decide (some x ∉ p) := by
          refine List.filter_congr fun x _ => ?_
          simp
        have ih := bfs_arr S F hS n (p ++ [none]) (by rw [ec, ef]; omega) (by rw [ec]; omega)
        rw [ec, ef] at ih
        rw [if_pos c, if_pos c2]
        simp only [List.flatMap_cons, List.flatMap_nil, List.append_nil, ih, List.map_map]
        have : F - (p.count none + 1) = F - p.count none - 1 := by omega
        rw [this]
        refine List.map_congr_left fun q _ => ?_
        simp
      · have c2 : ¬ F - p.count none > 0 := by omega
        rw [if_neg c, if_neg c2]
        rfl
    · rw [picks_nodup _ hL, List.flatMap_map, List.flatMap_map, List.map_flatMap]
      have key : ∀ x ∈ (S.filter fun x => decide (some x ∉ p)), bfs S F n [p ++ [some x]] = ((arr n ((S.filter fun x => decide (some x ∉ p)).filter fun y => decide (y ≠ x)) (F - p.count none)).map (some x :: ·)).map (p ++ ·) := fun x hx => by
        have ec : (p ++ [some x]).count none = p.count none := by simp
        have ef : (S.filter fun y => decide (some y ∉ p ++ [some x])) = (S.filter fun x => decide (some x ∉ p)).filter fun y => decide (y ≠ x) := by
          rw [List.filter_filter]
          refine List.filter_congr fun y _ => ?_
          simp [Bool.and_comm]
        have el : ((S.filter fun x => decide (some x ∉ p)).filter fun y => decide (y ≠ x)).length + 1 = (S.filter fun x => decide (some x ∉ p)).length := by
          have h2 := hL.erase_eq_filter x
          have h3 := List.length_erase_of_mem hx
          have h4 := List.length_pos_of_mem hx
          rw [h2] at h3
          have h5 : ((S.filter fun x => decide (some x ∉ p)).filter fun y => decide (y ≠ x)).length = ((S.filter fun x => decide (some x ∉ p)).filter fun y => y != x).length := by
            congr 1
            refine List.filter_congr fun y _ => ?_
            by_cases h : y = x <;> simp [h]
          omega
        have ih := bfs_arr S F hS n (p ++ [some x]) (by rw [ec, ef]; omega) (by rw [ec]; exact hp)
        rw [ec, ef] at ih
        rw [ih, List.map_map]
        refine List.map_congr_left fun q _ => ?_
        simp
      have all : ∀ M : List α, (∀ x ∈ M, x ∈ (S.filter fun x => decide (some x ∉ p))) → M.flatMap (fun x => bfs S F n [p ++ [some x]]) = M.flatMap fun x => ((arr n ((S.filter fun x => decide (some x ∉ p)).filter fun y => decide (y ≠ x)) (F - p.count none)).map (some x :: ·)).map (p ++ ·) := fun M => by
        induction M with
        | nil => intro _; rfl
        | cons x M ih =>
          intro h
          rw [List.flatMap_cons, List.flatMap_cons, key x (h x List.mem_cons_self), ih fun y hy => h y (List.mem_cons_of_mem _ hy)]
      exact all _ fun x hx => hx
/-- all layouts -/
theorem bfs_all (S : List α) (F : Nat) (hS : S.Nodup) : bfs S F (S.length + F) [[]] = arr (S.length + F) S F := by
  have e : (S.filter fun x => decide (some x ∉ ([] : List (Option α)))) = S := List.filter_eq_self.mpr (by simp)
  have h := bfs_arr S F hS (S.length + F) [] (by rw [e]; simp) (by simp)
  rw [e] at h
  simpa using h
end Arr

/-! enumerate(tuple) -/
namespace CcE
open PySem PySem.AutoSeq1
open Sem (wp)
theorem meets_newT (l : Addr) (items : Array Value) (n : Nat) (dct : Option Addr) (sl : Array (Option Value)) :
    Meets (Builtin.«enumerate.__new__» ⟨[.type "enumerate", .ref l], []⟩) (fun _ R s => s.heap.get? l = some { cls := .type "tuple", dict := dct, data := .seq items n, slots := sl } ∧
      R (.ok (.ret (.ref (s.heap.push { cls := .type "tuple_iterator", data := .fields #[.ref l, .int 0 0] }).objs.size)))
        { s with heap := (s.heap.push { cls := .type "tuple_iterator", data := .fields #[.ref l, .int 0 0] }).push { cls := .type "enumerate", data := .fields #[.none, .bool false, .ref s.heap.objs.size, rawInt 0, .none, .none] } }) :=
  .of_wp fun prog w A R s h => by
    obtain ⟨hp, g, d, tk, os⟩ := s; obtain ⟨hl, h⟩ := h
    have hsub := sub_enumerate
    have hL : Heap.IsTuple (Shared.heap ⟨hp, g, d, tk, os⟩) l items := ⟨_, hl, rfl, n, rfl⟩
    wp_walk using wpAny_loadPart' hl
    refine wpAny_stack_any fun st => wpAny_pure ?_
    split
    · rename_i c _ _ _ _ _
      cases (c == Value.type "enumerate")
      · wp_walk using wpAny_loadPart' hl, wpAny_pyIter_tuple hL
        exact ⟨_, rfl, h⟩
      · wp_walk using wpAny_loadPart' hl, wpAny_pyIter_tuple hL
        exact ⟨_, rfl, h⟩
    · wp_walk using wpAny_loadPart' hl, wpAny_pyIter_tuple hL
      exact ⟨_, rfl, h⟩
theorem drawsT {prog : Program} {w : World} {A : Around} (hh : A.handled = none) (it l : Addr) (hne : l ≠ it) (items : Array Value) :
    Draws prog w A it [it, l] items.size (fun i v => items[i]? = some v) (fun i h => h.IsTupleIter it l i ∧ h.IsTuple l items) where
  live := fun _ _ st => let ⟨o, ho, _⟩ := st.1; ⟨o, ho⟩
  frame := fun _ _ _ st hk => ⟨st.1.at fun o e => hk it (by simp) o e, st.2.at fun o e => hk l (by simp) o e⟩
  item := fun i s Q E hi st hQ => by
    refine RZ.nextOf_tuple_item st.1 st.2 (x := items[i]) (by simp [hi]) fun h' hit' hs' => ?_
    exact hQ _ h' s.toks (by simp [hi]) ⟨hit', st.2.extBut hs'.extBut hne⟩ hs'
  done := fun s Q E st hE => RZ.nextOf_tuple_end hh st.1 st.2 (by simp) hE
section
variable {prog : Program} {w : World} {A : Around} {E : Value → Shared → Prop} {s : Shared}
theorem call_enumT {l : Addr} {items : Array Value} {Q : Value → Shared → Prop} (hL : s.heap.IsTuple l items)
    (k : ∀ h', IsEnum h' (s.heap.objs.size + 1) s.heap.objs.size 0 .none → h'.IsTupleIter s.heap.objs.size l 0 → h'.objs.size = s.heap.objs.size + 2 → (∀ b o, s.heap.get? b = some o → h'.get? b = some o) → Q (.ref (s.heap.objs.size + 1)) { s with heap := h' }) :
    wpAny (model prog w) A (call (.type "enumerate") [.ref l]) Q E s := by
  obtain ⟨⟨c, dct, dt, sl⟩, hl, hc, n, hd⟩ := hL
  have hc' : c = .type "tuple" := hc
  have hd' : dt = .seq items n := hd
  subst hc' hd'
  refine callType_new F.called_enumerate (by decide) (F.typeCall_enumerate_1 _) (F.newCall_enumerate_1 _) (fun obj => F.args_object_init_2 obj _) F.entry_enumerate_new (meets_newT l items n dct sl) ⟨hl, ?_⟩
  have sz : (s.heap.push { cls := .type "tuple_iterator", data := .fields #[.ref l, .int 0 0] }).objs.size = s.heap.objs.size + 1 := Heap.size_push ..
  show _ ∧ _
  rw [sz]
  have en : IsEnum ((s.heap.push { cls := .type "tuple_iterator", data := .fields #[.ref l, .int 0 0] }).push { cls := .type "enumerate", data := .fields #[.none, .bool false, .ref s.heap.objs.size, rawInt 0, .none, .none] }) (s.heap.objs.size + 1) s.heap.objs.size 0 .none := by
    have z := Heap.get?_push_size (s.heap.push { cls := .type "tuple_iterator", data := .fields #[.ref l, .int 0 0] }) (o := { cls := .type "enumerate", data := .fields #[.none, .bool false, .ref s.heap.objs.size, rawInt 0, .none, .none] }) rfl
    rw [sz] at z; exact z
  exact ⟨⟨_, en, rfl⟩, k _ en ⟨_, Heap.get?_push_of_some _ (Heap.get?_push_size _ rfl), rfl, rfl⟩ (by rw [Heap.size_push, sz]) fun b o x => Heap.get?_push_of_some _ (Heap.get?_push_of_some _ x)⟩
theorem wpAny_pyNext_enum_endT {e it l : Addr} {i : Nat} {items : Array Value} {old : Value} {n : Int} {Q : Option Value → Shared → Prop} (hh : A.handled = none) (he : IsEnum s.heap e it n old) (hit : s.heap.IsTupleIter it l i) (hl : s.heap.IsTuple l items) (hi : items.size ≤ i)
    (k : ∀ h', Heap.ExtBut it s.heap h' → Q none { s with heap := h' }) : wpAny (model prog w) A (pyNext (.ref e)) Q E s := by
  have D : Draws prog w A.in1 it [it, l] 0 (fun _ _ => True) (fun _ h => h.IsTupleIter it l i ∧ h.IsTuple l items) :=
    { live := fun _ _ st => let ⟨o, ho, _⟩ := st.1; ⟨o, ho⟩, frame := fun _ _ _ st hk => ⟨st.1.at fun o e => hk it (by simp) o e, st.2.at fun o e => hk l (by simp) o e⟩,
      item := fun _ _ _ _ hi => absurd hi (Nat.not_lt_zero _), done := fun s Q E st hE => RZ.nextOf_tuple_end hh st.1 st.2 (Array.getElem?_eq_none_iff.mpr hi) hE }
  exact wpAny_pyNext_enum_endD D he ⟨hit, hl⟩ k
end
end CcE
namespace CcE
open PySem L2 PyProof.Rows
/-- the tuple at a, each item in a new pair behind its number -/
def Itet (K : PySem.W.Frag) (a : Addr) : It :=
  ⟨fun i H => ∃ (xs : List V) (x : V), SqT K H a xs ∧ xs[i]? = some x, fun i H v H' => ∃ T x, v = .ref T ∧ H T = none ∧ H' = upd H T (.tup [.int (i : Nat), x]) ∧ ∀ xs, SqT K H a xs → xs[i]? = some x, fun i H => ∃ xs : List V, SqT K H a xs ∧ xs.length ≤ i⟩
theorem turn_et {P : Program} {w : World} {K : PySem.W.Frag} {elts : List Expr} {kk : Nat} {tpos : Pos} (a e it : Addr) (hai : a ≠ it) (hae : a ≠ e) :
    Turn P w K (.Tuple elts kk tpos) (Itet K a) [e, it] e (fun i h => (∃ old, IsEnum h e it ((i : Nat) : Int) old) ∧ h.IsTupleIter it a i ∧ e ≠ it) where
  mem := by simp
  obj := fun i h st b hb => by
    obtain ⟨⟨old, he⟩, ⟨o, ho, hc, hd⟩, _⟩ := st
    rcases (by simpa using hb : b = e ∨ b = it) with rfl | rfl
    · exact ⟨_, he, fun v q => nomatch q⟩
    · exact ⟨o, ho, fun v q => by rw [hd] at q; cases q⟩
  keep := fun i h h' st k => let ⟨⟨old, he⟩, hi, hne⟩ := st; ⟨⟨old, k e (by simp) _ he⟩, hi.at fun o q => k it (by simp) o q, hne⟩
  item := by
    intro X hP hw hK hc i pins s σ H E I hf st hg
    subst hP hw hK
    obtain ⟨⟨old, he⟩, hit, hne⟩ := st
    obtain ⟨xs, x, hq, hx⟩ := hg
    obtain ⟨its, rv, p, hz⟩ := I.tuple hq
    obtain ⟨u, hu, ru⟩ := rv.get hx
    have hel : e < s.heap.objs.size := Heap.lt_size he
    have hil : it < s.heap.objs.size := by obtain ⟨_, q, _⟩ := hit; exact Heap.lt_size q
    have hlt : i < its.toArray.size := by
      have := (List.getElem?_eq_some_iff.mp hu).1
      simpa using this
    refine wpAny_pyNext_enum_itemD (drawsT (prog := X.prog) (w := X.w) (A := X.A.in1) (I.ok.hd hc) it a hai its.toArray) he ⟨hit, p⟩ hlt hne (by simp [hne, Ne.symm hae]) fun u' h' tk hu' ho hst' hT hsz hk => ?_
    have eu : u' = u := by
      have z : its[i]? = some u' := by simpa using hu'
      rw [hu] at z
      exact (Option.some.inj z).symm
    subst eu
    refine ⟨_, rfl, wpAny_letOwnedTupleGo_enum (s := { s with heap := h', toks := tk + 1 }) ho fun h'' he' sb => ?_⟩
    have hT2 : h''.get? s.heap.objs.size = some { cls := .type "tuple", data := .seq #[.int i tk, u'] } := (sb.2 _ (Nat.ne_of_gt hel)).trans hT
    have new : ObjOk X.prog X.w (upd H s.heap.objs.size (.tup [.int (i : Nat), x])) h'' s.heap.objs.size (.tup [.int (i : Nat), x]) :=
      ⟨by show 2 ≤ sizeLine; decide, [.int i tk, u'], .cons ⟨_, rfl⟩ (.cons ru .nil), ⟨_, hT2, rfl, _, rfl⟩⟩
    have I1 : Inv X pins σ (upd H s.heap.objs.size (.tup [.int (i : Nat), x])) { s with heap := h'', toks := tk + 1 } :=
      I.turnedNew (ch := [e, it]) (fun b ob hb q => (sb.2 b (fun z => hb (by simp [z]))).trans (hk b ob (fun z => hb (by simp [z])) (fun z => hb (by simp [z])) q)) hf (Nat.le_refl _) new
    refine ⟨.ref s.heap.objs.size, _, I1, rfl, ⟨_, x, rfl, I.hok.fresh (Nat.le_refl _), rfl, fun ys hy => ?_⟩, ⟨⟨u', ?_⟩, hst'.1.at fun o q => (sb.2 it (Ne.symm hne)).trans q, hne⟩, fun b hb => ?_⟩
    · rw [I.tuple_inj hy hq]; exact hx
    · have e1 : ((i + 1 : Nat) : Int) = (i : Int) + 1 := by omega
      rw [e1]; exact he'
    · have hb' : b < s.heap.objs.size := by
        rcases (by simpa using hb : b = e ∨ b = it) with rfl | rfl
        · exact hel
        · exact hil
      rw [upd_ne (Nat.ne_of_lt hb')]
      exact (hf b hb).1
  done := by
    intro X hP hw hK hc i pins s σ H E I hf st hg
    subst hP hw hK
    obtain ⟨⟨old, he⟩, hit, hne⟩ := st
    obtain ⟨xs, hq, hx⟩ := hg
    obtain ⟨its, rv, p, hz⟩ := I.tuple hq
    obtain ⟨f0, f1, f2, f3, f4, f5⟩ := hf it (by simp)
    have hl := rv.length
    have hend : its.toArray.size ≤ i := by rw [List.size_toArray]; omega
    obtain ⟨o, ho, hcl, hd⟩ := id hit
    refine wpAny_pyNext_enum_endT (I.ok.hd hc) he hit p hend fun h' eb => ⟨rfl, I.turned (t' := s.toks) (fun b o hb q => eb b o hb q) f0 f1 f3 f4 f5⟩
  self := fun A i s Q E st h => let ⟨⟨_, he⟩, _⟩ := st; wpAny_pyIter_enum he h
def iEnumT (K : PySem.W.Frag) (ta : TA) : TI := fun σ H R => ta σ H fun vs H1 => ∃ a xs, vs = [.ref a] ∧ SqT K H1 a xs ∧ R (Itet K a) H1
theorem pi_enumT {X : Cx} (K : PySem.W.Frag) {e : Expr} {ta : TA} {p pos tpos : Pos} {elts : List Expr} {kk : Nat} (hm : X.mg "enumerate" = none) (ha : PA X [e] ta) (hK : X.K = K := by rfl) (hg : Gl X "enumerate" := by rfl) (hs : starEach [e] X.env = [(false, eval e X.env)] := by rfl) :
    PI X (.Tuple elts kk tpos) (.Call (.Name "enumerate" p) [e] [] pos) (iEnumT K ta) := by
  subst hK
  refine ⟨fun pins s σ H R I h => ?_⟩
  refine Call_ (ld_blt I hg hm boot_enumerate (PyProof.Rows.callWith_type1 (thn (ha.run pos pins s σ H _ I h) fun us s1 ⟨vs, H1, I1, r1, q1⟩ => ?_) hs rfl))
  obtain ⟨a, xs, rfl, hq, q⟩ := q1
  cases r1 with
  | cons r rr =>
    cases rr
    cases r
    obtain ⟨its, rv, tp, hz⟩ := I1.tuple hq
    have hal : a < s1.heap.objs.size := by obtain ⟨o, ho, _⟩ := tp; exact Heap.lt_size ho
    refine call_enumT tp fun h' he hit hsz hk => wpAny_pyIter_enum he ?_
    have I2 : Inv X pins σ H1 { s1 with heap := h' } := I1.kept (t' := s1.toks) hk
    refine ⟨s1.heap.objs.size + 1, [s1.heap.objs.size + 1, s1.heap.objs.size], _, _, H1, rfl, I2, turn_et a (s1.heap.objs.size + 1) s1.heap.objs.size (Nat.ne_of_lt hal) (Nat.ne_of_lt (Nat.lt_succ_of_lt hal)), ⟨⟨.none, he⟩, hit, Nat.succ_ne_self _⟩, fun b hb => ?_, q⟩
    have hle : s1.heap.objs.size ≤ b := by
      rcases (by simpa using hb : b = s1.heap.objs.size + 1 ∨ b = s1.heap.objs.size) with rfl | rfl
      · exact Nat.le_succ _
      · exact Nat.le_refl _
    exact I1.fpOk hle (I1.hok.fresh hle)
theorem walk_et {K : PySem.W.Frag} {a : Addr} {xs : List V} : Walk (Itet K a) xs.length (fun H => SqT K H a xs) (YPair (fun i => some (.int (i : Nat))) (fun i => xs[i]?)) := by
  refine ⟨fun i _ hi q => ⟨xs, xs[i], q, by simp [hi]⟩, fun _ q => ⟨xs, q, Nat.le_refl _⟩, fun i H v H' _ q y => ?_⟩
  obtain ⟨T, x, h1, h2, h3, h4⟩ := y
  exact ⟨T, .int (i : Nat), x, h1, h2, h3, rfl, h4 xs q⟩
end CcE

namespace My
open PySem L2 RZ Cc
def cellD : Option Str → D
  | none => .non
  | some x => .str x
def layD (p : List (Option Str)) : D := .tup (p.map cellD)
def facN : Nat → Nat
  | 0 => 1
  | n + 1 => (n + 1) * facN n
theorem arr_len : ∀ (n : Nat) (ns : List Str) (f : Nat), ns.length + f = n → (Arr.arr n ns f).length ≤ facN n
  | 0, _, _, _ => by simp [Arr.arr, facN]
  | n + 1, ns, f, h => by
    have hp : ∀ p ∈ Arr.picks ns, p.2.length + 1 = ns.length := fun p hp => by
      obtain ⟨i, hi, e⟩ := List.getElem_of_mem hp
      have hi' : i < ns.length := by rw [Arr.picks_length] at hi; exact hi
      have g := Arr.picks_get ns i hi'
      rw [List.getElem?_eq_getElem hi, e] at g
      cases Option.some.inj g
      simp
      omega
    have hs : ∀ l : List (Str × List Str), (∀ p ∈ l, p.2.length + 1 = ns.length) → (l.flatMap fun p => (Arr.arr n p.2 f).map (some p.1 :: ·)).length ≤ l.length * facN n := fun l => by
      induction l with
      | nil => intro _; simp
      | cons p l ih =>
        intro hl
        have h1 := hl p List.mem_cons_self
        have h2 := arr_len n p.2 f (by omega)
        have h3 := ih fun q hq => hl q (List.mem_cons_of_mem _ hq)
        simp only [List.flatMap_cons, List.length_append, List.length_map, List.length_cons, Nat.add_mul, Nat.one_mul]
        omega
    have h1 := hs (Arr.picks ns) hp
    rw [Arr.picks_length] at h1
    simp only [Arr.arr, List.length_append, facN]
    by_cases c : f > 0
    · have h2 := arr_len n ns (f - 1) (by omega)
      rw [if_pos c, List.length_map]
      have h3 : ns.length + 1 ≤ n + 1 := by omega
      have h4 := Nat.mul_le_mul_right (facN n) h3
      rw [Nat.add_mul, Nat.one_mul] at h4
      omega
    · rw [if_neg c, List.length_nil, Nat.zero_add]
      have h3 : ns.length = n + 1 := by omega
      rw [h3] at h1
      exact h1
theorem fac_small : ∀ n, n ≤ 7 → facN n ≤ 5040 := by decide
theorem picks_mem {ns : List Str} {q : Str × List Str} (h : q ∈ Arr.picks ns) : q.2.length + 1 = ns.length := by
  obtain ⟨i, hi, e⟩ := List.getElem_of_mem h
  have hi' : i < ns.length := by rw [Arr.picks_length] at hi; exact hi
  have g := Arr.picks_get ns i hi'
  rw [List.getElem?_eq_getElem hi, e] at g
  cases Option.some.inj g
  simp
  omega
theorem arr_each : ∀ (n : Nat) (ns : List Str) (f : Nat), ns.length + f = n → ∀ q ∈ Arr.arr n ns f, q.length = n
  | 0, _, _, _, q, hq => by
    simp [Arr.arr] at hq
    simp [hq]
  | n + 1, ns, f, h, q, hq => by
    rcases List.mem_append.mp hq with hq | hq
    · by_cases c : f > 0
      · rw [if_pos c] at hq
        obtain ⟨r, hr, rfl⟩ := List.mem_map.mp hq
        simp [arr_each n ns (f - 1) (by omega) r hr]
      · rw [if_neg c] at hq
        cases hq
    · obtain ⟨p, hp, hq⟩ := List.mem_flatMap.mp hq
      obtain ⟨r, hr, rfl⟩ := List.mem_map.mp hq
      have := picks_mem hp
      simp [arr_each n p.2 f (by omega) r hr]
theorem cut_to (ds : List D) (i : Nat) (hi : i ≤ ds.length) : cutD ds none (some (i : Nat)) = ds.take i := by
  unfold cutD
  rw [HT.sIx_none, HT.sIx_nat, Nat.min_eq_left hi]
  simp
theorem cut_from (ds : List D) (i : Nat) (hi : i ≤ ds.length) : cutD ds (some (i : Nat)) none = ds.drop i := by
  unfold cutD
  rw [HT.sIx_none, HT.sIx_nat, Nat.min_eq_left hi]
  exact List.take_of_length_le (by simp)
structure TxtA (K : Fg) (mg : Str → Option Value) : Prop extends Txt2 K mg where
  enumerate : mg "enumerate" = none
abbrev spArr (K : Fg) (n : Nat) : Sp := spNew (α := List Str × Nat) K (fun a => [.tup (a.1.map D.str), .int (a.2 : Nat)]) (fun a => a.1.length + a.2 = n) fun a => (Arr.arr n a.1 a.2).map layD
def spArrL (K : Fg) : Nat → Sp
  | 0 => fun _ _ _ _ => False
  | n + 1 => spArr K n
/-- pairs of a number and an item -/
def enumD (ds : List D) : List D := (List.range ds.length).map fun i => D.tup [.int (i : Nat), ds.getD i .non]
theorem gi_enumT {K : Fg} {M : List Addr} {tl : TE} {σ : L2.St} {H : Hp} {ds : List D} (h : GD K tl σ H (.tup ds)) (hM : Ls M H) (hf : D.fixs ds = true) : GI K M (CcE.iEnumT K (tCons tl tNil)) σ H (enumD ds) := fun R q =>
  h H (Same.refl _) _ fun v H2 e2 hv => by
    cases hv with
    | @tup a xs _ hs hd =>
      have hl := hd.length
      refine ⟨a, xs, rfl, hs, q _ (fun H => SqT K H a xs) (YPair (fun i => some (.int (i : Nat))) (fun i => xs[i]?)) H2 e2 (by rw [show (enumD ds).length = xs.length by simp [enumD, hl]]; exact CcE.walk_et) (fun H' b => kp_t (hM.kp e2 b) hs) fun i Ha x Hb hi b y => ?_⟩
      obtain ⟨Tq, x1, x2, rfl, hT, rfl, g1, g2⟩ := y
      cases g1
      have hi' : i < ds.length := by simpa [enumD] using hi
      obtain ⟨d, hd1, hd2⟩ := hd.get g2
      have ed : ds.getD i .non = d := by simp [List.getD, hd1]
      refine ⟨Same.new hT, .tup [.int (i : Nat), d], by simp [enumD, hi']; exact (List.getElem?_eq_some_iff.mp hd1).2, .tup (.inl (.inl upd_same)) (.cons (.int _) (.cons ((hd2.keep (hM.kp e2 b) (D.fixs_iff.mp hf d (List.mem_of_getElem? hd1))).up (Same.new hT)) .nil))⟩
theorem s_ext {K : Fg} {σ : L2.St} {H : Hp} {E : Ends} {te : TE} {l : Addr} {xs : List V} {ds : List D} {ta : TE} (hl : H l = some (.lst xs)) (ha : ∀ H1, Same H H1 → ∀ Q : VK, Q (.ref l) H1 → ta σ H1 Q) (h : GN K te σ H ds) (hz : xs.length + ds.length ≤ 100000)
    (k : ∀ ys H1, Same H H1 → Dns K H1 ys ds → E.nx σ (upd H1 l (.lst (xs ++ ys)))) : tDrop (tBM K "list" rExtend ta (tCons te tNil)) E σ H :=
  ha H (Same.refl _) _ ⟨Or.inl ⟨rfl, xs, SqL.of hl⟩, h H (Same.refl _) _ fun p ys H2 _ e2 hp hd => ⟨l, p, xs, ys, rfl, rfl, e2 l _ hl, hp, by rw [hd.length, sizeLine_eq]; omega, k ys H2 e2 hd⟩⟩
theorem s_extF {K : Fg} {σ : L2.St} {H : Hp} {E : Ends} {te : TE} {l : Addr} {xs : List V} {ds es : List D} {ta : TE} (hl : H l = some (.lst xs)) (hx : Dns K H xs es) (hxf : D.fixs es = true) (ha : ∀ H1, Same H H1 → ∀ Q : VK, Q (.ref l) H1 → ta σ H1 Q) (h : GN K te σ H ds) (hf : D.fixs ds = true) (hz : es.length + ds.length ≤ 100000)
    (k : ∀ zs H1, But [l] H H1 → H1 l = some (.lst zs) → Dns K H1 zs (es ++ ds) → E.nx σ H1) : tDrop (tBM K "list" rExtend ta (tCons te tNil)) E σ H :=
  s_ext hl ha h (by rw [hx.length]; exact hz) fun ys H1 e1 hd => by
    have kp := Kp.upd (o := .lst (xs ++ ys)) (e1 _ _ hl) rfl
    exact k _ _ ((But.of e1).trans (But.upd (by simp))) upd_same (((hx.up e1).keep kp hxf).app (hd.keep kp hf))
theorem s_extIf {K : Fg} {σ : L2.St} {H : Hp} {E : Ends} {te : TE} {t : TT} {b : Bool} {l : Addr} {ds : List D} {ta : TE} (ht : GT t σ H b) (hl : H l = some (.lst [])) (ha : ∀ H1 H2, Same H1 H2 → ∀ Q : VK, Q (.ref l) H2 → ta σ H2 Q) (h : b = true → ∀ H1, Same H H1 → GN K te σ H1 ds) (hf : D.fixs ds = true) (hz : b = true → ds.length ≤ 100000)
    (k : ∀ zs H1, But [l] H H1 → H1 l = some (.lst zs) → Dns K H1 zs (if b then ds else []) → E.nx σ H1) : tIfS t (tDrop (tBM K "list" rExtend ta (tCons te tNil))) tNext E σ H := by
  refine s_when ht (fun hb H1 e1 => ?_) (fun hb H1 e1 => ?_)
  · refine s_extF (K := K) (es := []) (e1 _ _ hl) .nil rfl (ha H1) (h hb H1 e1) hf (by simpa using hz hb) fun zs H2 b2 h2 d2 => k zs H2 ((But.of e1).trans b2) h2 ?_
    rw [if_pos hb]
    exact d2
  · refine k [] H1 (.of e1) (e1 _ _ hl) ?_
    rw [hb]
    exact .nil
theorem fix_lay (p : List (Option Str)) : (layD p).fix = true := D.fixs_iff.mpr fun d hd => by
  obtain ⟨x, _, rfl⟩ := List.mem_map.mp hd
  cases x <;> rfl
theorem fix_lays (l : List (List (Option Str))) : D.fixs (l.map layD) = true := D.fixs_iff.mpr fun d hd => by
  obtain ⟨x, _, rfl⟩ := List.mem_map.mp hd
  exact fix_lay x
def consD (c : D) : D → D
  | .tup xs => .tup (c :: xs)
  | d => d
section
variable {P : Program} {w : World} {K : Fg} {mg : Str → Option Value} {base : Heap}
theorem ok_arr {f : Addr} {fd : FuncData} (F : Fun K "arrangements" "arrangements" s_arrangements f fd) (T : TxtA K mg) (gm : mg "arrangements" = some (.ref f)) (bd : L2.Binds K fd ["names", "free"] []) : ∀ n, n ≤ 8 → FnOk P w K mg base CX0 n f fd ["names", "free"] (spArrL K n)
  | 0, _ => ⟨fun _ _ _ _ h => h.elim, fun _ _ _ _ _ _ _ _ _ _ _ _ _ h => h.elim⟩
  | n + 1, hn => by
    have C_arrangements : Cal P w K mg base CX0 n "arrangements" ["names", "free"] (spArrL K n) := ⟨f, fd, ok_arr F T gm bd n (by omega), gm, F.kp, bd⟩
    refine F.ok sc_arrangements (fun vs H Q E h => ?_) (fun cdv A outer s H vs Q E hr h => ?_)
    · obtain ⟨a, h, _⟩ := h
      exact h.length
    · obtain ⟨⟨ns, fr⟩, hv, hs, k⟩ := h
      obtain ⟨v0, v1, rfl, h0, h1⟩ := hv.un2
      refine ⟨_, (pss_cons (ps_if (PW.pt (pw_and (pt_cmpR (eqK K hr.units) (pe_callB (lenK K) (by rfl) T.len PySem.boot_len (pa_cons (pv 0) pa_nil)) pe_int (nomark _)) (pw_and1 (pt_cmpR (eqK K hr.units) (pv 1) pe_int (nomark _))))) (pss_one (ps_ret (pe_lst (pa_cons (pe_tup pa_nil) pa_nil)))) pss_nil)
      (pss_cons (ps_set (i := 2) sc_arrangements.nd rfl (Or.inl rfl) (pe_lst pa_nil))
      (pss_cons (ps_if (pt_cmpR op_gt (pv 1) pe_int (nomark _)) (pss_one (ps_expr (pe_bm PySem.F.plainAttrs_list PySem.F.slot_list_extend PySem.F.type_list_extend mt_extend (pv 2) (pa_cons (pe_lc (own := [("rest", 6)]) (g := gName 6) rfl sc_arrangements.nd (pi_lK K (pe_cal C_arrangements hr pass0 (pa_cons (pv 0) (pa_cons (pe_op op_sub (pv 1) pe_int) pa_nil)) (hn := Nat.le_refl _))) (blkOk_by (own := [("rest", 6)]) (N := ["names", "free", "found", "at", "name", "others", "rest"]) (sc := defScope s_arrangements) (by decide +kernel)) (fun _ _ _ _ _ => (pg_name (i := 6) sc_arrangements.nd rfl (Or.inl rfl))) (fun _ _ _ _ _ => pts_nil) (fun _ _ _ _ _ => (pe_op (catT K) (pe_tup (pa_cons pe_non pa_nil)) (pv 6)))) pa_nil)))) pss_nil)
      (pss_cons (ps_for PassesOwn.never rfl (CcE.pi_enumT K T.enumerate (pa_cons (pv 0) pa_nil)) (pg_tK K (n := 2) rfl (pgs_cons (pg_name (i := 3) sc_arrangements.nd rfl (Or.inl rfl)) (pgs_cons (pg_name (i := 4) sc_arrangements.nd rfl (Or.inr rfl)) pgs_nil))) (pss_cons (ps_set (i := 5) sc_arrangements.nd rfl (Or.inl rfl) (pe_op (catT K) (pe_slice (slT K) (pv 0) po_none (po_some (pv 3))) (pe_slice (slT K) (pv 0) (po_some (pe_op op_add (pv 3) pe_int)) po_none)))
      (pss_one (ps_expr (pe_bm PySem.F.plainAttrs_list PySem.F.slot_list_extend PySem.F.type_list_extend mt_extend (pv 2) (pa_cons (pe_lc (own := [("rest", 6)]) (g := gName 6) rfl sc_arrangements.nd (pi_lK K (pe_cal C_arrangements hr pass0 (pa_cons (pv 5) (pa_cons (pv 1) pa_nil)) (hn := Nat.le_refl _))) (blkOk_by (own := [("rest", 6)]) (N := ["names", "free", "found", "at", "name", "others", "rest"]) (sc := defScope s_arrangements) (by decide +kernel)) (fun _ _ _ _ _ => (pg_name (i := 6) sc_arrangements.nd rfl (Or.inl rfl))) (fun _ _ _ _ _ => pts_nil) (fun _ _ _ _ _ => (pe_op (catT K) (pe_tup (pa_cons (pv 4) pa_nil)) (pv 6)))) pa_nil))))))
      (pss_one (ps_ret (pv 2))))))), ?_⟩
      replace hs : ns.length + fr = n := hs
      have hfac : ∀ m, m ≤ 7 → facN m ≤ 5040 := fac_small
      -- nothing to lay
      refine s_when (b := ((ns.length : Int) == 0) && ((fr : Int) == 0)) (gt_and (gt_test (GD.is (gd_op (gd_cb (ga1 (gd_var rfl h0)) (rc_len (d := .tup (ns.map D.str)) (n := ns.length) (by simp [D.len]) (by omega))) gd_i r_eqI) rfl)) fun _ => gt_test (GD.is (gd_op (gd_var rfl h1) gd_i r_eqI) rfl)) (fun hb H1 e1 => ?_) (fun hb H1 e1 => ?_)
      · have hb' := Bool.and_eq_true_iff.mp hb
        have a1 : (ns.length : Int) = 0 := eq_of_beq hb'.1
        have a2 : (fr : Int) = 0 := eq_of_beq hb'.2
        have hn0 : n = 0 := by omega
        subst hn0
        exact gn_lst (K := K) (ds := [.tup []]) (ga1 (gd_tup ga_nil (by simp))) (by simp) H1 (Same.refl _) _ fun p xs H2 hp e2 hx hd => k p xs H2 (e1.free hp) (e1.trans e2) hx hd
      obtain ⟨m, rfl⟩ : ∃ m, n = m + 1 := by
        cases n with
        | zero =>
          have a1 : (ns.length : Int) = 0 := by omega
          have a2 : (fr : Int) = 0 := by omega
          rw [a1, a2] at hb
          cases hb
        | succ m => exact ⟨m, rfl⟩
      dsimp only
      refine s_asgN (K := K) (gn_lst ga_nil (by simp)) fun p xs H2 hp e2 hx hd => ?_
      cases hd
      have p0 : H p = none := e1.free hp
      have h02 := (h0.up e1).up e2
      have h12 := (h1.up e1).up e2
      have fixN : D.fixs (ns.map D.str) = true := D.fixs_iff.mpr fun d hd => by
        obtain ⟨x, _, rfl⟩ := List.mem_map.mp hd
        rfl
      have names_l : ns.length ≤ m + 1 := by omega
      -- the free place ahead
      have noneL : ∀ f', (((Arr.arr m ns f').map layD).map (consD .non)) = ((Arr.arr m ns f').map (none :: ·)).map layD := fun f' => by
        rw [List.map_map, List.map_map]
        rfl
      have someL : ∀ (x : Str) (o : List Str), (((Arr.arr m o fr).map layD).map (consD (.str x))) = ((Arr.arr m o fr).map (some x :: ·)).map layD := fun x o => by
        rw [List.map_map, List.map_map]
        rfl
      have len5 : ∀ o f', o.length + f' = m → ((Arr.arr m o f').map layD).length ≤ 5040 := fun o f' h => by
        rw [List.length_map]
        exact Nat.le_trans (arr_len m o f' h) (hfac m (by omega))
      dsimp only
      have v1x : v1 = .int (fr : Nat) := by cases h1; rfl
      refine s_extIf (K := K) (b := decide (0 < (fr : Int))) (ds := ((Arr.arr m ns (fr - 1)).map (none :: ·)).map layD) (gt_test (gd_op (gd_var rfl h12) gd_i r_intB)) hx (fun _ => at_var rfl) (fun hb H3 e3 => ?_) (fix_lays _) ?_ fun zs H3 b3 hz3 dz3 => ?_
      · have hfr : fr > 0 := by have := of_decide_eq_true hb; omega
        rw [← noneL]
        refine gn_map (K := K) (ds := (Arr.arr m ns (fr - 1)).map layD) (consD .non) (fun H4 e4 => gi_new (gn_call (K := K) (ns, fr - 1) (ga2 (gd_var rfl ((h02.up e3).up e4)) (GD.is (gd_op (gd_var rfl ((h12.up e3).up e4)) gd_i r_int) ?_)) ?_) ls_nil (fix_lays _)) ?_ (fun _ => rfl) (fun d hd => ?_) (fun d x H4 hd e4 hx' => ?_)
        · show D.int ((fr : Int) - 1) = D.int ((fr - 1 : Nat) : Int)
          congr 1; omega
        · show ns.length + (fr - 1) = m; omega
        · have := len5 ns (fr - 1) (by omega); omega
        · obtain ⟨q, _, rfl⟩ := List.mem_map.mp hd
          exact fix_lay (none :: q)
        · obtain ⟨q, _, rfl⟩ := List.mem_map.mp hd
          have hq := arr_each m ns (fr - 1) (by omega) q (by assumption)
          exact gd_op (gd_tup (ga1 gd_n) (by simp)) (gd_var rfl hx') (r_catT (ds := [.non]) (by simp; omega))
      · intro hb
        have hfr : fr > 0 := by have := of_decide_eq_true hb; omega
        rw [← noneL, List.length_map]
        have := len5 ns (fr - 1) (by omega); omega
      have h03 := h02.keep (kp_one b3 hx) (show D.fix (.tup (ns.map D.str)) = true from fixN)
      dsimp only
      refine s_for (K := K) (M := [p]) (ds := enumD (ns.map D.str)) (gi_enumT (gd_var rfl h03) (ls_one hz3) fixN) fun H4 e4 =>
        ⟨fun i σ' H' => ∃ v3 v4 v5 ys, σ' = [some v0, some v1, some (.ref p), v3, v4, v5, none] ∧ But [p] H4 H' ∧ H' p = some (.lst ys) ∧ Dns K H' ys ((if decide (0 < (fr : Int)) then ((Arr.arr m ns (fr - 1)).map (none :: ·)).map layD else []) ++ (((Arr.picks ns).take i).flatMap fun q => (Arr.arr m q.2 fr).map (some q.1 :: ·)).map layD),
        ⟨none, none, none, zs, rfl, But.refl _ _, e4 _ _ hz3, by simpa using dz3.up e4⟩, fun i σ' H' ⟨_, _, _, _, _, q, _⟩ => q, ?_, ?_, ?_⟩
      · rintro i σ' H' H'' e ⟨v3, v4, v5, ys, rfl, q1, q2, q3⟩
        exact ⟨v3, v4, v5, ys, rfl, q1.trans (.of e), e _ _ q2, q3.up e⟩
      · rintro i d x σ' H' hd hx' ⟨v3, v4, v5, ys, rfl, q1, q2, q3⟩
        have hi : i < ns.length := by
          have := (List.getElem?_eq_some_iff.mp hd).1
          simpa [enumD] using this
        obtain rfl : d = .tup [.int (i : Nat), .str ns[i]] := by
          have z : (enumD (ns.map D.str))[i]? = some (.tup [.int (i : Nat), .str ns[i]]) := by simp [enumD, hi]
          rw [z] at hd
          exact (Option.some.inj hd).symm
        have kp : ∀ {Hc : Hp}, But [p] H4 Hc → Kp H3 Hc := fun b => (Kp.of e4).trans (kp_one b (e4 _ _ hz3))
        have h04 := h03.keep (kp q1) (show D.fix (.tup (ns.map D.str)) = true from fixN)
        cases hx' with
        | @tup a xs _ hs' hd' =>
          obtain ⟨w1, w2, rfl, hw1, hw2⟩ := hd'.un2
          cases hw1
          cases hw2
          refine ⟨a, _, rfl, hs', rfl, _, _, rfl, _, _, rfl, rfl, ?_⟩
          dsimp only
          have eo : (ns.map D.str).take i ++ (ns.map D.str).drop (i + 1) = (ns.take i ++ ns.drop (i + 1)).map D.str := by simp
          have ol : (ns.take i ++ ns.drop (i + 1)).length + 1 = ns.length := by simp; omega
          refine s_asg (K := K) (d := .tup ((ns.take i ++ ns.drop (i + 1)).map D.str)) (GD.is (gd_op (gd_slT (gd_var rfl h04) go_none (go_some (K := K) (gd_var rfl (.int (i : Nat))))) (gd_slT (gd_var rfl h04) (go_some (K := K) (i := ((i + 1 : Nat) : Int)) (gd_op (gd_var rfl (.int (i : Nat))) gd_i r_int)) go_none) (r_catT (by rw [cut_to _ _ (by simp; omega), cut_from _ _ (by simp; omega)]; simp; omega))) (by rw [cut_to _ _ (by simp; omega), cut_from _ _ (by simp; omega), eo])) fun vo H5 e5 hvo => ?_
          have fixH : D.fixs ((if decide (0 < (fr : Int)) then ((Arr.arr m ns (fr - 1)).map (none :: ·)).map layD else []) ++ (((Arr.picks ns).take i).flatMap fun q => (Arr.arr m q.2 fr).map (some q.1 :: ·)).map layD) = true := by
            refine D.fixs_iff.mpr fun d hd => ?_
            rcases List.mem_append.mp hd with h | h
            · by_cases c : 0 < (fr : Int)
              · rw [decide_eq_true c, if_pos rfl] at h
                exact D.fixs_iff.mp (fix_lays _) d h
              · rw [decide_eq_false c] at h
                cases h
            · exact D.fixs_iff.mp (fix_lays _) d h
          have h15 := (((h12.keep (kp_one b3 hx) rfl).up e4).keep (kp_one q1 (e4 _ _ hz3)) rfl).up e5
          have tot : ys.length ≤ 45000 := by
            have full := Nat.le_trans (arr_len (m + 1) ns fr hs) (hfac (m + 1) (by omega))
            have l1 := q3.length
            have l2 : (((Arr.picks ns).take i).flatMap fun q => (Arr.arr m q.2 fr).map (some q.1 :: ·)).length ≤ ((Arr.picks ns).flatMap fun q => (Arr.arr m q.2 fr).map (some q.1 :: ·)).length := by
              conv => rhs; rw [← List.take_append_drop i (Arr.picks ns)]
              rw [List.flatMap_append, List.length_append]
              omega
            have l3 : (if decide (0 < (fr : Int)) then ((Arr.arr m ns (fr - 1)).map (none :: ·)).map layD else []).length ≤ 5040 := by
              by_cases c : 0 < (fr : Int)
              · rw [decide_eq_true c, if_pos rfl, List.length_map, List.length_map]
                have := len5 ns (fr - 1) (by omega)
                rwa [List.length_map] at this
              · rw [decide_eq_false c]
                exact Nat.zero_le _
            rw [Arr.arr, List.length_append] at full
            rw [List.length_append, List.length_map] at l1
            omega
          dsimp only
          refine s_extF (K := K) (ds := ((Arr.arr m (ns.take i ++ ns.drop (i + 1)) fr).map (some ns[i] :: ·)).map layD) (e5 _ _ q2) (q3.up e5) fixH (at_var rfl) ?_ (fix_lays _) ?_ fun zs2 H6 b6 hz6 dz6 => ?_
          · rw [← someL]
            refine gn_map (K := K) (ds := (Arr.arr m (ns.take i ++ ns.drop (i + 1)) fr).map layD) (consD (.str ns[i])) (fun H7 e7 => gi_new (gn_call (K := K) (ns.take i ++ ns.drop (i + 1), fr) (ga2 (gd_var rfl (hvo.up e7)) (gd_var rfl (h15.up e7))) ?_) ls_nil (fix_lays _)) ?_ (fun _ => rfl) (fun d hd => ?_) (fun d x H7 hd e7 hx7 => ?_)
            · show (ns.take i ++ ns.drop (i + 1)).length + fr = m; omega
            · have := len5 (ns.take i ++ ns.drop (i + 1)) fr (by omega); omega
            · obtain ⟨q, _, rfl⟩ := List.mem_map.mp hd
              exact fix_lay (some ns[i] :: q)
            · obtain ⟨q, _, rfl⟩ := List.mem_map.mp hd
              have hq := arr_each m (ns.take i ++ ns.drop (i + 1)) fr (by omega) q (by assumption)
              exact gd_op (gd_tup (ga1 (gd_var rfl (.str _))) (by simp)) (gd_var rfl hx7) (r_catT (ds := [.str ns[i]]) (by simp; omega))
          · rw [← q3.length, ← someL, List.length_map]
            have := len5 (ns.take i ++ ns.drop (i + 1)) fr (by omega); omega
          · refine ⟨_, _, _, zs2, rfl, (q1.trans (.of e5)).trans b6, hz6, ?_⟩
            have et : (Arr.picks ns).take (i + 1) = (Arr.picks ns).take i ++ [(ns[i], ns.take i ++ ns.drop (i + 1))] := by
              rw [List.take_add_one, Arr.picks_get ns i hi]
              rfl
            rw [et, List.flatMap_append, List.map_append, ← List.append_assoc]
            simpa using dz6
      · rintro σ' H' ⟨v3, v4, v5, ys, rfl, q1, q2, q3⟩
        dsimp only
        refine ⟨_, rfl, k p ys H' p0 ?_ q2 ?_⟩
        · exact fun c o hc => q1 c o (e4 _ _ (b3 c o (e2 _ _ (e1 _ _ hc)) (by rw [List.mem_singleton]; exact ne_of_none hc p0))) (by rw [List.mem_singleton]; exact ne_of_none hc p0)
        · have el : (enumD (ns.map D.str)).length = (Arr.picks ns).length := by simp [enumD, Arr.picks_length]
          rw [el, List.take_length] at q3
          have ea : (Arr.arr (m + 1) ns fr).map layD = (if decide (0 < (fr : Int)) then ((Arr.arr m ns (fr - 1)).map (none :: ·)).map layD else []) ++ ((Arr.picks ns).flatMap fun q => (Arr.arr m q.2 fr).map (some q.1 :: ·)).map layD := by
            rw [Arr.arr, List.map_append]
            congr 1
            by_cases c : fr > 0
            · rw [if_pos c, if_pos (decide_eq_true (by omega))]
            · rw [if_neg c, if_neg (by simp; omega)]
              rfl
          show Dns K H' ys ((Arr.arr (m + 1) ns fr).map layD)
          rw [ea]
          exact q3
end
end My

/-! all layouts of a store -/
namespace My
open PySem L2 RZ Cc
section
variable {P : Program} {w : World} {K : Fg} {mg : Str → Option Value} {base : Heap} {C CI fI CP CD : Addr}
abbrev spArrA (K : Fg) : Sp := spNew (α := List Str × Nat) K (fun a => [.tup (a.1.map D.str), .int (a.2 : Nat)]) (fun a => a.1.length + a.2 ≤ 6) fun a => (Arr.arr (a.1.length + a.2) a.1 a.2).map layD
theorem ok_arrA {f : Addr} {fd : FuncData} (F : Fun K "arrangements" "arrangements" s_arrangements f fd) (T : TxtA K mg) (gm : mg "arrangements" = some (.ref f)) (bd : L2.Binds K fd ["names", "free"] []) : FnOk P w K mg base CX0 7 f fd ["names", "free"] (spArrA K) := by
  refine ⟨fun vs H Q E h => ?_, fun A outer s H args us vs Q E hr he hb hv hs => ?_⟩
  · obtain ⟨a, h, _⟩ := h
    exact h.length
  · obtain ⟨a, h, hp, k⟩ := hs
    have hp' : a.1.length + a.2 ≤ 6 := hp
    exact ((ok_arr (P := P) (w := w) (base := base) F T gm bd (a.1.length + a.2 + 1) (by omega)).mono (show _ ≤ 7 by omega)).run A outer s H args us vs Q E hr he hb hv ⟨a, h, rfl, k⟩
structure MSt (P : Program) (w : World) (K : Fg) (mg : Str → Option Value) (base : Heap) (C : Addr) : Prop where
  crates : CPrp P w K mg base CX0 1 C "crates" (getSp C "_crates")
  size : CPrp P w K mg base CX0 1 C "size" (getSp C "_size")
abbrev spAll (K : Fg) (C : Addr) : Sp := spNew (α := List (Int × Int) × List Str) K (fun a => [storeD C a.1 (.tup (a.2.map D.str))]) (fun a => sizeOf a.1 ≤ 6 ∧ (a.2.length : Int) ≤ sizeOf a.1) fun a => (Arr.arr (sizeOf a.1).toNat a.2 ((sizeOf a.1).toNat - a.2.length)).map layD
theorem ok_all_layouts {f : Addr} {fd : FuncData} (F : Fun K "all_layouts" "all_layouts" s_all_layouts f fd) (T : TxtS P w K mg C CI fI CP CD) (M : MSt P w K mg base C) (C_arrangements : Cal P w K mg base CX0 7 "arrangements" ["names", "free"] (spArrA K)) : FnOk P w K mg base CX0 8 f fd ["store"] (spAll K C) := by
  have M_crates := M.crates
  have M_size := M.size
  refine F.ok sc_all_layouts (fun vs H Q E h => ?_) (fun cdv A outer s H vs Q E hr h => ?_)
  · obtain ⟨a, h, _⟩ := h
    exact h.length
  · obtain ⟨⟨l, S⟩, hv, ⟨h6, hS⟩, k⟩ := h
    obtain ⟨v, rfl, hw⟩ := hv.un1
    replace h6 : sizeOf l ≤ 6 := h6
    replace hS : (S.length : Int) ≤ sizeOf l := hS
    refine ⟨_, (pss_one (ps_ret (pe_cal C_arrangements hr pass0 (pa_cons (pe_prp M_crates hr pass0 (pv 0)) (pa_cons (pe_op op_sub (pe_prp M_size hr pass0 (pv 0)) (pe_callB (lenK K) (by rfl) T.len PySem.boot_len (pa_cons (pe_prp M_crates hr pass0 (pv 0)) pa_nil))) pa_nil))))), ?_⟩
    obtain ⟨n, hn⟩ : ∃ n : Nat, sizeOf l = n := ⟨(sizeOf l).toNat, by omega⟩
    have e0 : S.length + (n - S.length) = n := by omega
    have e1 : (sizeOf l - (S.length : Int)) = ((n - S.length : Nat) : Int) := by omega
    refine (gn_call (K := K) (S, n - S.length) (ga2 (gd_prp (ns := storeNs) (i := 3) (gd_var rfl hw) rfl (by decide) rfl) (GD.is (gd_op (gd_prp (ns := storeNs) (i := 1) (gd_var rfl hw) rfl (by decide) rfl) (gd_cb (ga1 (gd_prp (ns := storeNs) (i := 3) (gd_var rfl hw) rfl (by decide) rfl)) (rc_len (d := .tup (S.map D.str)) (n := S.length) (by simp [D.len]) (by omega))) r_int) (congrArg D.int e1))) (by show S.length + (n - S.length) ≤ 6; omega)) H (Same.refl _) _ fun p xs H1 hp e2 hx hd => k p xs H1 hp e2 hx ?_
    simp only at hd ⊢
    rw [e0] at hd
    rw [hn]
    exact hd
end
end My

/-! an error that is held in an except suite: isinstance, its field; counting in a list -/
namespace Cc
open PySem L2 PyProof.Rows
/-- what isinstance of such an error gives: with a dict or without one -/
def rIsX (K : Fg) (a : Addr) (cls : Value) (d : Option Addr) : List V → Hp → VK → Prop := fun xs H Q => ∃ (D : Addr) (c : V) (cv : Value) (b : Bool), cls = .ref D ∧ ExcC K D ∧ (d = none ∨ ∃ dd fs, d = some dd ∧ H dd = some (.xd fs)) ∧ xs = [.ref a, c] ∧ ClsV c cv ∧ PySem.W.kitOne K (.ref D) cv = some b ∧ Q (.bl b) H
section
variable {X : Cx} {a : Addr} {oe : Obj} {cls : Value} {d : Option Addr} {pn : List (Addr × Obj)}
theorem clsV_rel {c : V} {cv u : Value} (h : ClsV c cv) (r : RelV c u) : u = cv := by cases h <;> exact r
theorem isX (hz : Zc cls d oe) (hf : ∃ vs, oe.data = .fields vs) {K : Fg} (hK : X.K = K := by rfl) : CallR (X.suite a ((a, oe) :: pn)) (.builtin "isinstance") (rIsX K a cls d) := by
  subst hK
  intro pins s σ H xs us Q I r h
  obtain ⟨D, c, cv, b, rfl, hD, hd, rfl, hc, hk, q⟩ := h
  cases r with
  | cons rx rr =>
    cases rr with
    | cons rt rr =>
      cases rr
      cases rx
      have ec := clsV_rel hc rt
      subst ec
      obtain ⟨hget, _⟩ := I.pin (a, oe) (List.mem_append.mpr (.inl List.mem_cons_self))
      obtain ⟨vs, hv⟩ := hf
      have hcl : (PySem.W.clsIn X.K D).isSome = true := by
        obtain ⟨cd, e, _⟩ := PySem.W.any_some hD.hd
        rw [e]; rfl
      have nc : PySem.W.notCls oe = true := by unfold PySem.W.notCls; rw [hv]
      have fin : ∀ tk, EP (X.suite a ((a, oe) :: pn)) pins σ Q (.bool b) { s with toks := tk } := fun tk => ⟨.bl b, H, I.kept (t' := tk) fun _ _ z => z, rfl, q⟩
      rcases hd with rfl | ⟨dd, fs, rfl, hx⟩
      · have J : PySem.W.InstAt s.heap a oe D none := ⟨hget, hz.1, nc, by rw [hz.2]; trivial⟩
        exact PySem.W.kia_one (PySem.W.kitx_exc hcl hD.hg hD.hk hD.hs hD.ha hD.hn hD.ht hD.hm) I.kIn J hk (fun z => nomatch z) fin
      · have ho : ObjOk X.prog X.w H s.heap dd (.xd fs) := I.hok dd _ hx
        obtain ⟨mA, ⟨od, _, _, hod, _⟩, _⟩ := ho
        have J : PySem.W.InstAt s.heap a oe D (some od) := ⟨hget, hz.1, nc, by rw [hz.2]; exact hod⟩
        exact PySem.W.kia_one (PySem.W.kitx_exc hcl hD.hg hD.hk hD.hs hD.ha hD.hn hD.ht hD.hm) I.kIn J hk (fun z => nomatch z) fin
/-- a field of the held error, its class told when it is read -/
def tXg (K : Fg) (a : Addr) (cls : Value) (d : Option Addr) (f : Str) (te : TE) : TE := fun σ H Q => te σ H fun x H1 => x = .ref a ∧ ∃ (C dd : Addr) (fs : List (Str × V)) (v : V), cls = .ref C ∧ XfC K C ∧ PySem.W.findIn K (.ref C) f = some none ∧ d = some dd ∧ H1 dd = some (.xd fs) ∧ fs.lookup f = some v ∧ Q v H1
theorem pe_xg {e : Expr} {te : TE} {pos : Pos} {n : Str} (hz : Zc cls d oe) (hf : ∃ vs, oe.data = .fields vs) (he : PE (X.suite a ((a, oe) :: pn)) e te) (hb : attributeBase e n X.env (eval e X.env) = eval e X.env := by rfl) {K : Fg} (hK : X.K = K := by rfl) : PE (X.suite a ((a, oe) :: pn)) (.Attribute e n pos) (tXg K a cls d n te) := by
  subst hK
  refine ⟨fun pins s σ H Q I h => attr_of hb (thn (he.run pins s σ H _ I h) fun u s1 hh => ?_)⟩
  obtain ⟨x, H1, I1, rx, rfl, C, dd, fs, v, rfl, XC, hno, rfl, ea, l, q⟩ := hh
  obtain rfl : u = Value.ref a := rx
  obtain ⟨hat, _⟩ := I1.pin (a, oe) (List.mem_append_left _ List.mem_cons_self)
  obtain ⟨vs, hdat⟩ := hf
  have hxd : ObjOk X.prog X.w H1 s1.heap dd (.xd fs) := I1.hok dd _ ea
  obtain ⟨mA, hns, hr⟩ := hxd
  obtain ⟨od, ho, hl⟩ := lookIn_ns hns
  obtain ⟨u, hu, ru⟩ := RelO.some_of (v := v) (o := mA n) (by rw [← l]; exact hr n)
  have nc : PySem.W.notCls oe = true := by unfold PySem.W.notCls; rw [hdat]
  have J : PySem.W.InstAt s1.heap a oe C (some od) := ⟨hat, hz.1, nc, by rw [hz.2]; exact ho⟩
  exact HandSPX.exc_get I1.kIn J XC.ga XC.gg XC.exC (PySem.W.findObj_own XC.hdC hno rfl (by rw [hl, hu])) (handed_of ru) ⟨v, H1, I1.tok _, ru, q⟩
/-- xs.count(y), all plain -/
def rCntF (K : Fg) : V → List V → Hp → VK → Prop := fun x xs H Q => ∃ (p : Addr) (ys : List V) (y : V), x = .ref p ∧ xs = [y] ∧ SqL K H p ys ∧ flatV y = true ∧ ys.all flatV = true ∧ Q (.int (ys.countP fun z => eqV z y : Nat)) H
theorem count_eqU {x : V} : ∀ {xs : List V} {us : List Value}, Vals xs us → xs.all flatV = true → us.countP (eqU x) = xs.countP fun y => eqV y x
  | _, _, .nil, _ => rfl
  | y :: xs, u :: us, .cons r t, f => by
    simp only [List.all_cons, Bool.and_eq_true] at f
    simp only [List.countP_cons, eqU_of r f.1, count_eqU t f.2]
theorem mt_cntF {K : Fg} (hK : X.K = K := by rfl) : MtR X "list.count" (rCntF K) := by
  subst hK
  intro pins s σ H x xs v us Q I rx rxs h
  obtain ⟨p, ys, y, rfl, rfl, hs, fy, fys, q⟩ := h
  cases rx
  obtain ⟨uy, rfl, ry⟩ := rxs.one
  obtain ⟨its, rv, ⟨⟨cl, dd, data, sl⟩, n, ho, hc, hdn, hdt⟩, hlen⟩ := I.list hs
  simp only at hc hdt
  subst hc hdt
  refine call_meets PySem.F.slot_list_count ⟨_, ho, rfl⟩ PySem.F.entry_list_count (PySem.F.args_list_count_2 _ _) (SeqAt.list_countAt p its.toArray n dd sl uy (eqU y)) ⟨ho, fun u' hu' => mem_eqAt ry fy rv fys u' (by simpa using hu'), ?_⟩
  have ec : its.toArray.toList.countP (eqU y) = ys.countP fun z => eqV z y := by simpa using count_eqU rv fys
  refine ⟨.int (ys.countP (fun z => eqV z y) : Nat), H, I.tok _, ⟨s.toks, ?_⟩, q⟩
  rw [← ec]
theorem mt_idxK {K : Fg} (hK : X.K = K := by rfl) : MtR X "list.index" (rIndex K) := hK ▸ mt_index
theorem pe_bmK {K : Fg} {T id : String} {name : Str} {o e : Expr} {es : List Expr} {to : TE} {t : TA} {apos cpos : Pos} {r : V → List V → Hp → VK → Prop} (pa : PlainAttrs T) (slot : Slot T name id) (hty : typeOf (.builtin id) = pure (.type "method_descriptor")) (hm : MtR X id r) (ho : PE X o to) (ha : PA X (e :: es) t)
    (hK : X.K = K := by rfl) (hbase : attributeBase o name X.env (eval o X.env) = eval o X.env := by rfl) (hline : (apos.endLine == cpos.line) = true := by rfl)
    (hfew : ((backTo cpos (starEach (e :: es) X.env)).all (fun x => !x.1) && (backToKw cpos (keywordEach [] X.env)).all (fun x => x.1.isSome) && decide ((e :: es).length + ([] : List Keyword).length + (if ([] : List Keyword).isEmpty then 0 else 1) < 30)) = true := by rfl)
    (he : starEach (e :: es) X.env = (false, eval e X.env) :: starEach es X.env := by rfl) (hpl : (backTo cpos (starEach es X.env)).any (·.1) = false := by rfl) : PE X (.Call (.Attribute o name apos) (e :: es) [] cpos) (tBM K T r to t) := by
  subst hK
  exact pe_bm pa slot hty hm ho ha hbase hfew hline he hpl
end
end Cc

/-! what a law's own body wants more -/
namespace Cc
open PySem L2 PyProof.Rows
def rRepS : R2 := fun x y H Q => ∃ (z : Str) (n : Int), x = .str z ∧ y = .int n ∧ MulOk z n ∧ Q (.str (Txt.mul z n)) H
theorem op_repS {X : Cx} : OpR X (binaryOp .Mult) rRepS := by
  intro pins s σ H x y v u Q I rx ry h
  obtain ⟨z, n, rfl, rfl, ok, q⟩ := h
  obtain ⟨t, rfl⟩ := rx
  obtain ⟨t', rfl⟩ := ry
  exact SB.mul ok fun t2 k => ⟨.str (Txt.mul z n), H, I.tok _, ⟨_, rfl⟩, q⟩
theorem repT {X : Cx} {K : Fg} (h : X.K = K := by rfl) : OpR X (binaryOp .Mult) (rRepT K) := h ▸ op_repT
section
variable {K : Fg} {σ : L2.St} {H H' : Hp} {ta tb te : TE} {d e z : D} {E : Ends}
theorem r_neg {i : Int} : R1D K (rU fun i => .int (-i)) (.int i) (.int (-i)) := fun x H Q hx q => by
  cases hx
  exact ⟨i, rfl, q _ H (Same.refl _) (.int _)⟩
theorem r_repS {z y : Str} {n : Int} (ok : MulOk z n) (h : Txt.mul z n = y) : R2D K rRepS (.str z) (.int n) (.str y) := fun v w H Q hv hw q => by
  cases hv; cases hw
  subst h
  exact ⟨z, n, rfl, rfl, ok, q _ H (Same.refl _) (.str _)⟩
theorem r_repT {ds : List D} {k : Int} (h0 : ds ≠ []) (h1 : 2 ≤ k) (h2 : k ≤ 1000) (h3 : ds.length ≤ 1000) : R2D K (rRepT K) (.tup ds) (.int k) (.tup (List.replicate k.toNat ds).flatten) := fun v w H Q hv hw q => by
  cases hw
  cases hv with
  | @tup a xs _ hs hd =>
    have hl := hd.length
    refine ⟨a, k, xs, rfl, rfl, hs, fun z => ?_, h1, h2, by omega, fun p hp => q _ _ (Same.new hp) (.tup (.inl (.inl upd_same)) ((Dns.rep hd k.toNat).up (Same.new hp)))⟩
    subst z
    have : ds.length = 0 := by simpa using hl.symm
    exact h0 (List.eq_nil_of_length_eq_zero this)
/-- a, b = e by way of a tuple -/
theorem s_asgT {i j : Nat} (h : GD K te σ H (.tup [d, e])) (k : ∀ v w H1, Same H H1 → Dn K H1 v d → Dn K H1 w e → E.nx ((σ.set i (some v)).set j (some w)) H1) : tAsg te (gTup K 2 (gCons (gName i) (gCons (gName j) gNil))) E σ H := h H (Same.refl _) _ fun v H1 e1 hv => by
  cases hv with
  | @tup a xs _ hs hd =>
    obtain ⟨x, y, rfl, hx, hy⟩ := hd.un2
    exact ⟨a, _, rfl, hs, rfl, _, _, rfl, _, _, rfl, rfl, k x y H1 e1 hx hy⟩
theorem ext_kp (e : LamX.ExtN H H') : Kp H H' := fun b o h i => e b o h fun ps z => by subst z; cases i
theorem ext_lst (e : LamX.ExtN H H') {a : Addr} {xs : List V} (h : H a = some (.lst xs)) : H' a = some (.lst xs) := e a _ h fun ps z => by cases z
theorem tabs_but {T : List (Addr × Str)} {r : Addr} {xs : List V} (h : LamX.Tabs T H) (hr : H r = some (.lst xs)) (b : But [r] H H') : LamX.Tabs T H' := fun p hp => by
  obtain ⟨ps, h1, h2, h3⟩ := h p hp
  have nr : ∀ c o, H c = some o → (∀ ys, o ≠ .lst ys) → c ∉ [r] := fun c o hc hn hm => by
    rw [List.mem_singleton.mp hm, hr] at hc
    exact hn xs (Option.some.inj hc).symm
  refine ⟨ps, b _ _ h1 (nr _ _ h1 fun ys z => by cases z), h2, fun pos cv hcv => ?_⟩
  obtain ⟨c, e1, e2⟩ := h3 pos cv hcv
  exact ⟨c, e1, b _ _ e2 (nr _ _ e2 fun ys z => by unfold LamX.CodeO at z; cases z)⟩
end
end Cc

/-! counting in a tuple -/
namespace Cc
open PySem L2 PyProof.Rows
def rCntT (K : Fg) : V → List V → Hp → VK → Prop := fun x xs H Q => ∃ (p : Addr) (ys : List V) (y : V), x = .ref p ∧ xs = [y] ∧ SqT K H p ys ∧ flatV y = true ∧ ys.all flatV = true ∧ Q (.int (ys.countP fun z => eqV z y : Nat)) H
theorem mt_cntT {X : Cx} {K : Fg} (hK : X.K = K := by rfl) : MtR X "tuple.count" (rCntT K) := by
  subst hK
  intro pins s σ H x xs v us Q I rx rxs h
  obtain ⟨p, ys, y, rfl, rfl, hs, fy, fys, q⟩ := h
  cases rx
  obtain ⟨uy, rfl, ry⟩ := rxs.one
  obtain ⟨its, rv, ⟨⟨cl, dd, data, sl⟩, ho, hc, n, hdt⟩, hlen⟩ := I.tuple hs
  simp only at hc hdt
  subst hc hdt
  refine call_meets PySem.F.slot_tuple_count ⟨_, ho, rfl⟩ PySem.F.entry_tuple_count (PySem.F.args_tuple_count_2 _ _) (SeqAt.tuple_countAt p its.toArray n dd sl uy (eqU y)) ⟨ho, fun u' hu' => mem_eqAt ry fy rv fys u' (by simpa using hu'), ?_⟩
  have ec : its.toArray.toList.countP (eqU y) = ys.countP fun z => eqV z y := by simpa using count_eqU rv fys
  refine ⟨.int (ys.countP (fun z => eqV z y) : Nat), H, I.tok _, ⟨s.toks, ?_⟩, q⟩
  rw [← ec]
end Cc

/-! tuples of exact type made at run time: made by a literal and by +, a method called on them -/
namespace Cc
open PySem L2 PyProof.Rows
section
variable {X : Cx}
def tTupP (t : TA) : TE := fun σ H Q => t σ H fun xs H1 => xs.length ≤ sizeLine ∧ ∀ p o, H1 p = none → PlO o → Q (.ref p) (upd H1 p (.frz o (.tup xs)))
theorem pe_tupP {es : List Expr} {t : TA} {pos : Pos} {x1} (h : PA X es t) : PE X (.Tuple es x1 pos) (tTupP t) := by
  refine ⟨fun pins s σ H Q I hq => ?_⟩
  refine wpAny_Tuple_spliced (thn (h.run pos pins s σ H _ I hq) fun us s1 ⟨xs, H1, I1, r, z, q⟩ => ⟨by rw [← r.length]; exact z, ?_⟩)
  have hf : H1 s1.heap.objs.size = none := I1.hok.fresh (Nat.le_refl _)
  have hg := Heap.get?_push_size (h := s1.heap) (o := { cls := .type "tuple", data := .seq us.toArray }) rfl
  refine ⟨.ref s1.heap.objs.size, upd H1 s1.heap.objs.size (.frz _ (.tup xs)), I1.laid (t' := s1.toks) (fun b u e => Heap.get?_push_of_some _ e) (Nat.le_refl _) ⟨hg, z, us, r, ⟨_, hg, rfl, _, rfl⟩⟩, rfl, q _ _ hf ⟨rfl, rfl⟩⟩
/-- t + u, both of exact type -/
def rCatP : R2 := fun x y H Q => ∃ a b xs ys, x = .ref a ∧ y = .ref b ∧ PlT H a xs ∧ PlT H b ys ∧ xs.length + ys.length ≤ sizeLine ∧
  (xs = [] → Q (.ref b) H) ∧ (xs ≠ [] → ys = [] → Q (.ref a) H) ∧ (xs ≠ [] → ys ≠ [] → ∀ p o, H p = none → PlO o → Q (.ref p) (upd H p (.frz o (.tup (xs ++ ys)))))
theorem op_catP : OpR X (binaryOp .Add) rCatP := by
  intro pins s σ H x y v u Q I rx ry h
  obtain ⟨a, b, xs, ys, rfl, rfl, ha, hb, hz, q0, q1, q2⟩ := h
  cases rx
  cases ry
  obtain ⟨its, r1, p1, _⟩ := I.tuple (ha.sq (K := X.K))
  obtain ⟨its2, r2, p2, _⟩ := I.tuple (hb.sq (K := X.K))
  by_cases hx : xs = []
  · subst hx
    cases r1
    exact cat_tup0 p1 p2 ⟨.ref b, H, I, rfl, q0 rfl⟩
  refine HT.cat_tup p1 p2 (fun z => hx (r1.nil_iff.mp z)) (fun z => ⟨.ref a, H, I, rfl, q1 hx (r2.nil_iff.mp z)⟩) (fun z => ?_) (by rw [← r1.length, ← r2.length]; exact hz)
  have hg := Heap.get?_push_size (h := s.heap) (o := { cls := .type "tuple", data := .seq (its ++ its2).toArray }) rfl
  refine ⟨.ref s.heap.objs.size, upd H s.heap.objs.size (.frz { cls := .type "tuple", data := .seq (its ++ its2).toArray } (.tup (xs ++ ys))), I.laid (t' := s.toks) (fun b ob q => Heap.get?_push_of_some _ q) (Nat.le_refl _) ⟨?_, by rw [List.length_append]; exact hz, its ++ its2, r1.append r2, ?_⟩, rfl, q2 hx (fun w => z (r2.nil_iff.mpr w)) _ _ (I.hok.fresh (Nat.le_refl _)) ⟨rfl, rfl⟩⟩
  · simpa using hg
  · simpa using IsTup.new _ _
/-- a method called on a tuple of exact type -/
def tBMP (r : V → List V → Hp → VK → Prop) (to : TE) (t : TA) : TE := fun σ H Q => to σ H fun x H1 => (∃ p xs, x = .ref p ∧ PlT H1 p xs) ∧ t σ H1 fun xs H2 => r x xs H2 Q
theorem pe_bmP {id : String} {name : Str} {o e : Expr} {es : List Expr} {to : TE} {t : TA} {apos cpos : Pos} {r : V → List V → Hp → VK → Prop} (slot : Slot "tuple" name id) (hty : typeOf (.builtin id) = pure (.type "method_descriptor")) (hm : MtR X id r) (ho : PE X o to) (ha : PA X (e :: es) t)
    (hbase : attributeBase o name X.env (eval o X.env) = eval o X.env := by rfl)
    (hfew : ((backTo cpos (starEach (e :: es) X.env)).all (fun x => !x.1) && (backToKw cpos (keywordEach [] X.env)).all (fun x => x.1.isSome) && decide ((e :: es).length + ([] : List Keyword).length + (if ([] : List Keyword).isEmpty then 0 else 1) < 30)) = true := by rfl)
    (hline : (apos.endLine == cpos.line) = true := by rfl) (hs : starEach (e :: es) X.env = (false, eval e X.env) :: starEach es X.env := by rfl) (hpl : (backTo cpos (starEach es X.env)).any (·.1) = false := by rfl) : PE X (.Call (.Attribute o name apos) (e :: es) [] cpos) (tBMP r to t) := by
  refine ⟨fun pins s σ H Q I h => ?_⟩
  refine wpAny_Call_method_late hbase hfew hline rfl (thn (ho.run pins s σ H _ I h) fun v s1 ⟨x, H1, I1, rx, ⟨p, ws, ex, po, pc, pe⟩, q1⟩ => ?_)
  subst ex
  cases rx
  obtain ⟨hg, _⟩ := (show ObjOk X.prog X.w H1 s1.heap p (.frz po (.tup ws)) from I1.hok p _ pe)
  refine ⟨"tuple", id, PySem.F.plainAttrs_tuple, slot, hty, ⟨po, hg, pc.1⟩, fun a' e' => ?_, ?_⟩
  · cases e'
    exact ⟨po, hg, pc.2⟩
  have hA := ha.run cpos pins s1 σ H1 _ I1 q1
  rw [hs] at hA ⊢
  refine Calls.callWith_builtin (by show (false || (backTo cpos (starEach es X.env)).any (·.1)) = false; rw [hpl] <;> rfl) (Calls.evalArgs_plain ?_)
  exact thn hA fun us s2 ⟨vs, H2, I2, r2, q2⟩ => hm pins s2 σ H2 (.ref p) vs (.ref p) us Q I2 rfl r2 q2
end
section
variable {K : Fg} {σ : L2.St} {H : Hp}
theorem gd_tupP {ta : TA} {ds : List D} (ha : GA K ta σ H ds) (hl : ds.length ≤ 100000) : GD K (tTupP ta) σ H (.ptup ds) := fun H1 a Q q =>
  ha H1 a _ fun x H2 a2 hx => ⟨by rw [hx.length, sizeLine_eq]; omega, fun p o hp ho => q _ _ (a2.trans (Same.new hp)) (.ptup ⟨o, ho, upd_same⟩ (hx.up (Same.new hp)))⟩
theorem r_catP {ds es : List D} (h : ds.length + es.length ≤ 100000) : R2D K rCatP (.ptup ds) (.ptup es) (.ptup (ds ++ es)) := fun x y H Q hx hy q => by
  cases hx with
  | @ptup a xs _ hs ha =>
    cases hy with
    | @ptup b ys _ hs2 hb =>
      refine ⟨a, b, xs, ys, rfl, rfl, hs, hs2, by rw [ha.length, hb.length, sizeLine_eq]; omega, fun e => ?_, fun _ e => ?_, fun _ _ p o hp ho => q _ _ (Same.new hp) (.ptup ⟨o, ho, upd_same⟩ ((ha.app hb).up (Same.new hp)))⟩
      · subst e
        cases ha
        exact q _ H (Same.refl _) (.ptup hs2 hb)
      · subst e
        cases hb
        rw [List.append_nil] at q
        exact q _ H (Same.refl _) (.ptup hs ha)
/-- what is known of tuples may be forgotten -/
theorem Dns.ofP {f g : α → D} (h : ∀ a, ∃ ds, f a = .ptup ds ∧ g a = .tup ds) : ∀ {l : List α} {xs : List V}, Dns K H xs (l.map f) → Dns K H xs (l.map g)
  | [], _, hx => by cases hx; exact .nil
  | a :: l, _, hx => by
    cases hx with
    | cons h1 h2 =>
      refine .cons ?_ (Dns.ofP h h2)
      obtain ⟨ds, e1, e2⟩ := h a
      rw [e1] at h1
      show Dn K H _ (g a)
      rw [e2]
      cases h1 with
      | ptup hs hd => exact .tup hs.sq hd
end
end Cc

/-! a built-in function imported by name; math.perm -/
namespace Cc
open PySem L2 PyProof.Rows
open PySem.W (mcPerm)
section
variable {X : Cx}
theorem pe_callG {id : String} {r : List V → Hp → VK → Prop} {x : Str} {e : Expr} {es : List Expr} {t : TA} {p pos : Pos} (hc : CallR X (.builtin id) r) (hm : X.mg x = some (.builtin id)) (ha : PA X (e :: es) t) (hg : Gl X x := by rfl) (hdb : (x == ("__debug__" : Str)) = false := by decide)
    (he : starEach (e :: es) X.env = (false, eval e X.env) :: starEach es X.env := by rfl) (hpl : (backTo pos (starEach es X.env)).any (·.1) = false := by rfl) : PE X (.Call (.Name x p) (e :: es) [] pos) (tCB r t) := by
  refine ⟨fun pins s σ H Q I h => ?_⟩
  refine wpAny_Call_Name_kw (ld_glob I hg hm ?_ hdb)
  exact PyProof.Rows.callWith_builtin1 (thn (ha.run pos pins s σ H _ I h) fun us s1 ⟨vs, H1, I1, r1, q1⟩ => hc pins s1 σ H1 vs us Q I1 r1 q1) he hpl
def rPerm : List V → Hp → VK → Prop := fun xs H Q => ∃ a b : Int, xs = [.int a, .int b] ∧ 0 ≤ a ∧ 0 ≤ b ∧ a < 2 ^ 64 ∧ b ≤ 20000 ∧ Q (.int (mcPerm a b)) H
theorem call_perm : CallR X (.builtin "math.perm") rPerm := by
  intro pins s σ H xs us Q I r h
  obtain ⟨a, b, rfl, h1, h2, h3, h4, q⟩ := h
  obtain ⟨u, v, rfl, ⟨t, rfl⟩, ⟨t', rfl⟩⟩ := vals2 r
  exact call_function_meets PySem.W.MGF.kind_perm PySem.W.MGF.plain_perm PySem.W.MGF.entry_perm (PySem.W.MGF.args_perm _ _) (PySem.W.mc_gives_perm t t' h1 h2 h3 h4).meets ⟨.int _, H, I.tok _, ⟨_, rfl⟩, q⟩
end
end Cc

/-! layout_count -/
namespace My
open PySem L2 RZ Cc
open PySem.W (mcPerm)
section
variable {P : Program} {w : World} {K : Fg} {mg : Str → Option Value} {base : Heap} {C CI fI CP CD : Addr}
theorem rc_perm {K : Fg} {a b : Int} (ha : 0 ≤ a) (hb : 0 ≤ b) (ha2 : a < 2 ^ 64) (hb2 : b ≤ 20000) : RCD K rPerm [.int a, .int b] (.int (mcPerm a b)) := fun vs H Q hv q => by
  obtain ⟨x, y, rfl, hx, hy⟩ := hv.un2
  cases hx
  cases hy
  exact ⟨a, b, rfl, ha, hb, ha2, hb2, q _ H (Same.refl _) (.int _)⟩
abbrev spCount (K : Fg) (C : Addr) : Sp := spOf (α := List (Int × Int) × List Str) K (fun a => [storeD C a.1 (.tup (a.2.map D.str))]) (fun a => 0 ≤ sizeOf a.1 ∧ sizeOf a.1 ≤ 100 ∧ a.2.length ≤ 100) fun a => .int (mcPerm (sizeOf a.1) (a.2.length : Nat))
theorem ok_layout_count {f : Addr} {fd : FuncData} (F : Fun K "layout_count" "layout_count" s_layout_count f fd) (T : TxtS P w K mg C CI fI CP CD) (g_perm : mg "perm" = some (.builtin "math.perm")) (M : MSt P w K mg base C) : FnOk P w K mg base CX0 3 f fd ["store"] (spCount K C) := by
  have M_crates := M.crates
  have M_size := M.size
  refine F.ok sc_layout_count (fun vs H Q E h => ?_) (fun cdv A outer s H vs Q E hr h => ?_)
  · obtain ⟨a, h, _⟩ := h
    exact h.length
  · obtain ⟨⟨l, S⟩, hv, ⟨h0, h1, h2⟩, k⟩ := h
    obtain ⟨v, rfl, hw⟩ := hv.un1
    replace h0 : 0 ≤ sizeOf l := h0
    replace h1 : sizeOf l ≤ 100 := h1
    replace h2 : S.length ≤ 100 := h2
    refine ⟨_, (pss_one (ps_ret (pe_callG call_perm g_perm (pa_cons (pe_prp M_size hr pass0 (pv 0)) (pa_cons (pe_callB (lenK K) (by rfl) T.len PySem.boot_len (pa_cons (pe_prp M_crates hr pass0 (pv 0)) pa_nil)) pa_nil))))), ?_⟩
    exact s_retK (k.up (.refl _)) (gd_cb (ga2 (gd_prp (ns := storeNs) (i := 1) (gd_var rfl hw) rfl (by decide) rfl) (gd_cb (ga1 (gd_prp (ns := storeNs) (i := 3) (gd_var rfl hw) rfl (by decide) rfl)) (rc_len (d := .tup (S.map D.str)) (n := S.length) (by simp [D.len]) (by omega)))) (rc_perm (a := sizeOf l) (b := (S.length : Nat)) h0 (by omega) (by omega) (by omega)))
end
end My

/-! ascending lists of texts -/
namespace Cc
open PySem L2 PyProof.Rows
def leS (a b : Str) : Prop := a.cps.toList ≤ b.cps.toList
theorem leS_trans {a b c : Str} (h : leS a b) (k : leS b c) : leS a c := List.le_trans h k
theorem leS_anti {a b : Str} (h : leS a b) (k : leS b a) : a = b := by
  have e : a.cps.toList = b.cps.toList := List.le_antisymm h k
  cases a; cases b
  simpa using e
theorem rising_pw : ∀ (p : Str) (l : List Str), risingS p l = true → (p :: l).Pairwise leS
  | p, [], _ => List.pairwise_singleton _ _
  | p, x :: r, h => by
    have h' : (!PySem.Spec.ltCps x.cps.toList p.cps.toList) = true ∧ risingS x r = true := by simpa [risingS] using h
    have ih := rising_pw x r h'.2
    have le : leS p x := by
      have := h'.1
      rw [ltCps_eq] at this
      show ¬ _ < _
      simpa using this
    refine List.pairwise_cons.mpr ⟨fun y hy => ?_, ih⟩
    rcases List.mem_cons.mp hy with rfl | hy
    · exact le
    · exact leS_trans le ((List.pairwise_cons.mp ih).1 y hy)
theorem sorted_pw {l : List Str} (h : sortedS l = true) : l.Pairwise leS := by
  cases l with
  | nil => exact .nil
  | cons x r => exact rising_pw x r h
/-- what is ascending and of the same items is the same -/
theorem sorted_one {ys zs : List Str} (p : ys.Perm zs) (hy : sortedS ys = true) (hz : zs.Pairwise leS) : ys = zs :=
  List.Perm.eq_of_pairwise (fun _ _ _ _ h k => leS_anti h k) (sorted_pw hy) hz p
theorem sorted_eq_iff {ys ts S : List Str} (p : ys.Perm ts) (hy : sortedS ys = true) (hS : S.Pairwise leS) : (ys = S) ↔ ts.Perm S :=
  ⟨fun e => e ▸ p.symm, fun q => sorted_one (p.trans q) hy hS⟩
theorem eqv_strs (ys zs : List Str) : (D.lst (ys.map D.str)).eqv (.lst (zs.map D.str)) = decide (ys = zs) := by
  unfold D.eqv
  simp only [D.py]
  rw [D.pys_map, D.pys_map, List.map_map, List.map_map]
  induction ys generalizing zs with
  | nil => cases zs <;> simp [PyData.eqv, PyData.eqvAll]
  | cons y ys ih =>
    cases zs with
    | nil => simp [PyData.eqv, PyData.eqvAll]
    | cons z zs =>
      have := ih zs
      simp only [PyData.eqv] at this ⊢
      simp only [List.map_cons, Function.comp, D.py, PyData.eqv, PyData.eqvAll] at this ⊢
      rw [this]
      by_cases h : y = z <;> simp [h]
end Cc

/-! is_layout -/
namespace My
open PySem L2 RZ Cc PyProof.Rows
section
variable {P : Program} {w : World} {K : Fg} {mg : Str → Option Value} {base : Heap} {C CI fI CP CD : Addr}
theorem shp_strs {xs : List Str} (h : ∀ x ∈ xs, PyData.strOk x = true) : (D.lst (xs.map D.str)).shp = true := by
  have a : PyData.canLayAll0 (D.pys (xs.map D.str)) = true ∧ PyData.depthAll (D.pys (xs.map D.str)) = 0 := by
    induction xs with
    | nil => exact ⟨rfl, rfl⟩
    | cons x xs ih =>
      obtain ⟨i1, i2⟩ := ih fun y hy => h y (List.mem_cons_of_mem _ hy)
      have h1 := h x List.mem_cons_self
      refine ⟨?_, ?_⟩
      · simp [D.pys, D.py, PyData.canLayAll0, PyData.canLay0, h1, i1]
      · simp [D.pys, D.py, PyData.depthAll, PyData.depth, i2]
  simp [D.shp, SeqAt.shaped, D.py, PyData.canLay0, PyData.depth, a.1, a.2]
theorem pl_strs (xs : List Str) : (D.lst (xs.map D.str)).pl = true := D.pls_iff.mpr fun d hd => by
  obtain ⟨x, _, rfl⟩ := List.mem_map.mp hd
  rfl
/-- sorted(texts) == an ascending list -/
theorem gd_sortEq {te tf : TE} {σ : L2.St} {H : Hp} {ts S : List Str} (h1 : GD K te σ H (.lst (ts.map D.str))) (h2 : GN K tf σ H (S.map D.str)) (hl : ts.length < 64) (ht : ∀ x ∈ ts, PyData.strOk x = true) (hs : ∀ x ∈ S, PyData.strOk x = true) (hS : S.Pairwise leS) :
    GD K (tOp (rEqD K) (tCB (rSortedS K) (tCons te tNil)) tf) σ H (.bl (decide (ts.Perm S))) := fun H1 e Q q => h1 H1 e _ fun v H2 e2 hv => by
  cases hv with
  | @lst a xs _ ha hd =>
    have ex := dns_strs hd
    subst ex
    refine ⟨a, ts, rfl, SqL.of ha, hl, fun ys p hp hys hpn => ?_⟩
    have n1 : Same H2 (upd H2 p (.lst (ys.map V.str))) := Same.new hpn
    refine (GN.gd h2) _ ((e.trans e2).trans n1) _ fun z H3 e3 hz => ?_
    have hy : Dn K (upd H2 p (.lst (ys.map V.str))) (.ref p) (.lst (ys.map D.str)) := .lst upd_same (Dns.of (fun z => .str z) ys)
    refine r_eq (pl_strs ys) (pl_strs S) (shp_strs fun x hx => ht x (hp.mem_iff.mp hx)) (shp_strs hs) _ _ H3 Q (hy.up e3) hz fun b H4 e4 hb => q b H4 (((e2.trans n1).trans e3).trans e4) ?_
    rw [eqv_strs, decide_eq_decide.mpr (sorted_eq_iff hp hys hS)] at hb
    exact hb
def flatC : D → Bool
  | .non => true
  | .int _ => true
  | .str x => PyData.strOk x
  | _ => false
def isSome : D → Bool := fun d => match d with | .non => false | _ => true
def txts (ds : List D) : List Str := ds.filterMap fun d => match d with | .str x => some x | _ => none
def isLay (n : Int) (S : List Str) : D → Bool
  | .tup ds => decide ((ds.length : Int) = n) && ((ds.filter isSome).all (D.isT "str") && decide ((txts ds).Perm S))
  | _ => false
def layOk : D → Bool
  | .tup ds => decide (ds.length < 64) && ds.all flatC
  | .lst _ => true
  | _ => false
theorem txts_of {ds : List D} (h : ds.all flatC = true) (k : (ds.filter isSome).all (D.isT "str") = true) : ds.filter isSome = (txts ds).map D.str := by
  induction ds with
  | nil => rfl
  | cons d ds ih =>
    have h' : flatC d = true ∧ ds.all flatC = true := by simpa using h
    cases d with
    | non => exact ih h'.2 k
    | str x =>
      have k' : (ds.filter isSome).all (D.isT "str") = true := by
        have k2 : ((D.str x :: ds.filter isSome)).all (D.isT "str") = true := k
        rw [List.all_cons] at k2
        exact (Bool.and_eq_true_iff.mp k2).2
      show D.str x :: ds.filter isSome = D.str x :: (txts ds).map D.str
      rw [ih h'.2 k']
    | int i =>
      have k2 : ((D.int i :: ds.filter isSome)).all (D.isT "str") = true := k
      rw [List.all_cons] at k2
      cases (Bool.and_eq_true_iff.mp k2).1
    | _ => cases h'.1
structure TxtL (P : Program) (w : World) (K : Fg) (mg : Str → Option Value) (C CI fI CP CD : Addr) : Prop extends TxtS P w K mg C CI fI CP CD where
  sorted : mg "sorted" = none
  list : mg "list" = none
abbrev spIsLay (K : Fg) (C : Addr) : Sp := spOf (α := List (Int × Int) × List Str × D) K (fun a => [storeD C a.1 (.tup (a.2.1.map D.str)), a.2.2]) (fun a => a.2.1.Pairwise leS ∧ a.2.1.length ≤ 50 ∧ (∀ x ∈ a.2.1, PyData.strOk x = true) ∧ layOk a.2.2 = true) fun a => .bl (isLay (sizeOf a.1) a.2.1 a.2.2)
theorem ok_is_layout {f : Addr} {fd : FuncData} (F : Fun K "is_layout" "is_layout" s_is_layout f fd) (T : TxtL P w K mg C CI fI CP CD) (M : MSt P w K mg base C) : FnOk P w K mg base CX0 3 f fd ["store", "value"] (spIsLay K C) := by
  have M_crates := M.crates
  have M_size := M.size
  refine F.ok sc_is_layout (fun vs H Q E h => ?_) (fun cdv A outer s H vs Q E hr h => ?_)
  · obtain ⟨a, h, _⟩ := h
    exact h.length
  · obtain ⟨⟨l, S, d⟩, hv, ⟨hS, hS5, hSk, hd⟩, k⟩ := h
    obtain ⟨v, x, rfl, hw, hx⟩ := hv.un2
    replace hS : S.Pairwise leS := hS
    replace hS5 : S.length ≤ 50 := hS5
    replace hSk : ∀ x ∈ S, PyData.strOk x = true := hSk
    refine ⟨_, (pss_cons (ps_if (PW.pt (pw_or (pt_not (pt_val (pe_callB (isiK K) (by rfl) T.isinstance (by decide +kernel) (pa_cons (pv 1) (pa_cons (pe_ty (T := "tuple") T.tuple) pa_nil))))) (pw_or1 (pt_cmpR (neK K hr.units) (pe_callB (lenK K) (by rfl) T.len PySem.boot_len (pa_cons (pv 1) pa_nil)) (pe_prp M_size hr pass0 (pv 0)) (nomark _))))) (pss_one (ps_ret pe_bl)) pss_nil)
      (pss_cons (ps_setLc (i := 2) (own := [("name", 3)]) (g := gName 3) rfl sc_is_layout.nd rfl rfl (sw_true rfl rfl rfl (by decide +kernel)) (pi_tK K (pv 1)) (blkOk_by (own := [("name", 3)]) (N := ["store", "value", "names", "name"]) (sc := defScope s_is_layout) (by decide +kernel)) (fun _ _ _ _ _ => (pg_name (i := 3) sc_is_layout.nd rfl (Or.inl rfl))) (fun _ _ _ _ _ => (pts_one (pt_cmpR op_notN (pv 3) pe_non (nomark _)))) (fun _ _ _ _ _ => (pv 3)))
      (pss_one (ps_ret (pe_and (pe_callB (allK K) (by rfl) T.all (by decide +kernel) (pa_cons (pe_lc (own := [("name", 3)]) (g := gName 3) rfl sc_is_layout.nd (pi_lK K (pv 2)) (blkOk_by (own := [("name", 3)]) (N := ["store", "value", "names", "name"]) (sc := defScope s_is_layout) (by decide +kernel)) (fun _ _ _ _ _ => (pg_name (i := 3) sc_is_layout.nd rfl (Or.inl rfl))) (fun _ _ _ _ _ => pts_nil) (fun _ _ _ _ _ => (pe_callB (isiK K) (by rfl) T.isinstance (by decide +kernel) (pa_cons (pv 3) (pa_cons (pe_ty (T := "str") T.str) pa_nil))))) pa_nil)) (pe_one (pe_cmpR (eqK K hr.units) (pe_callB cr_sortedS (by rfl) T.sorted (by decide +kernel) (pa_cons (pv 2) pa_nil)) (pe_callTy (lstK K) (by rfl) T.list (by decide +kernel) (pa_cons (pe_prp M_crates hr pass0 (pv 0)) pa_nil)) (nomark _)))))))), ?_⟩
    cases d with
    | tup ds =>
      have hd' : ds.length < 64 ∧ ds.all flatC = true := by simpa [layOk] using hd
      obtain ⟨hl, hf⟩ := hd'
      refine s_when (b := decide (¬ (ds.length : Int) = sizeOf l)) (GT.is (gt_or (gt_not (gt_B (gd_isT (gd_var rfl hx) rfl))) fun _ => gt_test (gd_op (gd_cb (ga1 (gd_var rfl hx)) (rc_len (n := ds.length) rfl (by omega))) (gd_prp (ns := storeNs) (i := 1) (gd_var rfl hw) rfl (by decide) rfl) r_neI)) (by simp [D.isT]; exact Bool.beq_eq_decide_eq _ _)) (fun e H1 e1 => ?_) fun e H1 e1 => ?_
      · have : ¬ (ds.length : Int) = sizeOf l := of_decide_eq_true e
        exact s_retK (k.up e1) (GD.is gd_b (by simp [isLay, this]))
      · have hz : (ds.length : Int) = sizeOf l := Classical.not_not.mp (of_decide_eq_false e)
        dsimp only
        refine s_asgN (K := K) (GN.is (gn_lc (K := K) (ds := ds) isSome id (fun H6 e6 => gi_tupC (gd_var rfl ((hx.up e1).up e6))) (by omega) (fun _ => rfl) (fun d hd _ => ?_) (fun d z H6 hd e6 hz => ?_) (fun d z H6 hd e6 hz _ => gd_var rfl hz)) (List.map_id _)) fun p6 x6 H6 hp6 e6 h6 d6 => ?_
        · have := List.all_eq_true.mp hf d hd
          cases d <;> first | rfl | cases this
        · exact gt_test (gd_op (gd_var rfl hz) gd_n r_notN)
        · dsimp only
          have nb : ∀ d ∈ ds.filter isSome, d.noob = true := fun d hd => by
            have := List.all_eq_true.mp hf d (List.mem_filter.mp hd).1
            cases d <;> first | rfl | cases this
          have ln : (ds.filter isSome).length ≤ ds.length := List.length_filter_le _ _
          refine s_retK ((k.up e1).up e6) (GD.is (gd_and (a := (ds.filter isSome).all (D.isT "str")) (b := decide ((txts ds).Perm S)) (GD.is (gd_cb (ga1 (GN.gd (GN.is (gn_map (fun d => .bl (D.isT "str" d)) (fun H7 e7 => gi_listC (gd_var rfl (.lst (e7 _ _ h6) (d6.up e7)))) (by omega) (fun _ => rfl) (fun d hd => rfl) (fun d y H7 hd e7 hy => gd_isT (gd_var rfl hy) (nb d hd))) (all_bl (D.isT "str"))))) rc_all) (by rw [all_id])) fun ha => ?_) (by simp [isLay, hz]))
          have et := txts_of hf ha
          have lt : (txts ds).length < 64 := by
            have := congrArg List.length et
            rw [List.length_map] at this
            omega
          refine gd_sortEq (GD.is (gd_var rfl (.lst h6 d6)) (congrArg D.lst et)) (gn_list (gd_prp (ns := storeNs) (i := 3) (gd_var rfl ((hw.up e1).up e6)) rfl (by decide) rfl) (.inr rfl)) lt (fun z hz => ?_) hSk hS
          obtain ⟨d, hd, e⟩ := List.mem_filterMap.mp hz
          have := List.all_eq_true.mp hf d hd
          cases d <;> first | (cases e; exact this) | cases e
    | lst ds =>
      refine s_when (b := true) (GT.is (gt_or (b := true) (gt_not (gt_B (gd_isT (gd_var rfl hx) rfl))) fun e => by simp [D.isT] at e) (by simp [D.isT])) (fun e H1 e1 => s_ret gd_b (k.up e1)) fun e => nomatch e
    | _ => cases hd
end
end My

/-! check_layout, check_crate -/
namespace My
open PySem L2 RZ Cc PyProof.Rows
section
variable {P : Program} {w : World} {K : Fg} {mg : Str → Option Value} {base : Heap} {C CI fI CP CD CL CC : Addr}
structure TxtM (P : Program) (w : World) (K : Fg) (mg : Str → Option Value) (C CI fI CP CD CL CC : Addr) : Prop extends TxtL P w K mg C CI fI CP CD where
  x_InvalidLayout : ErrT K mg "InvalidLayout" CL
  x_UnknownCrate : ErrT K mg "UnknownCrate" CC
theorem inV_strs {x : Str} {S : List Str} : inV (.str x) (S.map V.str) = decide (x ∈ S) := by
  unfold inV
  rw [List.any_map]
  induction S with
  | nil => simp
  | cons n ns ih =>
    simp only [List.any_cons, Function.comp, eqV] at ih ⊢
    rw [ih]
    by_cases h : n = x
    · subst h; simp
    · have h' : ¬ x = n := fun z => h z.symm
      simp [h, h']
theorem r_niS {x : Str} {S : List Str} : R2D K (rIn K true) (.str x) (.tup (S.map D.str)) (.bl (!decide (x ∈ S))) := fun v y H Q hx hy q => by
  cases hx
  cases hy with
  | @tup a xs ds hs hd =>
    have e := dns_strs hd
    subst e
    refine ⟨a, _, rfl, .inr hs, rfl, by simp [flatV], ?_⟩
    rw [inV_strs]
    exact q _ H (Same.refl _) (.bl _)
/-- what is asked of a store's crates here -/
def GoodS (S : List Str) : Prop := S.Pairwise leS ∧ S.length ≤ 50 ∧ ∀ x ∈ S, PyData.strOk x = true
def spCheckLay (K : Fg) (C CL : Addr) : Sp := fun vs H Q E => ∃ (l : List (Int × Int)) (S : List Str) (d : D), Dns K H vs [storeD C l (.tup (S.map D.str)), d] ∧ GoodS S ∧ layOk d = true ∧
  (isLay (sizeOf l) S d = true → ∀ H', Same H H' → Q .non H') ∧ (isLay (sizeOf l) S d = false → ∀ H', Same H H' → E (.ref CL) none H')
theorem ok_check_layout {f : Addr} {fd : FuncData} (F : Fun K "check_layout" "check_layout" s_check_layout f fd) (T : TxtM P w K mg C CI fI CP CD CL CC) (C_is_layout : Cal P w K mg base CX0 3 "is_layout" ["store", "value"] (spIsLay K C)) : FnOk P w K mg base (L2.CX P w) 4 f fd ["store", "layout"] (spCheckLay K C CL) := by
  refine F.okX sc_check_layout (fun vs H Q E h => ?_) (fun cdv A outer s H vs Q E hr h => ?_)
  · obtain ⟨l, e, d, h, _⟩ := h
    exact h.length
  · obtain ⟨l, S, d, hv, ⟨g1, g2, g3⟩, hd, k1, k2⟩ := h
    obtain ⟨v, x, rfl, hv, hx⟩ := hv.un2
    refine ⟨_, (pss_one (ps_if (pt_not (pt_val (pe_cal C_is_layout hr pass0 (pa_cons (pv 0) (pa_cons (pv 1) pa_nil))))) (pss_one (ps_raiseT rfl (takes_of rfl rfl rfl rfl) T.x_InvalidLayout)) pss_nil)), ?_⟩
    refine s_when (b := !isLay (sizeOf l) S d) (gt_not (gt_B (gd_call (l, S, d) (ga2 (gd_var rfl hv) (gd_var rfl hx)) ⟨g1, g2, g3, hd⟩))) (fun h H1 e1 => ?_) (fun h H1 e1 => ?_)
    · exact k2 (by simpa using h) H1 e1
    · exact k1 (by simpa using h) H1 e1
def spCheckCrate (K : Fg) (C CC : Addr) : Sp := fun vs H Q E => ∃ (l : List (Int × Int)) (S : List Str) (x : Str), Dns K H vs [storeD C l (.tup (S.map D.str)), .str x] ∧
  (x ∈ S → ∀ H', Same H H' → Q .non H') ∧ (x ∉ S → ∀ H', Same H H' → E (.ref CC) none H')
theorem ok_check_crate {f : Addr} {fd : FuncData} (F : Fun K "check_crate" "check_crate" s_check_crate f fd) (T : TxtM P w K mg C CI fI CP CD CL CC) (M : MSt P w K mg base C) : FnOk P w K mg base (L2.CX P w) 3 f fd ["store", "name"] (spCheckCrate K C CC) := by
  have M_crates := M.crates
  refine F.okX sc_check_crate (fun vs H Q E h => ?_) (fun cdv A outer s H vs Q E hr h => ?_)
  · obtain ⟨l, e, d, h, _⟩ := h
    exact h.length
  · obtain ⟨l, S, x, hv, k1, k2⟩ := h
    obtain ⟨v, y, rfl, hv, hx⟩ := hv.un2
    refine ⟨_, (pss_one (ps_if (pt_cmpR (niK K) (pv 1) (pe_prp M_crates hr pass0 (pv 0)) rfl) (pss_one (ps_raiseT rfl (takes_of rfl rfl rfl rfl) T.x_UnknownCrate)) pss_nil)), ?_⟩
    refine s_when (b := !decide (x ∈ S)) (gt_test (gd_op (gd_var rfl hx) (gd_prp (ns := storeNs) (i := 3) (gd_var rfl hv) rfl (by decide) rfl) r_niS)) (fun h H1 e1 => ?_) (fun h H1 e1 => ?_)
    · exact k2 (by simpa using h) H1 e1
    · exact k1 (by simpa using h) H1 e1
end
end My

namespace My
open PySem L2 RZ Cc
theorem bfs_last {α : Type} [DecidableEq α] (S : List α) (F : Nat) : ∀ (k : Nat) (l : List (List (Option α))), Arr.bfs S F (k + 1) l = (Arr.bfs S F k l).flatMap (Arr.step S F)
  | 0, l => rfl
  | k + 1, l => by rw [Arr.bfs, bfs_last S F k]; rfl
theorem step_len (S : List Str) (F : Nat) (p : List (Option Str)) : (Arr.step S F p).length ≤ S.length + 1 := by
  unfold Arr.step
  rw [List.length_append, List.length_map]
  have h1 := List.length_filter_le (fun x => decide (some x ∉ p)) S
  by_cases c : p.count none < F
  · rw [if_pos c, List.length_singleton]; omega
  · rw [if_neg c, List.length_nil]; omega
theorem flat_len (S : List Str) (F : Nat) : ∀ l : List (List (Option Str)), (l.flatMap (Arr.step S F)).length ≤ l.length * (S.length + 1)
  | [] => by simp
  | p :: l => by
    have h1 := step_len S F p
    have h2 := flat_len S F l
    simp only [List.flatMap_cons, List.length_append, List.length_cons, Nat.add_mul, Nat.one_mul]
    omega
theorem bfs_len (S : List Str) (F : Nat) (hS : S.length ≤ 5) : ∀ k, (Arr.bfs S F k [[]]).length ≤ 6 ^ k
  | 0 => by simp [Arr.bfs]
  | k + 1 => by
    rw [bfs_last]
    have h1 := flat_len S F (Arr.bfs S F k [[]])
    have h2 := bfs_len S F hS k
    have h3 := Nat.mul_le_mul h2 (show S.length + 1 ≤ 6 by omega)
    rw [Nat.pow_succ]
    omega
theorem bfs_each (S : List Str) (F : Nat) : ∀ k, ∀ q ∈ Arr.bfs S F k [[]], q.length = k
  | 0, q, h => by simp [Arr.bfs] at h; simp [h]
  | k + 1, q, h => by
    rw [bfs_last] at h
    obtain ⟨p, hp, hq⟩ := List.mem_flatMap.mp h
    have hl := bfs_each S F k p hp
    unfold Arr.step at hq
    rcases List.mem_append.mp hq with hq | hq
    · split at hq
      · rw [List.mem_singleton.mp hq]; simp [hl]
      · cases hq
    · obtain ⟨x, _, rfl⟩ := List.mem_map.mp hq
      simp [hl]
def cellV : Option Str → V
  | none => .non
  | some x => .str x
theorem dns_cells {K : Fg} {H : Hp} : ∀ {vs : List V} {q : List (Option Str)}, Dns K H vs (q.map cellD) → vs = q.map cellV
  | _, [], h => by cases h; rfl
  | _, none :: q, h => by
    cases h with
    | cons h1 h2 => cases h1; rw [dns_cells h2]; rfl
  | _, some x :: q, h => by
    cases h with
    | cons h1 h2 => cases h1; rw [dns_cells h2]; rfl
theorem flat_cells (q : List (Option Str)) : (q.map cellV).all flatV = true := List.all_eq_true.mpr fun v hv => by
  obtain ⟨c, _, rfl⟩ := List.mem_map.mp hv
  cases c <;> rfl
theorem inV_cells (x : Str) : ∀ q : List (Option Str), inV (.str x) (q.map cellV) = decide (some x ∈ q)
  | [] => by simp [inV]
  | c :: q => by
    have ih := inV_cells x q
    unfold inV at ih ⊢
    rw [List.map_cons, List.any_cons, ih]
    cases c with
    | none => simp [cellV, eqV]
    | some y =>
      by_cases h : y = x
      · subst h; simp [cellV, eqV]
      · have h' : ¬ x = y := fun z => h z.symm
        simp [cellV, eqV, h, h']
theorem cnt_cells : ∀ q : List (Option Str), (q.map cellV).countP (fun z => eqV z .non) = q.count none
  | [] => rfl
  | c :: q => by
    have ih := cnt_cells q
    rw [List.map_cons, List.countP_cons, ih, List.count_cons]
    cases c <;> rfl
def layP (q : List (Option Str)) : D := .ptup (q.map cellD)
section
variable {K : Fg} {σ : L2.St} {H : Hp} {te ta tb : TE} {t : TT}
theorem r_niCell {x : Str} {q : List (Option Str)} : R2D K (rIn K true) (.str x) (.ptup (q.map cellD)) (.bl (!decide (some x ∈ q))) := fun v w H Q hv hw k => by
  cases hv
  cases hw with
  | @ptup a xs ds hs hd =>
    have e := dns_cells hd
    subst e
    refine ⟨a, _, rfl, .inr hs.sq, rfl, flat_cells q, ?_⟩
    rw [inV_cells]
    exact k _ H (Same.refl _) (.bl _)
theorem gd_cntCell {q : List (Option Str)} (h : GD K te σ H (layP q)) : GD K (tBMP (rCntT K) te (tCons (tC .non) tNil)) σ H (.int (q.count none : Nat)) := fun H1 e Q k =>
  h H1 e _ fun v H2 e2 hv => by
    cases hv with
    | @ptup p xs ds hs hd =>
      have ex := dns_cells hd
      subst ex
      refine ⟨⟨p, _, rfl, hs⟩, p, _, .non, rfl, rfl, hs.sq, rfl, flat_cells q, ?_⟩
      rw [cnt_cells]
      exact k _ H2 e2 (.int _)
theorem gn_if {b : Bool} {ds : List D} (h : GT t σ H b) (h1 : b = true → GN K ta σ H ds) (h2 : b = false → GN K tb σ H ds) : GN K (tIf t ta tb) σ H ds := fun H1 c Q q => h H1 c _ fun H2 c2 => by
  cases b with
  | true => exact (if_pos rfl).mpr (h1 rfl H2 (c.trans c2) _ fun p xs H3 hp e3 hx hd => q p xs H3 (c2.free hp) (c2.trans e3) hx hd)
  | false => exact (if_neg Bool.false_ne_true).mpr (h2 rfl H2 (c.trans c2) _ fun p xs H3 hp e3 hx hd => q p xs H3 (c2.free hp) (c2.trans e3) hx hd)
end
abbrev spLayouts (K : Fg) : Sp := spNew (α := List (Int × Int) × List Str) K (fun a => [.tup [doorsD a.1, .tup (a.2.map D.str)]]) (fun a => a.1.length ≤ 100 ∧ (∀ p ∈ a.1, 0 ≤ p.2 ∧ p.2 ≤ 100) ∧ a.2.Nodup ∧ a.2.length ≤ 5 ∧ (edgesFrom 0 a.1).length ≤ 6 ∧ a.2.length ≤ (edgesFrom 0 a.1).length)
  fun a => (Arr.bfs a.2 ((edgesFrom 0 a.1).length - a.2.length) (edgesFrom 0 a.1).length [[]]).map layP
section
variable {P : Program} {w : World} {K : Fg} {mg : Str → Option Value} {base : Heap}
theorem ok_layouts {f : Addr} {fd : FuncData} (F : Fun K "_law_layouts" "_law_layouts" s__law_layouts f fd) (T : Txt2 K mg) (C__law_edges : Cal P w K mg base CX0 1 "_law_edges" ["_law_s"] (spEdges K)) : FnOk P w K mg base CX0 2 f fd ["_law_s"] (spLayouts K) := by
  refine F.ok sc__law_layouts (fun vs H Q E h => ?_) (fun cdv A outer s H vs Q E hr h => ?_)
  · obtain ⟨a, h, _⟩ := h
    exact h.length
  · obtain ⟨⟨l, S⟩, hv, ⟨hl, hb, hnd, hS5, hz6, hSz⟩, k⟩ := h
    obtain ⟨v0, rfl, h0⟩ := hv.un1
    replace hl : l.length ≤ 100 := hl
    replace hb : ∀ p ∈ l, 0 ≤ p.2 ∧ p.2 ≤ 100 := hb
    replace hnd : S.Nodup := hnd
    replace hS5 : S.length ≤ 5 := hS5
    replace hz6 : (edgesFrom 0 l).length ≤ 6 := hz6
    replace hSz : S.length ≤ (edgesFrom 0 l).length := hSz
    refine ⟨_, (pss_cons (ps_par (i := 1) (j := 2) rfl sc__law_layouts.nd rfl rfl (by decide) rfl rfl (pa_cons (pe_callB (lenK K) (by rfl) T.len PySem.boot_len (pa_cons (pe_cal C__law_edges hr pass0 (pa_cons (pv 0) pa_nil)) pa_nil)) (pa_cons (pe_lst (pa_cons (pe_tupP pa_nil) pa_nil)) pa_nil)) (by rfl))
      (pss_cons (ps_for PassesOwn.never rfl (pi_range1 (by rfl) T.range (pa_cons (pv 1) pa_nil)) (pg_name (i := 3) sc__law_layouts.nd rfl (Or.inl rfl)) (pss_cons (ps_set (i := 4) sc__law_layouts.nd rfl (Or.inl rfl) (pe_lst pa_nil))
      (pss_cons (ps_for PassesOwn.never rfl (pi_lK K (pv 2)) (pg_name (i := 5) sc__law_layouts.nd rfl (Or.inr rfl)) (pss_cons (ps_setLc (i := 6) (own := [("_law_name", 8)]) (g := gName 8) rfl sc__law_layouts.nd rfl rfl (sw_true rfl rfl rfl (by decide +kernel)) (pi_tK K (pe_ix (ixT K) (pv 0) pe_int (fun _ _ => rfl))) (blkOk_by (own := [("_law_name", 8)]) (N := ["_law_s", "_law_size", "_law_found", "_law_turn", "_law_longer", "_law_some", "_law_left", "_law_free", "_law_name", "_law_one"]) (sc := defScope s__law_layouts) (by decide +kernel)) (fun _ _ _ _ _ => (pg_name (i := 8) sc__law_layouts.nd rfl (Or.inl rfl))) (fun _ _ _ _ _ => (pts_one (pt_cmpR (niK K) (pv 8) (pv 5) rfl))) (fun _ _ _ _ _ => (pv 8)))
      (pss_cons (ps_set (i := 7) sc__law_layouts.nd rfl (Or.inl rfl) (pe_ifExp (pt_cmpR op_lt (pe_bmP PySem.F.slot_tuple_count PySem.F.type_tuple_count mt_cntT (pv 5) (pa_cons pe_non pa_nil)) (pe_op op_sub (pv 1) (pe_callB (lenK K) (by rfl) T.len PySem.boot_len (pa_cons (pe_ix (ixT K) (pv 0) pe_int (fun _ _ => rfl)) pa_nil))) (nomark _)) (pe_lst (pa_cons pe_non pa_nil)) (pe_lst pa_nil)))
      (pss_one (ps_set (i := 4) sc__law_layouts.nd rfl (Or.inl rfl) (pe_op op_cat (pv 4) (pe_lc (own := [("_law_one", 9)]) (g := gName 9) rfl sc__law_layouts.nd (pi_lK K (pe_op op_cat (pv 7) (pv 6))) (blkOk_by (own := [("_law_one", 9)]) (N := ["_law_s", "_law_size", "_law_found", "_law_turn", "_law_longer", "_law_some", "_law_left", "_law_free", "_law_name", "_law_one"]) (sc := defScope s__law_layouts) (by decide +kernel)) (fun _ _ _ _ _ => (pg_name (i := 9) sc__law_layouts.nd rfl (Or.inl rfl))) (fun _ _ _ _ _ => pts_nil) (fun _ _ _ _ _ => (pe_op op_catP (pv 5) (pe_tupP (pa_cons (pv 9) pa_nil)))))))))))
      (pss_one (ps_set (i := 2) sc__law_layouts.nd rfl (Or.inl rfl) (pv 4))))))
      (pss_one (ps_ret (pv 2))))), ?_⟩
    generalize hsz : (edgesFrom 0 l).length = size at *
    have fixS : D.fix (.tup (S.map D.str)) = true := D.fixs_iff.mpr fun d hd => by
      obtain ⟨x, _, rfl⟩ := List.mem_map.mp hd
      rfl
    refine (gd_cb (K := K) (ga1 (GN.gd (gn_call (K := K) (l, .tup (S.map D.str)) (ga1 (gd_var rfl h0)) ⟨hl, hb⟩))) (rc_len (d := .lst ((edgesFrom 0 l).map D.int)) (n := size) (by simp [D.len, hsz]) (by omega))) H (Same.refl _) _ fun w1 H1 e1 hw1 => ?_
    cases hw1
    refine (gn_lst (K := K) (ds := [.ptup []]) (ga1 (gd_tupP ga_nil (by simp))) (by simp)) H1 (Same.refl _) _ fun p xs H2 hp e2 hx hd => ⟨_, _, rfl, ?_⟩
    have e12 := e1.trans e2
    have p0 := e1.free hp
    dsimp only
    refine s_for (K := K) (M := []) (ds := (List.range size).map fun i => D.int (i : Nat)) ?_ fun H3 e3 =>
      ⟨fun i σ' H' => ∃ pF xF v3 v4 v5 v6 v7, σ' = [some v0, some (.int (size : Nat)), some (.ref pF), v3, v4, v5, v6, v7, none, none] ∧ Same H3 H' ∧ H pF = none ∧ H' pF = some (.lst xF) ∧ Dns K H' xF ((Arr.bfs S (size - S.length) i [[]]).map layP), ⟨p, xs, none, none, none, none, none, rfl, .refl _, p0, e3 _ _ hx, hd.up e3⟩, fun i σ' H' ⟨_, _, _, _, _, _, _, _, q, _⟩ => .of q, ?_, ?_, ?_⟩
    · rw [show List.range size = List.range ((size : Nat) : Int).toNat by simp]
      exact gi_range1 (n := (size : Nat)) (ga1 (gd_var rfl (.int _))) (by omega) (by omega)
    · rintro i σ' H' Hq q ⟨pF, xF, v3, v4, v5, v6, v7, rfl, q1, q2, q3, q4⟩
      exact ⟨pF, xF, v3, v4, v5, v6, v7, rfl, q1.trans q, q2, q _ _ q3, q4.up q⟩
    · rintro i d x σ' H' hd' hx' ⟨pF, xF, v3, v4, v5, v6, v7, rfl, q1, q2, q3, q4⟩
      have eH : Same H H' := (e12.trans e3).trans q1
      have hi : i < size := by
        have := (List.getElem?_eq_some_iff.mp hd').1
        simpa using this
      dsimp only [gName]
      refine s_asgN (K := K) (gn_lst ga_nil (by simp)) fun pl xl H4 hpl e4 hxl hdl => ?_
      cases hdl
      have pl0 : H pl = none := eH.free hpl
      dsimp only
      have bl : (Arr.bfs S (size - S.length) i [[]]).length ≤ 7776 := by
        have h1 := bfs_len S (size - S.length) hS5 i
        have h2 : 6 ^ i ≤ 6 ^ 5 := Nat.pow_le_pow_right (by decide) (by omega)
        omega
      refine s_for (K := K) (M := []) (ds := (Arr.bfs S (size - S.length) i [[]]).map layP) ?_ fun H5 e5 =>
        ⟨fun j σ'' H'' => ∃ pL xL u5 u6 u7, σ'' = [some v0, some (.int (size : Nat)), some (.ref pF), some x, some (.ref pL), u5, u6, u7, none, none] ∧ Same H5 H'' ∧ H pL = none ∧ H'' pL = some (.lst xL) ∧ Dns K H'' xL ((((Arr.bfs S (size - S.length) i [[]]).take j).flatMap (Arr.step S (size - S.length))).map layP), ⟨pl, [], v5, v6, v7, rfl, .refl _, pl0, e5 _ _ hxl, .nil⟩, fun j σ'' H'' ⟨_, _, _, _, _, _, q, _⟩ => .of q, ?_, ?_, ?_⟩
      · exact gi_listC (gd_var rfl (.lst (e4 _ _ q3) (q4.up e4)))
      · rintro j σ'' H'' Hq q ⟨pL, xL, u5, u6, u7, rfl, r1, r2, r3, r4⟩
        exact ⟨pL, xL, u5, u6, u7, rfl, r1.trans q, r2, q _ _ r3, r4.up q⟩
      · rintro j d' y σ'' H'' hdj hy ⟨pL, xL, u5, u6, u7, rfl, r1, r2, r3, r4⟩
        obtain ⟨q, hq, rfl⟩ : ∃ q, (Arr.bfs S (size - S.length) i [[]])[j]? = some q ∧ d' = layP q := by
          rw [List.getElem?_map] at hdj
          rcases h : (Arr.bfs S (size - S.length) i [[]])[j]? with _ | q
          · rw [h] at hdj; cases hdj
          · rw [h] at hdj; exact ⟨q, rfl, (Option.some.inj hdj).symm⟩
        have ql := bfs_each S (size - S.length) i q (List.mem_of_getElem? hq)
        have eH2 : Same H H'' := ((eH.trans e4).trans e5).trans r1
        have s1 : ∀ {H : Hp} {σ : L2.St}, Dn K H v0 (.tup [doorsD l, .tup (S.map D.str)]) → σ[0]? = some (some v0) → GD K (tOp (rIxT K) (tVar 0) (tC (.int 1))) σ H (.tup (S.map D.str)) := fun h hσ => gd_op (gd_var hσ h) gd_i (r_ixT (ds := [doorsD l, .tup (S.map D.str)]) (i := 1) rfl)
        have leftE : ((S.map D.str).filter fun d => match d with | .str x => decide (some x ∉ q) | _ => false).map id = (S.filter fun x => decide (some x ∉ q)).map D.str := by
          rw [List.map_id, List.filter_map]
          rfl
        dsimp only [gName]
        refine s_asgN (K := K) (GN.is (gn_lc (K := K) (ds := S.map D.str) (fun d => match d with | .str x => decide (some x ∉ q) | _ => false) id (fun H6 e6 => gi_tupC (s1 ((h0.up eH2).up e6) rfl)) (by rw [List.length_map]; omega) (fun _ => rfl) (fun d hd _ => ?_) (fun d z H6 hd e6 hz => ?_) (fun d z H6 hd e6 hz _ => gd_var rfl hz)) leftE) fun p6 x6 H6 hp6 e6 h6 d6 => ?_
        · obtain ⟨z, _, rfl⟩ := List.mem_map.mp hd
          rfl
        · obtain ⟨w, _, rfl⟩ := List.mem_map.mp hd
          exact gt_test (GD.is (gd_op (gd_var rfl hz) (gd_var rfl (hy.up e6)) r_niCell) (by simp))
        have s6 : Same H H6 := eH2.trans e6
        dsimp only
        refine s_asgN (K := K) (ds := if q.count none < size - S.length then [.non] else []) (gn_if (b := decide ((q.count none : Int) < (size : Int) - (S.length : Int))) (gt_test (gd_op (gd_cntCell (gd_var rfl (hy.up e6))) (gd_op (gd_var rfl (.int (size : Nat))) (gd_cb (ga1 (s1 (h0.up s6) rfl)) (rc_len (d := .tup (S.map D.str)) (n := S.length) (by simp [D.len]) (by omega))) r_int) r_intB)) (fun h => ?_) (fun h => ?_)) fun p7 x7 H7 hp7 e7 h7 d7 => ?_
        · have c : q.count none < size - S.length := by have := of_decide_eq_true h; omega
          rw [if_pos c]
          exact gn_lst (ga1 gd_n) (by simp)
        · have c : ¬ q.count none < size - S.length := by have := of_decide_eq_false h; omega
          rw [if_neg c]
          exact gn_lst ga_nil (by simp)
        have stepE : ((if q.count none < size - S.length then [D.non] else []) ++ (S.filter fun x => decide (some x ∉ q)).map D.str).map (fun d => D.ptup (q.map cellD ++ [d])) = (Arr.step S (size - S.length) q).map layP := by
          unfold Arr.step
          rw [List.map_append, List.map_append, List.map_map, List.map_map]
          congr 1
          · by_cases c : q.count none < size - S.length
            · rw [if_pos c, if_pos c]; simp [layP, cellD]
            · rw [if_neg c, if_neg c]; rfl
          · refine List.map_congr_left fun x _ => ?_
            simp [layP, cellD]
        have fl : ((if q.count none < size - S.length then [D.non] else []) ++ (S.filter fun x => decide (some x ∉ q)).map D.str).length ≤ 6 := by
          have h1 := List.length_filter_le (fun x => decide (some x ∉ q)) S
          rw [List.length_append, List.length_map]
          by_cases c : q.count none < size - S.length
          · rw [if_pos c, List.length_singleton]; omega
          · rw [if_neg c, List.length_nil]; omega
        have tl : xL.length ≤ 50000 := by
          have h1 := r4.length
          have h2 := flat_len S (size - S.length) ((Arr.bfs S (size - S.length) i [[]]).take j)
          have h3 : ((Arr.bfs S (size - S.length) i [[]]).take j).length ≤ 7776 := by rw [List.length_take]; omega
          have h4 := Nat.mul_le_mul h3 (show S.length + 1 ≤ 6 by omega)
          rw [List.length_map] at h1
          omega
        have hx7 := (hy.up e6).up e7
        dsimp only
        refine s_asgN (K := K) (gn_cat (es := (Arr.step S (size - S.length) q).map layP) (gd_var rfl (.lst (e7 _ _ (e6 _ _ r3)) ((r4.up e6).up e7))) (GN.gd (GN.is (gn_map (K := K) (ds := (if q.count none < size - S.length then [D.non] else []) ++ (S.filter fun x => decide (some x ∉ q)).map D.str) (fun d => D.ptup (q.map cellD ++ [d])) (fun H8 e8 => gi_listC (GN.gd (gn_cat (gd_var rfl (.lst (e8 _ _ h7) (d7.up e8))) (gd_var rfl (.lst (e8 _ _ (e7 _ _ h6)) ((d6.up e7).up e8))) (by rw [← List.length_append]; omega)))) (by omega) (fun _ => rfl) (fun d hd => ?_) (fun d z H8 hd e8 hz => gd_op (gd_var rfl (hx7.up e8)) (gd_tupP (ga1 (gd_var rfl hz)) (by simp)) (r_catP (ds := q.map cellD) (by simp; omega)))) stepE)) ?_) fun p8 x8 H8 hp8 e8 h8 d8 => ?_
        · have fq : D.fixs (q.map cellD) = true := D.fixs_iff.mpr fun d hd => by
            obtain ⟨z, _, rfl⟩ := List.mem_map.mp hd
            cases z <;> rfl
          refine D.fixs_iff.mpr fun e he => ?_
          rcases List.mem_append.mp he with he | he
          · exact D.fixs_iff.mp fq e he
          · rw [List.mem_singleton.mp he]
            rcases List.mem_append.mp hd with hd | hd
            · by_cases c : q.count none < size - S.length
              · rw [if_pos c] at hd; rw [List.mem_singleton.mp hd]; rfl
              · rw [if_neg c] at hd; cases hd
            · obtain ⟨z, _, rfl⟩ := List.mem_map.mp hd
              rfl
        · have h1 := r4.length
          have h2 := step_len S (size - S.length) q
          rw [← h1, List.length_map]
          omega
        · refine ⟨p8, x8, _, _, _, rfl, ((r1.trans e6).trans e7).trans e8, (s6.trans e7).free hp8, h8, ?_⟩
          have et : (Arr.bfs S (size - S.length) i [[]]).take (j + 1) = (Arr.bfs S (size - S.length) i [[]]).take j ++ [q] := by rw [List.take_add_one, hq]; rfl
          rw [et, List.flatMap_append, List.map_append]
          simpa using d8
      · rintro σ'' H'' ⟨pL, xL, u5, u6, u7, rfl, r1, r2, r3, r4⟩
        rw [List.length_map, List.take_length, ← bfs_last] at r4
        dsimp only
        exact ⟨_, rfl, pL, xL, _, _, _, _, _, rfl, ((q1.trans e4).trans e5).trans r1, r2, r3, r4⟩
    · rintro σ' H' ⟨pF, xF, v3, v4, v5, v6, v7, rfl, q1, q2, q3, q4⟩
      dsimp only
      rw [List.length_map, List.length_range] at q4
      exact ⟨_, rfl, k pF xF H' q2 ((e12.trans e3).trans q1) q3 (by simpa [hsz] using q4)⟩
end
end My

/-! the first place in a tuple -/
namespace Cc
open PySem L2 PyProof.Rows
def rIdxT (K : Fg) : V → List V → Hp → VK → Prop := fun x xs H Q => ∃ (p : Addr) (ys : List V) (y z : V) (j : Nat), x = .ref p ∧ xs = [y] ∧ SqT K H p ys ∧ flatV y = true ∧ ys.all flatV = true ∧ ys[j]? = some z ∧ eqV z y = true ∧ (∀ m z', m < j → ys[m]? = some z' → eqV z' y = false) ∧ Q (.int (j : Nat)) H
theorem mt_idxT {X : Cx} {K : Fg} (hK : X.K = K := by rfl) : MtR X "tuple.index" (rIdxT K) := by
  subst hK
  intro pins s σ H x xs v us Q I rx rxs h
  obtain ⟨p, ys, y, z, j, rfl, rfl, hs, fy, fys, hj, hz, hno, q⟩ := h
  cases rx
  obtain ⟨uy, rfl, ry⟩ := rxs.one
  obtain ⟨its, rv, ⟨⟨cl, dd, data, sl⟩, ho, hc, n, hdt⟩, hlen⟩ := I.tuple hs
  simp only at hc hdt
  subst hc hdt
  have hl : its.toArray.size = ys.length := by rw [List.size_toArray]; exact rv.length.symm
  have hj' : j < its.toArray.size := by rw [hl]; exact (List.getElem?_eq_some_iff.mp hj).1
  have at' : ∀ (m : Nat) (hm : m < its.toArray.size), ∃ w, ys[m]? = some w ∧ eqU y its.toArray[m] = eqV w y := fun m hm => by
    have hm' : m < ys.length := by rw [← hl]; exact hm
    obtain ⟨u, hu, ru⟩ := rv.get (i := m) (x := ys[m]) (by simp [hm'])
    refine ⟨ys[m], List.getElem?_eq_getElem hm', ?_⟩
    have e := (List.getElem?_eq_some_iff.mp hu).2
    have f : flatV ys[m] = true := List.all_eq_true.mp fys _ (List.getElem_mem hm')
    have e2 : its.toArray[m] = u := by rw [← e]; simp
    rw [e2]
    exact eqU_of ru f
  refine call_meets PySem.F.slot_tuple_index ⟨_, ho, rfl⟩ PySem.F.entry_tuple_index (PySem.F.args_tuple_index_2 _ _) (TI.tuple_indexAt p its.toArray n dd sl uy (eqU y) j hj' ?_ ?_)
    ⟨ho, fun u' hu' => mem_eqAt ry fy rv fys u' (by simpa using hu'), ⟨.int (j : Nat), H, I.tok _, ⟨_, rfl⟩, q⟩⟩
  · obtain ⟨w, h1, h2⟩ := at' j hj'
    rw [hj] at h1
    cases h1
    rw [h2]; exact hz
  · intro m hm hmj
    obtain ⟨w, h1, h2⟩ := at' m hm
    rw [h2]
    exact hno m w hmj h1
end Cc

/-! place_of -/
namespace My
open PySem L2 RZ Cc PyProof.Rows
section
variable {P : Program} {w : World} {K : Fg} {mg : Str → Option Value} {base : Heap} {C CI fI CP CD CL CC : Addr}
theorem eqV_cell (c : Option Str) (x : Str) : eqV (cellV c) (.str x) = decide (c = some x) := by
  cases c with
  | none => simp [cellV, eqV]
  | some y =>
    show (y == x) = decide (some y = some x)
    by_cases h : y = x <;> simp [h]
theorem gd_idxCell {te tz : TE} {σ : L2.St} {H : Hp} {q : List (Option Str)} {x : Str} (h : GD K te σ H (layP q)) (h2 : GD K tz σ H (.str x)) (hx : some x ∈ q) : GD K (tBMP (rIdxT K) te (tCons tz tNil)) σ H (.int (q.idxOf (some x) : Nat)) := fun H1 e Q k =>
  h H1 e _ fun v H2 e2 hv => by
    cases hv with
    | @ptup p xs ds hs hd =>
      have ex := dns_cells hd
      subst ex
      refine ⟨⟨p, _, rfl, hs⟩, h2 H2 (e.trans e2) _ fun z H3 e3 hz => ?_⟩
      cases hz
      have hs3 : PlT H3 p (q.map cellV) := by
        obtain ⟨o, po, ho⟩ := hs
        exact ⟨o, po, e3 _ _ ho⟩
      have hj : q.idxOf (some x) < q.length := List.idxOf_lt_length_of_mem hx
      refine ⟨p, _, .str x, cellV q[q.idxOf (some x)], q.idxOf (some x), rfl, rfl, hs3.sq, rfl, flat_cells q, by simp [hj], ?_, fun m z' hm hz' => ?_, ?_⟩
      · rw [List.getElem_idxOf hj, eqV_cell]; simp
      · rw [List.getElem?_map] at hz'
        have hm' : m < q.length := by omega
        rw [List.getElem?_eq_getElem hm'] at hz'
        cases hz'
        rw [eqV_cell]
        have := List.not_of_lt_findIdx (xs := q) (p := fun y => y == some x) (i := m) hm
        simpa using this
      · exact k _ H3 (e2.trans e3) (.int _)
theorem mem_of_lay {n : Int} {S : List Str} {q : List (Option Str)} {x : Str} (h : isLay n S (.tup (q.map cellD)) = true) (hx : x ∈ S) : some x ∈ q := by
  simp only [isLay, Bool.and_eq_true] at h
  have hp : (txts (q.map cellD)).Perm S := of_decide_eq_true h.2.2
  have h2 := hp.mem_iff.mpr hx
  obtain ⟨d, hd, e⟩ := List.mem_filterMap.mp h2
  obtain ⟨c, hc, rfl⟩ := List.mem_map.mp hd
  cases c with
  | none => cases e
  | some y => cases e; exact hc
def spPlaceOf (K : Fg) (C CL CC : Addr) : Sp := fun vs H Q E => ∃ (l : List (Int × Int)) (S : List Str) (q : List (Option Str)) (x : Str), Dns K H vs [storeD C l (.tup (S.map D.str)), layP q, .str x] ∧ GoodS S ∧ layOk (.tup (q.map cellD)) = true ∧
  (isLay (sizeOf l) S (.tup (q.map cellD)) = true → x ∈ S → ∀ H', Same H H' → Q (.int (q.idxOf (some x) : Nat)) H') ∧ (isLay (sizeOf l) S (.tup (q.map cellD)) = false → ∀ H', Same H H' → E (.ref CL) none H') ∧ (isLay (sizeOf l) S (.tup (q.map cellD)) = true → x ∉ S → ∀ H', Same H H' → E (.ref CC) none H')
theorem ok_place_of {f : Addr} {fd : FuncData} (F : Fun K "place_of" "place_of" s_place_of f fd) (T : TxtM P w K mg C CI fI CP CD CL CC) (C_check_layout : Cal P w K mg base (L2.CX P w) 4 "check_layout" ["store", "layout"] (spCheckLay K C CL)) (C_check_crate : Cal P w K mg base (L2.CX P w) 3 "check_crate" ["store", "name"] (spCheckCrate K C CC)) : FnOk P w K mg base (L2.CX P w) 5 f fd ["store", "layout", "name"] (spPlaceOf K C CL CC) := by
  refine F.okX sc_place_of (fun vs H Q E h => ?_) (fun cdv A outer s H vs Q E hr h => ?_)
  · obtain ⟨l, S, q, x, h, _⟩ := h
    exact h.length
  · obtain ⟨l, S, q, x, hv, G, ho, k1, k2, k3⟩ := h
    obtain ⟨v, y, z, rfl, hw, hy, hz⟩ := hv.un3
    have hy' : Dn K H y (.tup (q.map cellD)) := by
      cases hy with
      | ptup hs hd => exact .tup hs.sq hd
    refine ⟨_, (pss_cons (ps_expr (pe_calS C_check_layout hr (takes_of rfl rfl rfl rfl) (pa_cons (pv 0) (pa_cons (pv 1) pa_nil))))
      (pss_cons (ps_expr (pe_calS C_check_crate hr (takes_of rfl rfl rfl rfl) (pa_cons (pv 0) (pa_cons (pv 2) pa_nil))))
      (pss_one (ps_ret (pe_bmP PySem.F.slot_tuple_index PySem.F.type_tuple_index (mt_idxT (K := K)) (pv 1) (pa_cons (pv 2) pa_nil)))))), ?_⟩
    refine ⟨_, rfl, _, rfl, l, S, _, .cons hw (.cons hy' .nil), G, ho, fun hok H1 e1 => ?_, fun hok H1 e1 => k2 hok H1 e1⟩
    refine ⟨_, rfl, _, rfl, l, S, x, .cons (hw.up e1) (.cons (hz.up e1) .nil), fun hin H2 e2 => ?_, fun hin H2 e2 => k3 hok hin H2 (e1.trans e2)⟩
    have e12 := e1.trans e2
    exact s_ret (gd_idxCell (gd_var rfl (hy.up e12)) (gd_var rfl (hz.up e12)) (mem_of_lay hok hin)) fun u H3 e3 hu => by
      cases hu
      exact k1 hok hin H3 (e12.trans e3)
end
end My

/-! CcGen: a for loop in a generator's body. -/
namespace CcGen
open PySem PySem.Spec PyProof.Rows GenW L2
section
variable {prog : Program} {w : World} {A : Around} {R : GenEnd} {Y : Protocol} {n : Nat} {s₀ : Shared} {c : Code} {fs : List Frame} {s : Shared} {env : Env}
  {K : Flow → Sem PySem.Fin} {J : Value → Sem PySem.Fin} {gd : Bool → Bool} {lv : List Value → List Value}
abbrev upE (env : Env) (e : Value) : Sem PySem.Fin := (do noteFrame e env; theTreesLotGoes e : Sem Unit).wrap (fun _ => .raise e) .raise id id
theorem upE_eq (env : Env) (e : Value) : ((do noteFrame e env; theTreesLotGoes e : Sem Unit).bind fun _ => (.raise e : Sem PySem.Fin)) = upE env e := Sem.bind_eq_wrap _ _
theorem seg_forLoop {target : Expr} {it : Value} {body : List Stmt}
    (h : wpAny (model prog w) (A.over (.forLoop target it body [] env) fs) (pyNext it) (fun r s1 => match r with
      | none => Seg (model prog w) A R Y n s₀ (.block [] env) (leafOf (.ok .next)) fs s1
      | some v => wpAny (model prog w) (A.over (.forLoop target it body [] env) fs) (letOwnedTupleGo target it v) (fun _ s2 =>
          wpAny (model prog w) (A.over (.forLoop target it body [] env) fs) (assign target env v) (fun _ s3 =>
            Seg (model prog w) A R Y n s₀ (.forLoop target it body [] env) ((execs body env).wrap (fun f => match f with
              | .next | .cont => .pure (.again (.forLoop target it body [] env))
              | .brk => .pure (.done .next)
              | .ret v => .pure (.done (.ret v))) (upE env) id id) fs s3)
          (fun x s' => Seg (model prog w) A R Y n s₀ (.forLoop target it body [] env) (upE env x) fs s') s2)
        (fun x s' => Seg (model prog w) A R Y n s₀ (.forLoop target it body [] env) (upE env x) fs s') s1)
      (fun x s' => Seg (model prog w) A R Y n s₀ (.forLoop target it body [] env) (upE env x) fs s') s) :
    Seg (model prog w) A R Y n s₀ (.forLoop target it body [] env) ((model prog w).den (.forLoop target it body [] env)) fs s := by
  show Seg _ A R Y n s₀ _ ((forTurn target it body [] env).onRaise (fun x => do noteFrame x env; theTreesLotGoes x)) fs s
  unfold forTurn
  rw [Sem.onRaise_eq_wrap]
  refine seg_bind_wrap (wpAny_standAt ?_)
  refine seg_bind_wrap (wpAny_onRaise (wpAny_mono h (fun r s1 h1 => ?_) fun x s' hx => wpAny_standAt ?_))
  · cases r with
    | none =>
      show Seg _ A R Y n s₀ _ (.pure (.again (.block [] env))) fs s1
      refine seg_again rfl ?_
      exact h1
    | some v =>
      refine seg_bind_wrap (wpAny_mono h1 (fun _ s2 h2 => ?_) fun x s' hx => ?_)
      · refine seg_bind_wrap (wpAny_mono h2 (fun _ s3 h3 => ?_) fun x s' hx => ?_)
        · rw [Sem.bind_eq_wrap', Sem.wrap_wrap]
          rw [Sem.wrap_congr (execs body env) _ _ (K' := fun f => match f with
            | .next | .cont => .pure (.again (.forLoop target it body [] env))
            | .brk => .pure (.done .next)
            | .ret v => .pure (.done (.ret v))) (H' := upE env)
            (fun f => by cases f <;> rfl) (fun e => by exact upE_eq env e)]
          exact h3
        · rw [upE_eq]; exact hx
      · rw [upE_eq]; exact hx
  · rw [upE_eq]; exact hx
end
section
variable {M : Model} {A : Around} {R : GenEnd} {Y : Protocol} {n : Nat} {s₀ : Shared} {c : Code} {fs : List Frame} {s : Shared} {env : Env}
  {K : Flow → Sem PySem.Fin} {J : Value → Sem PySem.Fin} {gd : Bool → Bool} {lv : List Value → List Value}
theorem seg_For {target iter : Expr} {body : List Stmt} {pos : Pos}
    (h : wpAny M (A.over c fs) (eval iter env) (fun x s1 => wpAny M (A.over c fs) (pyIter x) (fun it s2 =>
        ∀ p, Seg M A R Y n s₀ (.forLoop target it body [] env) (M.den (.forLoop target it body [] env))
          (.ret (fun r => ((match r with | .ok f => (.pure f : Sem Flow) | .error e => .raise e).onRaise (cameBack env)).wrap K J gd lv) none (gd false) (lv []) c p [] :: fs) s2)
        (fun x s' => Seg M A R Y n s₀ c (J x) fs s') s1) (fun x s' => Seg M A R Y n s₀ c (J x) fs s') s)
    (hs : ∀ x, foldedSetIterable iter env x = pure x) :
    Seg M A R Y n s₀ c ((exec (.For target iter body [] pos) env).wrap K J gd lv) fs s := by
  rw [exec_For]
  refine seg_bind_wrap (wpAny_standAt ?_)
  refine seg_bind_wrap (wpAny_mono h (fun x s1 h1 => ?_) fun _ _ hx => hx)
  refine seg_bind_wrap (wpAny_of_eq (hs x) ?_)
  refine seg_bind_wrap (wpAny_standAt ?_)
  refine seg_bind_wrap (wpAny_holding (wpAny_mono h1 (fun it s2 h2 => ?_) fun _ _ hx => hx))
  exact seg_call h2
end
section
variable {X : Cx} {tg : Expr}
def tGFor (wi : TI) (g : TG) (tb : TGn) : TGn := fun D ys σ H => wi σ H fun J H1 => ∃ W : Nat → Nat → List V → L2.St → Hp → Prop, (∃ m, W 0 m ys σ H1) ∧ ∀ i m ys σ H, W i m ys σ H →
  (J.stop i H ∧ D.nx ys σ H) ∨ (J.go i H ∧ ∃ N : List V → L2.St → Hp → Prop, (∀ ys' σ' H', N ys' σ' H' → ∃ m', m' < m ∧ W (i + 1) m' ys' σ' H') ∧ ∀ x H', J.yld i H x H' → g x σ H' fun σ2 H2 => tb { D with nx := N, ct := N, bk := D.nx } ys σ2 H2)
theorem gs_for {iter : Expr} {body : List Stmt} {wi : TI} {g : TG} {tb : TGn} {pos : Pos} (hp : PassesOwn (model X.prog X.w) X.A X.env X.xe) (hc : X.calm = true) (hi : PI X tg iter wi) (hg : PG X tg g) (hb : GSs X body tb)
    (hs : ∀ x, foldedSetIterable iter X.env x = pure x := by intro _; rfl) : GS X (.For tg iter body [] pos) (tGFor wi g tb) := by
  refine ⟨fun A S ip R n ys s₀ c fs K J gd lv s σ H D gc hn k hI ht => ?_⟩
  have hI0 := hI
  obtain ⟨acc, cc, r, I⟩ := hI
  refine seg_For ?_ hs
  rw [gc.over]
  refine wpAny_mono (hi.run _ s σ H _ I ht) (fun v s1 h1 => wpAny_mono h1 (fun itv s2 h2 => ?_) fun x s' hx => k.exc n s₀ x s' hx) fun x s' hx => k.exc n s₀ x s' hx
  obtain ⟨it, fp, tn, Jt, H2, e, I2, T, st2, f2, W, ⟨m0, w0⟩, turn⟩ := h2
  subst e
  intro p
  have gl := fun (kk : Result → Sem PySem.Fin) => gc_loop (k := kk) (c' := .forLoop tg (.ref it) body [] X.env) (l := lv []) (kp := []) (p := p) gc rfl rfl
  have glb := fun (kk : Result → Sem PySem.Fin) => gc_loop (k := kk) (c' := .block [] X.env) (l := lv []) (kp := []) (p := p) gc rfl rfl
  -- what stays true of the iterator's objects
  have stat : ∀ {H' : Hp} {o : Obj}, (∀ b ∈ fp, H' b = none) → ∀ b ∈ fp, FpOk X ((S, o) :: ip) H' b := fun {H' o} hn b hb => by
    obtain ⟨q0, q1, q2, q3, q4, q5⟩ := f2 b hb
    refine ⟨hn b hb, q1, q2, q3, q4, fun p hp => ?_⟩
    rcases List.mem_append.mp hp with z | z
    · exact q5 p (List.mem_append_left _ z)
    · rcases List.mem_cons.mp z with z | z
      · rw [z]; exact q5 (S, lstObj acc cc) (List.mem_append_right _ List.mem_cons_self)
      · exact q5 p (List.mem_append_right _ (List.mem_cons_of_mem _ z))
  have fpS : ∀ b ∈ fp, b ≠ S := fun b hb z => (f2 b hb).2.2.2.2.2 (S, lstObj acc cc) (List.mem_append_right _ List.mem_cons_self) z.symm
  have loop : ∀ (m i n : Nat) (ys : List V) (s₀ s : Shared) (σ : L2.St) (H : Hp), n + ys.length = sizeLine → W i m ys σ H → GI X S ip ys σ H s → tn i s.heap → (∀ b ∈ fp, H b = none) →
      Seg (model X.prog X.w) A R (GY X S) n s₀ (.forLoop tg (.ref it) body [] X.env) ((model X.prog X.w).den (.forLoop tg (.ref it) body [] X.env))
        (.ret (fun r => ((match r with | .ok f => (.pure f : Sem Flow) | .error e => .raise e).onRaise (cameBack X.env)).wrap K J gd lv) none (gd false) (lv []) c p [] :: fs) s := by
    intro m
    induction m using Nat.strongRecOn with
    | ind m ih =>
      intro i n ys s₀ s σ H hn w hI st fr
      have ee : ∀ (n : Nat) (s₀ : Shared) (x : Value) (s' : Shared), X.xe x s' → Seg (model X.prog X.w) A R (GY X S) n s₀ (.forLoop tg (.ref it) body [] X.env)
          (upE X.env x)
          (.ret (fun r => ((match r with | .ok f => (.pure f : Sem Flow) | .error e => .raise e).onRaise (cameBack X.env)).wrap K J gd lv) none (gd false) (lv []) c p [] :: fs) s' := fun n s₀ x s' hx => by
        refine seg_wrap ?_
        rw [(gl _).over]
        refine wpAny_bind (wpAny_mono (hp x s' hx) (fun _ s'' hcb => wpAny_theTreesLotGoes ?_) fun y s'' hcb => ?_)
        · exact seg_leaf (.error x) (seg_cameBack gc k hcb)
        · exact seg_leaf (.error y) (seg_cameBack gc k hcb)
      refine seg_forLoop ?_
      rw [(gl _).over]
      obtain ⟨acc, cc, r, I⟩ := hI
      rcases turn i m ys σ H w with ⟨stop, qn⟩ | ⟨go, N, hN, step⟩
      · refine wpAny_mono (T.done X rfl rfl rfl hc i _ s σ H X.xe I (stat fr) st stop) (fun r' s4 h4 => ?_) fun x s' hx => ee n s₀ x s' hx
        obtain ⟨hr, I4⟩ := h4
        subst hr
        exact seg_leaf (.ok .next) (k.ok n ys s₀ s4 .next hn ⟨σ, H, ⟨acc, cc, r, I4⟩, qn⟩)
      · refine wpAny_mono (T.item X rfl rfl rfl hc i _ s σ H X.xe I (stat fr) st go) (fun r' s4 h4 => ?_) fun x s' hx => ee n s₀ x s' hx
        obtain ⟨u, hr, h4⟩ := h4
        subst hr
        refine wpAny_mono h4 (fun _ s5 h5 => ?_) fun x s' hx => ee n s₀ x s' hx
        obtain ⟨x, H5, I5, r5, y5, st5, fr5⟩ := h5
        have I5' := I5.pinned (stat fr5) (T.obj _ _ st5)
        refine wpAny_mono (hg.run _ s5 σ H5 x u _ I5' r5 (step x H5 y5)) (fun _ s6 h6 => ?_) fun x s' hx => ee n s₀ x s' hx
        obtain ⟨σ6, H6, I6, q6⟩ := h6
        have gip : ∀ q ∈ ip ++ pinsAt fp s5.heap, q.1 ≠ S := fun q hq => (List.mem_append.mp hq).elim (fun z => gc.ip q z) fun z => fpS q.1 (of_pinsAt z).1
        have gb : ∀ kk, GC X S (ip ++ pinsAt fp s5.heap) A (.forLoop tg (.ref it) body [] X.env) (.ret kk none (gd false) (lv []) c p [] :: fs) id := fun kk => ⟨(gl kk).pn, gip, (gl kk).apart, (gl kk).over, (gl kk).split, (gl kk).guard, (gl kk).gd⟩
        have again : ∀ (n' : Nat) (ys' : List V) (s₀' s7 : Shared) (σ7 : L2.St) (H7 : Hp), n' + ys'.length = sizeLine → GI X S (ip ++ pinsAt fp s5.heap) ys' σ7 H7 s7 → N ys' σ7 H7 →
            Seg (model X.prog X.w) A R (GY X S) n' s₀' (.forLoop tg (.ref it) body [] X.env) (.pure (.again (.forLoop tg (.ref it) body [] X.env)))
              (.ret (fun r => ((match r with | .ok f => (.pure f : Sem Flow) | .error e => .raise e).onRaise (cameBack X.env)).wrap K J gd lv) none (gd false) (lv []) c p [] :: fs) s7 := fun n' ys' s₀' s7 σ7 H7 hn' hG n7 => by
          obtain ⟨m', hm, w7⟩ := hN ys' σ7 H7 n7
          obtain ⟨acc7, cc7, r7, I7⟩ := hG
          have I7' : Inv X (((S, lstObj acc7 cc7) :: ip) ++ pinsAt fp s5.heap) σ7 H7 s7 := I7
          refine seg_again rfl (ih m' hm (i + 1) n' ys' s₀' s7 σ7 H7 hn' w7 ⟨acc7, cc7, r7, I7'.unpinned⟩ (T.keep _ _ _ st5 fun b hb o e => (I7'.pin (b, o) (List.mem_append_right _ (List.mem_append_right _ (mem_pinsAt hb e)))).1) fun b hb => ?_)
          obtain ⟨o, e, d⟩ := T.obj _ _ st5 b hb
          exact (I7'.pin (b, o) (List.mem_append_right _ (List.mem_append_right _ (mem_pinsAt hb e)))).2.1
        have back : ∀ {ys' : List V} {σ7 : L2.St} {H7 : Hp} {s7 : Shared}, GI X S (ip ++ pinsAt fp s5.heap) ys' σ7 H7 s7 → GI X S ip ys' σ7 H7 s7 := fun {ys' σ7 H7 s7} hG => by
          obtain ⟨acc7, cc7, r7, I7⟩ := hG
          have I7' : Inv X (((S, lstObj acc7 cc7) :: ip) ++ pinsAt fp s5.heap) σ7 H7 s7 := I7
          exact ⟨acc7, cc7, r7, I7'.unpinned⟩
        refine hb.run A S (ip ++ pinsAt fp s5.heap) R n ys s₀ _ _ _ _ id id s6 σ6 H6 { D with nx := N, ct := N, bk := D.nx } (gb _) hn ⟨fun n' ys' s₀' s7 f hn' hs7 => ?_, fun n' s₀' x s7 hx => ee n' s₀' x s7 hx⟩ ⟨acc, cc, r, I6⟩ q6
        cases f with
        | next =>
          obtain ⟨σ7, H7, G7, n7⟩ := hs7
          exact again n' ys' s₀' s7 σ7 H7 hn' G7 n7
        | cont =>
          obtain ⟨σ7, H7, G7, n7⟩ := hs7
          exact again n' ys' s₀' s7 σ7 H7 hn' G7 n7
        | brk =>
          obtain ⟨σ7, H7, G7, n7⟩ := hs7
          exact seg_leaf (.ok .next) (k.ok n' ys' s₀' s7 .next hn' ⟨σ7, H7, back G7, n7⟩)
        | ret u =>
          obtain ⟨v7, σ7, H7, G7, r7, n7⟩ := hs7
          exact seg_leaf (.ok (.ret u)) (k.ok n' ys' s₀' s7 (.ret u) hn' ⟨v7, σ7, H7, back G7, r7, n7⟩)
  exact loop m0 0 n ys s₀ s2 σ H2 hn w0 ⟨acc, cc, r, I2⟩ st2 fun b hb => (f2 b hb).1
end
end CcGen

/-! which layouts there are, and how many (pure) -/
namespace Arr
variable {α : Type} [DecidableEq α]
theorem picks_perm : ∀ (l : List α) (p : α × List α), p ∈ picks l → (p.1 :: p.2).Perm l
  | [], p, h => by cases h
  | x :: r, p, h => by
    rcases List.mem_cons.mp h with rfl | h
    · exact .refl _
    · obtain ⟨q, hq, rfl⟩ := List.mem_map.mp h
      exact (List.Perm.swap x q.1 q.2).trans ((picks_perm r q hq).cons x)
theorem picks_has : ∀ (l : List α) (x : α), x ∈ l → ∃ o, (x, o) ∈ picks l
  | y :: r, x, h => by
    rcases List.mem_cons.mp h with rfl | h
    · exact ⟨r, List.mem_cons_self⟩
    · obtain ⟨o, ho⟩ := picks_has r x h
      exact ⟨y :: o, List.mem_cons_of_mem _ (List.mem_map.mpr ⟨_, ho, rfl⟩)⟩
def nm (q : List (Option α)) : List α := q.filterMap id
theorem nm_le (q : List (Option α)) : (nm q).length ≤ q.length := List.length_filterMap_le _ _
theorem mem_arr : ∀ (n : Nat) (ns : List α) (f : Nat), ns.length + f = n → ∀ q, q ∈ arr n ns f ↔ q.length = n ∧ (nm q).Perm ns
  | 0, ns, f, h, q => by
    have h1 : ns = [] := List.eq_nil_of_length_eq_zero (by omega)
    subst h1
    constructor
    · intro hq
      have : q = [] := by simpa [arr] using hq
      subst this
      exact ⟨rfl, .nil⟩
    · rintro ⟨h1, _⟩
      have : q = [] := List.eq_nil_of_length_eq_zero h1
      simp [arr, this]
  | n + 1, ns, f, h, q => by
    unfold arr
    rw [List.mem_append]
    constructor
    · rintro (hq | hq)
      · split at hq
        · obtain ⟨r, hr, rfl⟩ := List.mem_map.mp hq
          obtain ⟨h1, h2⟩ := (mem_arr n ns (f - 1) (by omega) r).mp hr
          exact ⟨by simp [h1], h2⟩
        · cases hq
      · obtain ⟨p, hp, hq⟩ := List.mem_flatMap.mp hq
        obtain ⟨r, hr, rfl⟩ := List.mem_map.mp hq
        have hpp := picks_perm ns p hp
        have hl := hpp.length_eq
        obtain ⟨h1, h2⟩ := (mem_arr n p.2 f (by simp at hl; omega) r).mp hr
        exact ⟨by simp [h1], (h2.cons p.1).trans hpp⟩
    · rintro ⟨h1, h2⟩
      cases q with
      | nil => cases h1
      | cons c r =>
        have hr : r.length = n := by simpa using h1
        have hle := nm_le r
        cases c with
        | none =>
          have h2' : (nm r).Perm ns := h2
          have hl := h2'.length_eq
          left
          rw [if_pos (by omega)]
          exact List.mem_map.mpr ⟨r, (mem_arr n ns (f - 1) (by omega) r).mpr ⟨hr, h2'⟩, rfl⟩
        | some x =>
          have h2' : (x :: nm r).Perm ns := h2
          obtain ⟨o, ho⟩ := picks_has ns x (h2'.mem_iff.mp List.mem_cons_self)
          have hpp := picks_perm ns _ ho
          have hl := hpp.length_eq
          right
          refine List.mem_flatMap.mpr ⟨_, ho, List.mem_map.mpr ⟨r, (mem_arr n o f (by simp at hl; omega) r).mpr ⟨hr, ?_⟩, rfl⟩⟩
          exact (h2'.trans hpp.symm).cons_inv
def lenA : Nat → Nat → Nat → Nat
  | 0, _, _ => 1
  | n + 1, s, f => (if f > 0 then lenA n s (f - 1) else 0) + s * lenA n (s - 1) f
theorem flat_const {β γ : Type} (g : β → List γ) (c : Nat) : ∀ l : List β, (∀ b ∈ l, (g b).length = c) → (l.flatMap g).length = l.length * c
  | [], _ => by simp
  | b :: l, h => by
    rw [List.flatMap_cons, List.length_append, h b List.mem_cons_self, flat_const g c l fun x hx => h x (List.mem_cons_of_mem _ hx), List.length_cons, Nat.add_mul, Nat.one_mul, Nat.add_comm]
theorem arr_len : ∀ (n : Nat) (ns : List α) (f : Nat), (arr n ns f).length = lenA n ns.length f
  | 0, _, _ => rfl
  | n + 1, ns, f => by
    unfold arr lenA
    rw [List.length_append, flat_const _ (lenA n (ns.length - 1) f) (picks ns) (fun p hp => ?_), picks_length]
    · by_cases c : f > 0
      · rw [if_pos c, if_pos c, List.length_map, arr_len n ns (f - 1)]
      · rw [if_neg c, if_neg c]; rfl
    · have hl := (picks_perm ns p hp).length_eq
      have e : p.2.length = ns.length - 1 := by simp at hl; omega
      rw [List.length_map, arr_len n p.2 f, e]
/-- the law's own product -/
def prodA (n : Nat) : Nat → Nat
  | 0 => 1
  | k + 1 => prodA n k * (n - k)
theorem lenA_prod : ∀ n : Nat, n ≤ 6 → ∀ s : Nat, s ≤ n → lenA n s (n - s) = prodA n s := by
  have h : ∀ n : Fin 7, ∀ s : Fin 7, s.val ≤ n.val → lenA n.val s.val (n.val - s.val) = prodA n.val s.val := by decide +kernel
  intro n hn s hs
  exact h ⟨n, by omega⟩ ⟨s, by omega⟩ hs
end Arr

/-! what the law's own body wants: plain data and its equality -/
namespace My
open PySem L2 RZ Cc
theorem Scheme.good {m k : Int} {l : List (Int × Int)} {c : Nat} (h : Scheme m k l c) (hm : m ≤ 6) : GoodDoors l := ⟨h.lo, h.hi, fun p hp => by have := h.each p hp; omega, by have := h.size; omega⟩
theorem isDoor_good {p : Int × Int} (h : 1 ≤ p.1 ∧ p.1 ≤ 99 ∧ 1 ≤ p.2 ∧ p.2 ≤ 4) : isDoor (doorD p) = true := by simp [isDoor, doorD, isNum, h]
theorem doorsOk_list {ds : List D} (h1 : ds.length ≤ 50000) (h2 : ∀ d ∈ ds, isDoorOk d = true) : doorsOk (.tup ds) = true := by simp [doorsOk, h1]; exact h2
theorem doorOk (p : Int × Int) : isDoorOk (doorD p) = true := by simp [isDoorOk, doorD, D.noob]
theorem good_ok {l : List (Int × Int)} (h : GoodDoors l) : doorsOk (doorsD l) = true := doorsOk_list (by simp; have := h.hi; omega) fun d hd => by
  obtain ⟨p, _, rfl⟩ := List.mem_map.mp hd
  exact doorOk p
theorem good_fit {l : List (Int × Int)} (h : GoodDoors l) : doorsFit (doorsD l) = true := by
  have e : (l.map doorD).map doorPl = l.map (·.2) := by rw [List.map_map]; rfl
  have a : (l.map doorD).all isDoor = true := List.all_eq_true.mpr fun d hd => by
    obtain ⟨p, hp, rfl⟩ := List.mem_map.mp hd
    exact isDoor_good (h.each p hp)
  have h1 := h.lo
  have h2 := h.hi
  have h3 : ((l.map doorD).map doorPl).sum ≤ 6 := by rw [e]; exact h.size
  simp only [doorsFit, doorsD, a, List.length_map, decide_eq_true h1, decide_eq_true h2, decide_eq_true h3, Bool.and_self]
theorem bad_item {ds : List D} {d : D} (hm : d ∈ ds) (h : isDoor d = false) : doorsFit (.tup ds) = false := by
  have : ds.all isDoor = false := by
    rw [Bool.eq_false_iff]
    intro z
    rw [List.all_eq_true.mp z d hm] at h
    cases h
  simp [doorsFit, this]
theorem bad_word {ds : List D} {d : D} {n : Int} (hm : d ∈ ds) (h : isWord d = false) : cratesFit (.tup ds) n = false := by
  have : ds.all isWord = false := by
    rw [Bool.eq_false_iff]
    intro z
    rw [List.all_eq_true.mp z d hm] at h
    cases h
  simp [cratesFit, this]
theorem bad_len {ds : List D} {n : Int} (h : ¬ ((ds.length : Int) ≤ min 5 n)) : cratesFit (.tup ds) n = false := by
  simp only [cratesFit, decide_eq_false h, Bool.and_false, Bool.false_and]
theorem bad_ord {ds : List D} {n : Int} (h : ((ds.zip (ds.drop 1)).all fun p => ltS p.1 p.2) = false) : cratesFit (.tup ds) n = false := by
  simp only [cratesFit, h, Bool.and_false]
theorem crates_fit_good {c : Nat} {n : Int} (h1 : 1 ≤ c) (h2 : c ≤ 5) (h3 : (c : Int) ≤ n) : cratesFit (cratesD c) n = true := by
  have hl : ((names.take c).map D.str).length = c := by simp [names]; omega
  have a : ((names.take c).map D.str).all isWord = true := List.all_eq_true.mpr fun d hd => by
    obtain ⟨x, hx, rfl⟩ := List.mem_map.mp hd
    have hx' := List.mem_of_mem_take hx
    have key : ∀ x ∈ names, isWord (.str x) = true := by decide
    exact key x hx'
  have o : ((((names.take c).map D.str).zip (((names.take c).map D.str).drop 1)).all fun p => ltS p.1 p.2) = true := by
    have key : ∀ c, c ≤ 5 → ((((names.take c).map D.str).zip (((names.take c).map D.str).drop 1)).all fun p => ltS p.1 p.2) = true := by decide
    exact key c h2
  have h4 : (c : Int) ≤ min 5 n := by omega
  simp only [cratesFit, cratesD, hl, a, o, decide_eq_true h1, decide_eq_true h4, Bool.and_self]
theorem crates_ok (c : Nat) : cratesOk (cratesD c) = true := by
  have hl : ((names.take c).map D.str).length ≤ 50000 := by simp [names]; omega
  have a : ((names.take c).map D.str).all wordOk = true := List.all_eq_true.mpr fun d hd => by
    obtain ⟨x, hx, rfl⟩ := List.mem_map.mp hd
    have hx' := List.mem_of_mem_take hx
    have key : ∀ x ∈ names, wordOk (.str x) = true := by decide
    exact key x hx'
  simp only [cratesOk, cratesD, a, decide_eq_true hl, Bool.and_self]
mutual
/-- plain data of depth n at most -/
def okD : Nat → D → Bool
  | _, .str x => PyData.strOk x
  | _, .ob _ _ _ => false
  | n + 1, .lst ds => okDs n ds
  | n + 1, .tup ds => okDs n ds
  | n + 1, .ptup ds => okDs n ds
  | 0, .lst _ => false
  | 0, .tup _ => false
  | 0, .ptup _ => false
  | _, _ => true
def okDs : Nat → List D → Bool
  | _, [] => true
  | n, d :: ds => okD n d && okDs n ds
end
theorem okDs_iff {n : Nat} {ds : List D} : okDs n ds = true ↔ ∀ d ∈ ds, okD n d = true := by
  induction ds with
  | nil => simp [okDs]
  | cons d ds ih => simp [okDs, ih]
mutual
theorem okD_all : ∀ (n : Nat) (d : D), okD n d = true → d.pl = true ∧ d.py.canLay0 = true ∧ d.py.depth ≤ n
  | n, .non, _ => ⟨rfl, rfl, Nat.zero_le _⟩
  | n, .bl _, _ => ⟨rfl, rfl, Nat.zero_le _⟩
  | n, .int _, _ => ⟨rfl, rfl, Nat.zero_le _⟩
  | n, .str x, h => ⟨rfl, by simpa [okD, D.py, PyData.canLay0] using h, Nat.zero_le _⟩
  | n, .ob _ _ _, h => by cases n <;> simp [okD] at h
  | 0, .ptup _, h => by simp [okD] at h
  | 0, .lst _, h => by simp [okD] at h
  | 0, .tup _, h => by simp [okD] at h
  | n + 1, .lst ds, h => by
    obtain ⟨h1, h2, h3⟩ := okDs_all n ds (by simpa [okD] using h)
    exact ⟨by simpa [D.pl] using h1, by simpa [D.py, PyData.canLay0] using h2, by simp only [D.py, PyData.depth]; omega⟩
  | n + 1, .tup ds, h => by
    obtain ⟨h1, h2, h3⟩ := okDs_all n ds (by simpa [okD] using h)
    exact ⟨by simpa [D.pl] using h1, by simpa [D.py, PyData.canLay0] using h2, by simp only [D.py, PyData.depth]; omega⟩
  | n + 1, .ptup ds, h => by
    obtain ⟨h1, h2, h3⟩ := okDs_all n ds (by simpa [okD] using h)
    exact ⟨by simpa [D.pl] using h1, by simpa [D.py, PyData.canLay0] using h2, by simp only [D.py, PyData.depth]; omega⟩
theorem okDs_all : ∀ (n : Nat) (ds : List D), okDs n ds = true → D.pls ds = true ∧ PyData.canLayAll0 (D.pys ds) = true ∧ PyData.depthAll (D.pys ds) ≤ n
  | n, [], _ => ⟨rfl, rfl, Nat.zero_le _⟩
  | n, d :: ds, h => by
    have h' : okD n d = true ∧ okDs n ds = true := by simpa [okDs] using h
    obtain ⟨a1, a2, a3⟩ := okD_all n d h'.1
    obtain ⟨b1, b2, b3⟩ := okDs_all n ds h'.2
    exact ⟨by simp [D.pls, a1, b1], by simp [D.pys, PyData.canLayAll0, a2, b2], by simp only [D.pys, PyData.depthAll]; omega⟩
end
theorem ok_pl {n : Nat} {d : D} (h : okD n d = true) : d.pl = true := (okD_all n d h).1
theorem ok_shp {n : Nat} {d : D} (h : okD n d = true) (hn : n ≤ 64) : d.shp = true := by
  obtain ⟨_, h2, h3⟩ := okD_all n d h
  have : d.py.depth ≤ 64 := by omega
  simp only [D.shp, SeqAt.shaped, h2, decide_eq_true this, Bool.and_self]
theorem ok_same {n : Nat} {d : D} (h : okD n d = true) : d.eqv d = true := SeqAt.eqv_refl _ (okD_all n d h).2.1
theorem ok_ints (n : Nat) (ns : List Int) : okDs n (ns.map D.int) = true := okDs_iff.mpr fun d hd => by
  obtain ⟨i, _, rfl⟩ := List.mem_map.mp hd
  cases n <;> rfl
theorem ok_doors (n : Nat) (l : List (Int × Int)) : okD (n + 2) (doorsD l) = true := okDs_iff.mpr fun d hd => by
  obtain ⟨p, _, rfl⟩ := List.mem_map.mp hd
  cases n <;> rfl
theorem ok_crates (n c : Nat) : okD (n + 1) (cratesD c) = true := okDs_iff.mpr fun d hd => by
  obtain ⟨x, hx, rfl⟩ := List.mem_map.mp hd
  have key : ∀ x ∈ names, PyData.strOk x = true := by decide +kernel
  have := key x (List.mem_of_mem_take hx)
  cases n <;> simpa [okD] using this
/-- != of the same data -/
theorem r_neSame {K : Fg} {n : Nat} {d : D} (h : okD n d = true) (hn : n ≤ 64 := by decide) : R2D K (rNeD K) d d (.bl false) := by
  have := r_ne (K := K) (ok_pl h) (ok_pl h) (ok_shp h hn) (ok_shp h hn)
  rwa [ok_same h] at this
theorem r_eqSame {K : Fg} {n : Nat} {d : D} (h : okD n d = true) (hn : n ≤ 64 := by decide) : R2D K (rEqD K) d d (.bl true) := by
  have := r_eq (K := K) (ok_pl h) (ok_pl h) (ok_shp h hn) (ok_shp h hn)
  rwa [ok_same h] at this
theorem edges_ge : ∀ (l : List (Int × Int)) (k : Nat), ∀ x ∈ edgesFrom k l, (k : Int) ≤ x
  | [], _, x, h => by cases h
  | p :: r, k, x, h => by
    rcases List.mem_append.mp h with h | h
    · rw [List.eq_of_mem_replicate h]; exact Int.le_refl _
    · have := edges_ge r (k + 1) x h; omega
theorem range_app (a b : Nat) : List.range (a + b) = List.range a ++ (List.range b).map (a + ·) := List.range_add
/-- the places behind a door are those whose door it is -/
theorem places_filter : ∀ (l : List (Int × Int)) (b : Int) (k j : Nat), (∀ p ∈ l, 1 ≤ p.2) → j < l.length →
    ∃ ns : List Int, (placesFrom b l)[j]? = some (.tup (ns.map D.int)) ∧ ns = ((List.range (edgesFrom k l).length).filter fun i => ((edgesFrom k l)[i]? == some ((k + j : Nat) : Int))).map fun i => b + (i : Nat)
  | [], _, _, _, _, h => by simp at h
  | p :: r, b, k, 0, hp, h => by
    have h1 := hp p List.mem_cons_self
    refine ⟨(List.range p.2.toNat).map fun i => b + (i : Nat), by simp [placesFrom, List.map_map, Function.comp_def], ?_⟩
    congr 1
    simp only [edgesFrom, List.length_append, List.length_replicate, range_app, List.filter_append]
    have e1 : (List.range p.2.toNat).filter (fun i => ((List.replicate p.2.toNat (k : Int) ++ edgesFrom (k + 1) r)[i]? == some ((k + 0 : Nat) : Int))) = List.range p.2.toNat := List.filter_eq_self.mpr fun i hi => by
      have hi' := List.mem_range.mp hi
      rw [List.getElem?_append_left (by simpa using hi'), List.getElem?_replicate, if_pos hi']
      simp
    have e2 : ((List.range (edgesFrom (k + 1) r).length).map (p.2.toNat + ·)).filter (fun i => ((List.replicate p.2.toNat (k : Int) ++ edgesFrom (k + 1) r)[i]? == some ((k + 0 : Nat) : Int))) = [] := List.filter_eq_nil_iff.mpr fun i hi => by
      obtain ⟨m, hm, rfl⟩ := List.mem_map.mp hi
      rw [List.getElem?_append_right (by simp), List.length_replicate, Nat.add_sub_cancel_left]
      simp only [beq_iff_eq]
      intro z
      have := edges_ge r (k + 1) _ (List.mem_of_getElem? z)
      omega
    rw [e1, e2, List.append_nil]
  | p :: r, b, k, j + 1, hp, h => by
    have h1 := hp p List.mem_cons_self
    obtain ⟨ns, g1, g2⟩ := places_filter r (b + p.2) (k + 1) j (fun q hq => hp q (List.mem_cons_of_mem _ hq)) (by simpa using h)
    refine ⟨ns, by simpa [placesFrom] using g1, ?_⟩
    rw [g2]
    simp only [edgesFrom, List.length_append, List.length_replicate, range_app, List.filter_append, List.map_append]
    have e1 : (List.range p.2.toNat).filter (fun i => ((List.replicate p.2.toNat (k : Int) ++ edgesFrom (k + 1) r)[i]? == some ((k + (j + 1) : Nat) : Int))) = [] := List.filter_eq_nil_iff.mpr fun i hi => by
      have hi' := List.mem_range.mp hi
      rw [List.getElem?_append_left (by simpa using hi'), List.getElem?_replicate, if_pos hi']
      simp
      omega
    rw [e1, List.map_nil, List.nil_append, List.filter_map, List.map_map]
    have e3 : ∀ i : Nat, (List.replicate p.2.toNat (k : Int) ++ edgesFrom (k + 1) r)[p.2.toNat + i]? = (edgesFrom (k + 1) r)[i]? := fun i => by
      rw [List.getElem?_append_right (by simp), List.length_replicate, Nat.add_sub_cancel_left]
    have e4 : k + 1 + j = k + (j + 1) := by omega
    have e5 : ((fun i => ((List.replicate p.2.toNat (k : Int) ++ edgesFrom (k + 1) r)[i]? == some ((k + (j + 1) : Nat) : Int))) ∘ fun x => p.2.toNat + x) = fun i => ((edgesFrom (k + 1) r)[i]? == some ((k + 1 + j : Nat) : Int)) := by
      funext i
      simp only [Function.comp, e3, e4]
    rw [e5]
    refine List.map_congr_left fun i _ => ?_
    simp only [Function.comp]
    omega
theorem cut_len (ds : List D) (lo hi : Option Int) : (cutD ds lo hi).length ≤ ds.length := by
  unfold cutD
  rw [List.length_take, List.length_drop]
  omega
theorem cut_mem {ds : List D} {lo hi : Option Int} {d : D} (h : d ∈ cutD ds lo hi) : d ∈ ds := List.mem_of_mem_drop (List.mem_of_mem_take h)
end My

/-! layouts: a generator -/
namespace My
open PySem L2 RZ Cc CcGen
theorem sc_layouts : GScope ["store", "layout"] ["store"] (defScope s_layouts) := ⟨rfl, rfl, rfl, by decide +kernel, rfl, by decide +kernel, by decide +kernel⟩
/-- a generator def that stands under the name x keeps its promise -/
def GCal (P : Program) (w : World) (K : Fg) (mg : Str → Option Value) (base : Heap) (n : Nat) (x : Str) (ps : List Str) (sp : SpG) : Prop :=
  ∃ (f : Addr) (fd : FuncData), GFn P w K mg base n f fd ps sp ∧ mg x = some (.ref f) ∧ PySem.W.keepIn K (.ref f) = true ∧ L2.Binds K fd ps []
theorem fun_gfn {P : Program} {w : World} {K : Fg} {mg : Str → Option Value} {base : Heap} {x qual : Str} {st : Stmt} {f : Addr} {fd : FuncData} {N ps : List Str} {n : Nat} {sp : SpG} (F : Fun K x qual st f fd) (S : GScope N ps (defScope st)) (len : ∀ vs H Q E, sp vs H Q E → vs.length = ps.length)
    (hbody : ∀ (cdv : Value) (A : Around) (outer : List Env) (s : Shared) (H : Hp) (vs : List V) (Q : List V → Hp → Prop) (E : XK) (pn : List (Addr × Obj)), Room n (A.deeper (PyProof.Rows.envOfC qual (defScope st) s.heap.objs.size f cdv)) → sp vs H Q E →
      ∃ t, GSs (gcxOf P w K mg base N qual (defScope st) f cdv A outer s H E pn) (defBody st) t ∧ t { nx := fun ys _ H' => Q ys H', rt := fun ys v H' => v = .non ∧ Q ys H' } [] (start N vs) H) :
    GFn P w K mg base (n + 1) f fd ps sp := by
  obtain ⟨oc, od, kV, doc, pm, an, cdv, ct, osl, rfl, lk, hc⟩ := F.ex
  exact gfn_of lk hc S len fun A outer s H vs Q E pn hr hs => hbody cdv A outer s H vs Q E pn hr hs
theorem _root_.L2.Room.units65 {k : Nat} {A : Around} (r : Room k A) : A.units + 65 < cLine := by have := r.un; omega
abbrev EF : XK := fun _ _ _ => False
section
variable {P : Program} {w : World} {K : Fg} {mg : Str → Option Value} {base : Heap} {C CI fI CP CD : Addr}
theorem passF {X : Cx} : Passes (L2.CX X.prog X.w) X EF := fun _ _ _ _ _ _ _ h => by
  obtain ⟨_, _, _, _, _, _, _, _, _, _, _, _, h⟩ := h
  exact h.elim
theorem noStopF {K : Fg} : NoStop K EF := fun _ _ _ h => h.elim
/-- list(f(..)), f a generator def that lets nothing out -/
theorem pe_listC {X : Cx} {n m : Nat} {x : Str} {ps : List Str} {sp : SpG} {e : Expr} {es : List Expr} {t : TA} {p p0 pos pos' : Pos} (C : GCal X.prog X.w X.K X.mg X.base n x ps sp) (hr : Room m X.A) (hm : X.mg "list" = none) (ha : PA X (e :: es) t) (hn : n + 3 ≤ m := by decide) (hg : Gl X x := by rfl) (hgl : Gl X "list" := by rfl)
    (hdb : (x == ("__debug__" : Str)) = false := by decide) (he : starEach (e :: es) X.env = (false, eval e X.env) :: starEach es X.env := by rfl) (hpl : (backTo pos' (starEach es X.env)).any (·.1) = false := by rfl)
    (he2 : starEach [Expr.Call (.Name x p) (e :: es) [] pos'] X.env = (false, eval (.Call (.Name x p) (e :: es) [] pos') X.env) :: starEach [] X.env := by rfl) : PE X (.Call (.Name "list" p0) [.Call (.Name x p) (e :: es) [] pos'] [] pos) (tListG (tCallG sp [] EF t)) := by
  obtain ⟨f, fd, F, hmx, hk, hb⟩ := C
  exact pe_listG (pgen_call F (hr.mono (by omega)) hg hmx hk hb .nil ha hdb he hpl) passF noStopF (hr.mono hn) hgl hm (by decide +kernel) (by decide) (by decide) he2
abbrev spGen (K : Fg) (C : Addr) : SpG := fun vs H Q _ => ∃ (l : List (Int × Int)) (S : List Str), Dns K H vs [storeD C l (.tup (S.map D.str))] ∧ sizeOf l ≤ 6 ∧ (S.length : Int) ≤ sizeOf l ∧
  ∀ ys H', Same H H' → Dns K H' ys ((Arr.arr (sizeOf l).toNat S ((sizeOf l).toNat - S.length)).map layD) → Q ys H'
theorem ok_layouts_gen {f : Addr} {fd : FuncData} (F : Fun K "layouts" "layouts" s_layouts f fd) (T : TxtS P w K mg C CI fI CP CD) (C_all_layouts : Cal P w K mg base CX0 8 "all_layouts" ["store"] (spAll K C)) : GFn P w K mg base 9 f fd ["store"] (spGen K C) := by
  refine fun_gfn F sc_layouts (fun vs H Q E h => ?_) (fun cdv A outer s H vs Q E pn hr h => ?_)
  · obtain ⟨l, S, h, _⟩ := h
    exact h.length
  · obtain ⟨l, S, hv, h6, hS, k⟩ := h
    obtain ⟨v, rfl, hw⟩ := hv.un1
    refine ⟨_, gss_cons (gs_for owns_gcx rfl (pi_lK K (pe_cal C_all_layouts hr pass0 (pa_cons (pv 0) pa_nil))) (pg_name (i := 1) sc_layouts.nd rfl (Or.inl rfl)) (gss_cons (gs_yield (pv 1)) gss_nil)) gss_nil, ?_⟩
    have a6 : (Arr.arr (sizeOf l).toNat S ((sizeOf l).toNat - S.length)).length ≤ 5040 := by
      have h1 := arr_len (sizeOf l).toNat S ((sizeOf l).toNat - S.length) (by omega)
      have h2 : facN (sizeOf l).toNat ≤ 5040 := by
        have key : ∀ n : Fin 7, facN n.val ≤ 5040 := by decide
        exact key ⟨(sizeOf l).toNat, by omega⟩
      omega
    generalize hL : Arr.arr (sizeOf l).toNat S ((sizeOf l).toNat - S.length) = L at *
    have call := gn_call (K := K) (σ := [some v, none]) (H := H) (args := fun a : List (Int × Int) × List Str => [storeD C a.1 (.tup (a.2.map D.str))]) (pre := fun a => sizeOf a.1 ≤ 6 ∧ (a.2.length : Int) ≤ sizeOf a.1) (res := fun a => (Arr.arr (sizeOf a.1).toNat a.2 ((sizeOf a.1).toNat - a.2.length)).map layD) (X := fun _ _ _ => False) (l, S) (ga1 (gd_var (i := 0) rfl hw)) ⟨h6, hS⟩ (z := L.map layD) (by rw [← hL])
    refine call H (Same.refl _) _ fun p xs H2 hp e2 hx hd => ?_
    refine ⟨p, rfl, ⟨xs, SqL.of hx⟩, fun i m ys σ' H' => m = L.length - i ∧ i ≤ L.length ∧ (∃ v1, σ' = [some v, v1]) ∧ ys = xs.take i ∧ Same H2 H', ⟨_, rfl, Nat.zero_le _, ⟨none, rfl⟩, rfl, .refl _⟩, ?_⟩
    have xl : xs.length = L.length := by rw [hd.length, List.length_map]
    rintro i m ys σ' H' ⟨rfl, hi, ⟨v1, rfl⟩, rfl, e3⟩
    by_cases c : i < L.length
    · refine .inr ⟨⟨xs, xs[i]'(by omega), SqL.of (e3 _ _ hx), by simp⟩, _, fun ys' σ2 H4 h => h, ?_⟩
      rintro x H4 ⟨rfl, hxi⟩
      have hxi := hxi xs (SqL.of (e3 _ _ hx))
      have tl : (xs.take i).length = i := by rw [List.length_take]; omega
      refine ⟨by rw [tl, sizeLine_eq]; omega, x, rfl, ?_⟩
      refine ⟨L.length - (i + 1), by omega, rfl, c, ⟨_, rfl⟩, ?_, e3⟩
      rw [List.take_add_one, hxi]
      rfl
    · have : i = L.length := by omega
      subst this
      refine .inl ⟨⟨xs, SqL.of (e3 _ _ hx), by omega⟩, ?_⟩
      have : xs.take L.length = xs := List.take_of_length_le (by omega)
      rw [this]
      exact k xs H' (e2.trans e3) (hd.up e3)
/-- list(layouts(store)) -/
theorem gn_listGen {ta : TA} {σ : L2.St} {H : Hp} {l : List (Int × Int)} {S : List Str} (h : GA K ta σ H [storeD C l (.tup (S.map D.str))]) (h6 : sizeOf l ≤ 6) (hS : (S.length : Int) ≤ sizeOf l) : GN K (tListG (tCallG (spGen K C) [] EF ta)) σ H ((Arr.arr (sizeOf l).toNat S ((sizeOf l).toNat - S.length)).map layD) := fun H1 e Q q =>
  h H1 e _ fun vs H2 e2 hv => ⟨l, S, by rw [List.append_nil]; exact hv, h6, hS, fun ys H3 e3 hd p hp => q p ys _ ((e2.trans e3).free hp) ((e2.trans e3).trans (Same.new hp)) upd_same (hd.up (Same.new hp))⟩
end
end My

/-! contents, behind, the law's own reading of what lies behind a door -/
namespace My
open PySem L2 RZ Cc CcGen
/-- the places of the door j -/
def idxD (l : List (Int × Int)) (j : Nat) : List Nat := (List.range (edgesFrom 0 l).length).filter fun i => (edgesFrom 0 l)[i]? == some ((j : Nat) : Int)
def seenD (l : List (Int × Int)) (q : List (Option Str)) (j : Nat) : D := .tup ((idxD l j).map fun i => cellD (q.getD i none))
theorem places_idx {l : List (Int × Int)} {j : Nat} (h1 : ∀ p ∈ l, 1 ≤ p.2) (hj : j < l.length) : (placesFrom 0 l)[j]? = some (.tup ((idxD l j).map fun i => D.int (i : Nat))) := by
  obtain ⟨ns, g1, g2⟩ := places_filter l 0 0 j h1 hj
  rw [g1, g2, List.map_map]
  simp only [idxD, Nat.zero_add]
  congr 2
  refine List.map_congr_left fun i _ => ?_
  simp
theorem Dn.ofP {K : Fg} {H : Hp} {v : V} {ds : List D} (h : Dn K H v (.ptup ds)) : Dn K H v (.tup ds) := by
  cases h with
  | ptup hs hd => exact .tup hs.sq hd
theorem fix_seen (l : List (Int × Int)) (q : List (Option Str)) (j : Nat) : D.fixs ((idxD l j).map fun i => cellD (q.getD i none)) = true := D.fixs_iff.mpr fun d hd => by
  obtain ⟨i, _, rfl⟩ := List.mem_map.mp hd
  cases q.getD i none <;> rfl
section
variable {P : Program} {w : World} {K : Fg} {mg : Str → Option Value} {base : Heap} {C CI fI CP CD CL CC : Addr}
abbrev spContents (K : Fg) (C : Addr) : Sp := spOf (α := List (Int × Int) × D × List (Option Str) × Nat) K (fun a => [storeD C a.1 a.2.1, layD a.2.2.1, .int (a.2.2.2 : Nat)]) (fun a => GoodDoors a.1 ∧ a.2.2.1.length = (edgesFrom 0 a.1).length ∧ a.2.2.2 < a.1.length) fun a => seenD a.1 a.2.2.1 a.2.2.2
theorem ok_contents {f : Addr} {fd : FuncData} (F : Fun K "contents" "contents" s_contents f fd) (T : TxtS P w K mg C CI fI CP CD) (M_places_of : CMet P w K mg base (L2.CX P w) 5 C "places_of" ["self", "door"] (spPlacesOf K C CD)) : FnOk P w K mg base CX0 6 f fd ["store", "layout", "door"] (spContents K C) := by
  refine F.ok sc_contents (fun vs H Q E h => ?_) (fun cdv A outer s H vs Q E hr h => ?_)
  · obtain ⟨a, h, _⟩ := h
    exact h.length
  · obtain ⟨⟨l, e, q, j⟩, hv, ⟨G, hq, hj⟩, k⟩ := h
    obtain ⟨v, x, y, rfl, hw, hx, hy⟩ := hv.un3
    replace hj : j < l.length := hj
    replace hq : q.length = (edgesFrom 0 l).length := hq
    refine ⟨_, (pss_one (ps_ret (pe_callTy (tupK K) (by rfl) T.tuple (by decide +kernel) (pa_cons (pe_lc (own := [("place", 3)]) (g := gName 3) rfl sc_contents.nd (pi_tK K (pe_met M_places_of hr passN (pv 0) (pa_cons (pv 2) pa_nil))) (blkOk_by (own := [("place", 3)]) (N := ["store", "layout", "door", "place"]) (sc := defScope s_contents) (by decide +kernel)) (fun _ _ _ _ _ => (pg_name (i := 3) sc_contents.nd rfl (Or.inl rfl))) (fun _ _ _ _ _ => pts_nil) (fun _ _ _ _ _ => (pe_ix (ixT K) (pv 1) (pv 3) (fun _ _ => rfl)))) pa_nil)))), ?_⟩
    have one1 : ∀ p ∈ l, 1 ≤ p.2 := fun p hp => (G.each p hp).2.2.1
    have e6 : ((edgesFrom 0 l).length : Int) ≤ 6 := by
      have := edges_len l 0 fun p hp => by have := one1 p hp; omega
      have : sizeOf l ≤ 6 := G.size
      omega
    have il : (idxD l j).length ≤ 6 := by
      have := List.length_filter_le (fun i => (edgesFrom 0 l)[i]? == some ((j : Nat) : Int)) (List.range (edgesFrom 0 l).length)
      rw [List.length_range] at this
      unfold idxD
      omega
    have mE : ((idxD l j).map fun i => D.int (i : Nat)).map (fun d => match d with | .int i => cellD (q.getD i.toNat none) | d => d) = (idxD l j).map fun i => cellD (q.getD i none) := by
      rw [List.map_map]
      rfl
    refine s_retK (k.up (.refl _)) (gd_cb (ga1 (GN.gd (GN.is (gn_map (K := K) (ds := (idxD l j).map fun i => D.int (i : Nat)) (fun d => match d with | .int i => cellD (q.getD i.toNat none) | d => d) (fun H1 e1 => gi_tupC (gd_meth (C := C) (ns := storeNs) (gd_var rfl (hw.up e1)) (by decide) (ga1 (gd_var rfl (hy.up e1))) fun ws H7 Q e7 hw7 k7 => ?_)) (by rw [List.length_map]; omega) (fun _ => rfl) (fun d hd => ?_) (fun d z H2 hd e2 hz => ?_)) mE))) (rc_tuple (.inl rfl) (fix_seen l q j)))
    · refine ⟨l, e, .int (j : Nat), hw7, G, rfl, fun j' z hj' hz v H9 e9 hv => ?_, fun hbad => ?_⟩
      · cases hj'
        rw [places_idx one1 hj] at hz
        cases hz
        exact k7 v H9 e9 hv
      · exact absurd hbad (by simp [isDoorNum, isNum]; omega)
    · obtain ⟨i, hi, rfl⟩ := List.mem_map.mp hd
      show (cellD _).fix = true
      cases q.getD ((i : Nat) : Int).toNat none <;> rfl
    · obtain ⟨i, hi, rfl⟩ := List.mem_map.mp hd
      have hi' : i < q.length := by
        have := (List.mem_filter.mp hi).1
        rw [hq]
        exact List.mem_range.mp this
      exact gd_op (gd_var rfl (hx.up e2)) (gd_var rfl hz) (r_ixT (atI_nat (show (q.map cellD)[i]? = some (cellD (q.getD i none)) by simp [hi'])))
def spBehind (K : Fg) (C CL : Addr) : Sp := fun vs H Q E => ∃ (l : List (Int × Int)) (S : List Str) (q : List (Option Str)) (j : Nat), Dns K H vs [storeD C l (.tup (S.map D.str)), layP q, .int (j : Nat)] ∧ GoodS S ∧ layOk (.tup (q.map cellD)) = true ∧ GoodDoors l ∧ j < l.length ∧
  (isLay (sizeOf l) S (.tup (q.map cellD)) = true → Ret K (seenD l q j) H Q) ∧ (isLay (sizeOf l) S (.tup (q.map cellD)) = false → ∀ H', Same H H' → E (.ref CL) none H')
theorem ok_behind {f : Addr} {fd : FuncData} (F : Fun K "behind" "behind" s_behind f fd) (T : TxtM P w K mg C CI fI CP CD CL CC) (C_check_layout : Cal P w K mg base (L2.CX P w) 4 "check_layout" ["store", "layout"] (spCheckLay K C CL)) (C_contents : Cal P w K mg base CX0 6 "contents" ["store", "layout", "door"] (spContents K C)) : FnOk P w K mg base (L2.CX P w) 7 f fd ["store", "layout", "door"] (spBehind K C CL) := by
  refine F.okX sc_behind (fun vs H Q E h => ?_) (fun cdv A outer s H vs Q E hr h => ?_)
  · obtain ⟨l, S, q, x, h, _⟩ := h
    exact h.length
  · obtain ⟨l, S, q, j, hv, G, ho, Gd, hj, k1, k2⟩ := h
    obtain ⟨v, y, z, rfl, hw, hy, hz⟩ := hv.un3
    have hy' : Dn K H y (.tup (q.map cellD)) := Dn.ofP hy
    refine ⟨_, (pss_cons (ps_expr (pe_calS C_check_layout hr (takes_of rfl rfl rfl rfl) (pa_cons (pv 0) (pa_cons (pv 1) pa_nil))))
      (pss_one (ps_ret (pe_cal C_contents hr pass0 (pa_cons (pv 0) (pa_cons (pv 1) (pa_cons (pv 2) pa_nil))))))), ?_⟩
    refine ⟨_, rfl, _, rfl, l, S, _, .cons hw (.cons hy' .nil), G, ho, fun hok H1 e1 => ?_, fun hok H1 e1 => k2 hok H1 e1⟩
    have hl : q.length = (edgesFrom 0 l).length := by
      have h1 := edges_len l 0 fun p hp => by have := (Gd.each p hp).2.2.1; omega
      simp only [isLay, Bool.and_eq_true] at hok
      have h2 := of_decide_eq_true hok.1
      rw [List.length_map] at h2
      omega
    exact s_ret (gd_call (K := K) (args := fun a : List (Int × Int) × D × List (Option Str) × Nat => [storeD C a.1 a.2.1, layD a.2.2.1, .int (a.2.2.2 : Nat)]) (l, D.tup (S.map D.str), q, j) (ga_cons (gd_var rfl (hw.up e1)) (ga2 (gd_var rfl (hy'.up e1)) (gd_var rfl (hz.up e1)))) ⟨Gd, hl, hj⟩) fun u H3 e3 hu => k1 hok u H3 (e1.trans e3) hu
abbrev spSeen (K : Fg) : Sp := spOf (α := List (Int × Int) × D × List (Option Str) × Nat) K (fun a => [.tup [doorsD a.1, a.2.1], layD a.2.2.1, .int (a.2.2.2 : Nat)]) (fun a => GoodDoors a.1 ∧ a.2.2.1.length = (edgesFrom 0 a.1).length ∧ a.2.2.2 < a.1.length) fun a => seenD a.1 a.2.2.1 a.2.2.2
theorem ok_seen {f : Addr} {fd : FuncData} (F : Fun K "_law_seen" "_law_seen" s__law_seen f fd) (T : Txt2 K mg) (C__law_edges : Cal P w K mg base CX0 1 "_law_edges" ["_law_s"] (spEdges K)) : FnOk P w K mg base CX0 2 f fd ["_law_s", "_law_layout", "_law_door"] (spSeen K) := by
  refine F.ok sc__law_seen (fun vs H Q E h => ?_) (fun cdv A outer s H vs Q E hr h => ?_)
  · obtain ⟨a, h, _⟩ := h
    exact h.length
  · obtain ⟨⟨l, e, q, j⟩, hv, ⟨G, hq, hj⟩, k⟩ := h
    obtain ⟨v, x, y, rfl, hw, hx, hy⟩ := hv.un3
    replace hj : j < l.length := hj
    replace hq : q.length = (edgesFrom 0 l).length := hq
    refine ⟨_, (pss_cons (ps_set (i := 3) sc__law_seen.nd rfl (Or.inr rfl) (pe_cal C__law_edges hr pass0 (pa_cons (pv 0) pa_nil)))
      (pss_one (ps_ret (pe_callTy (tupK K) (by rfl) T.tuple (by decide +kernel) (pa_cons (pe_lc (own := [("_law_k", 4)]) (g := gName 4) rfl sc__law_seen.nd (pi_range1 (by rfl) T.range (pa_cons (pe_callB (lenK K) (by rfl) T.len PySem.boot_len (pa_cons (pv 1) pa_nil)) pa_nil)) (blkOk_by (own := [("_law_k", 4)]) (N := ["_law_s", "_law_layout", "_law_door", "_law_edges_here", "_law_k"]) (sc := defScope s__law_seen) (by decide +kernel)) (fun _ _ _ _ _ => (pg_name (i := 4) sc__law_seen.nd rfl (Or.inl rfl))) (fun _ _ _ _ _ => (pts_one (pt_cmpR (eqK K hr.units) (pe_ix (ixL K) (pv 3) (pv 4) (fun _ _ => rfl)) (pv 2) (nomark _)))) (fun _ _ _ _ _ => (pe_ix (ixT K) (pv 1) (pv 4) (fun _ _ => rfl)))) pa_nil))))), ?_⟩
    have pos0 : ∀ p ∈ l, 0 ≤ p.2 ∧ p.2 ≤ 100 := fun p hp => by have := G.each p hp; omega
    have e6 : ((edgesFrom 0 l).length : Int) ≤ 6 := by
      have := edges_len l 0 fun p hp => (pos0 p hp).1
      have : sizeOf l ≤ 6 := G.size
      omega
    refine s_asgN (K := K) (gn_call (l, e) (ga1 (gd_var rfl hw)) ⟨by have h : l.length ≤ 4 := G.hi; show l.length ≤ 100; omega, pos0⟩) fun p xs H1 hp e1 hpx hxs => ?_
    dsimp only
    have fE : ((List.range q.length).map fun i => D.int (i : Nat)).filter (fun d => match d with | .int i => (edgesFrom 0 l)[i.toNat]? == some ((j : Nat) : Int) | _ => false) = (idxD l j).map fun i => D.int (i : Nat) := by
      rw [List.filter_map, hq]
      rfl
    have mE : (((List.range q.length).map fun i => D.int (i : Nat)).filter (fun d => match d with | .int i => (edgesFrom 0 l)[i.toNat]? == some ((j : Nat) : Int) | _ => false)).map (fun d => match d with | .int i => cellD (q.getD i.toNat none) | d => d) = (idxD l j).map fun i => cellD (q.getD i none) := by
      rw [fE, List.map_map]
      rfl
    refine s_retK (k.up e1) (gd_cb (ga1 (GN.gd (GN.is (gn_lc (K := K) (ds := (List.range q.length).map fun i => D.int (i : Nat)) (fun d => match d with | .int i => (edgesFrom 0 l)[i.toNat]? == some ((j : Nat) : Int) | _ => false) (fun d => match d with | .int i => cellD (q.getD i.toNat none) | d => d) (fun H2 e2 => ?_) (by rw [List.length_map, List.length_range]; omega) (fun _ => rfl) (fun d hd _ => ?_) (fun d z H2 hd e2 hz => ?_) (fun d z H2 hd e2 hz _ => ?_)) mE))) (rc_tuple (.inl rfl) (fix_seen l q j)))
    · rw [show List.range q.length = List.range ((q.length : Nat) : Int).toNat by simp]
      exact gi_range1 (n := (q.length : Nat)) (ga1 (gd_cb (ga1 (gd_var rfl ((hx.up e1).up e2))) (rc_len (d := layD q) (n := q.length) (by simp [layD, D.len]) (by omega)))) (by omega) (by omega)
    · obtain ⟨i, hi, rfl⟩ := List.mem_map.mp hd
      show (cellD _).fix = true
      cases q.getD ((i : Nat) : Int).toNat none <;> rfl
    · obtain ⟨i, hi, rfl⟩ := List.mem_map.mp hd
      have hi' := List.mem_range.mp hi
      have hi2 : i < (edgesFrom 0 l).length := by omega
      refine gt_test (GD.is (gd_op (d := .int (edgesFrom 0 l)[i]) (gd_op (gd_var rfl (.lst (e2 _ _ hpx) (hxs.up e2))) (gd_var rfl hz) (r_ixL (atI_nat (show ((edgesFrom 0 l).map D.int)[i]? = some (D.int (edgesFrom 0 l)[i]) by simp [hi2])))) (gd_var rfl ((hy.up e1).up e2)) r_eqI) ?_)
      simp [List.getElem?_eq_getElem hi2]
    · obtain ⟨i, hi, rfl⟩ := List.mem_map.mp hd
      have hi' := List.mem_range.mp hi
      exact gd_op (gd_var rfl ((hx.up e1).up e2)) (gd_var rfl hz) (r_ixT (atI_nat (show (q.map cellD)[i]? = some (cellD (q.getD i none)) by simp [hi'])))
end
end My

/-! what is a layout, told by the list of all -/
namespace My
open PySem L2 RZ Cc CcGen
theorem eqv_cell {c : Option Str} {d : D} (h : flatC d = true) : PyData.eqv (cellD c).py d.py = true ↔ cellD c = d := by
  cases c with
  | none => cases d <;> simp [cellD, D.py, PyData.eqv, flatC] at h ⊢
  | some x => cases d <;> simp [cellD, D.py, PyData.eqv, flatC] at h ⊢
theorem eqv_cells : ∀ (q : List (Option Str)) (ds : List D), ds.all flatC = true → (PyData.eqvAll (D.pys (q.map cellD)) (D.pys ds) = true ↔ q.map cellD = ds)
  | [], [], _ => by simp [D.pys, PyData.eqvAll]
  | [], d :: ds, _ => by simp [D.pys, PyData.eqvAll]
  | c :: q, [], _ => by simp [D.pys, PyData.eqvAll]
  | c :: q, d :: ds, h => by
    have h' : flatC d = true ∧ ds.all flatC = true := by simpa using h
    have ih := eqv_cells q ds h'.2
    simp only [List.map_cons, D.pys, PyData.eqvAll, Bool.and_eq_true, eqv_cell h'.1, ih, List.cons.injEq]
theorem eqv_lay {q : List (Option Str)} {ds : List D} (h : ds.all flatC = true) : PyData.eqv (layP q).py (D.tup ds).py = true ↔ q.map cellD = ds := by
  have : PyData.eqv (layP q).py (D.tup ds).py = PyData.eqvAll (D.pys (q.map cellD)) (D.pys ds) := rfl
  rw [this]
  exact eqv_cells q ds h
/-- a cell of it -/
def optC : D → Option Str
  | .str x => some x
  | _ => none
theorem cells_of {ds : List D} (h : ds.all flatC = true) (k : (ds.filter isSome).all (D.isT "str") = true) : (ds.map optC).map cellD = ds := by
  induction ds with
  | nil => rfl
  | cons d ds ih =>
    have h' : flatC d = true ∧ ds.all flatC = true := by simpa using h
    cases d with
    | non =>
      have k' : (ds.filter isSome).all (D.isT "str") = true := k
      simp [optC, cellD, ih h'.2 k']
    | str x =>
      have k2 : ((D.str x :: ds.filter isSome)).all (D.isT "str") = true := k
      rw [List.all_cons] at k2
      simp [optC, cellD, ih h'.2 (Bool.and_eq_true_iff.mp k2).2]
    | int i =>
      have k2 : ((D.int i :: ds.filter isSome)).all (D.isT "str") = true := k
      rw [List.all_cons] at k2
      cases (Bool.and_eq_true_iff.mp k2).1
    | _ => cases h'.1
theorem txts_cells : ∀ q : List (Option Str), txts (q.map cellD) = Arr.nm q
  | [] => rfl
  | none :: q => txts_cells q
  | some x :: q => by
    show x :: txts (q.map cellD) = x :: Arr.nm q
    rw [txts_cells q]
theorem all_cells (q : List (Option Str)) : ((q.map cellD).filter isSome).all (D.isT "str") = true := List.all_eq_true.mpr fun d hd => by
  obtain ⟨h1, h2⟩ := List.mem_filter.mp hd
  obtain ⟨c, _, rfl⟩ := List.mem_map.mp h1
  cases c with
  | none => cases h2
  | some x => rfl
theorem isLay_cells {n : Nat} {S : List Str} {q : List (Option Str)} : isLay n S (.tup (q.map cellD)) = true ↔ q.length = n ∧ (Arr.nm q).Perm S := by
  simp only [isLay, Bool.and_eq_true, decide_eq_true_eq, all_cells, true_and, txts_cells, List.length_map]
  constructor
  · rintro ⟨a, b⟩; exact ⟨by omega, b⟩
  · rintro ⟨a, b⟩; exact ⟨by omega, b⟩
/-- is_layout is what the list of all says -/
theorem isLay_any {n : Nat} {S : List Str} {ds : List D} (hS : S.length ≤ n) (h : ds.all flatC = true) : isLay n S (.tup ds) = (D.pys ((Arr.arr n S (n - S.length)).map layP)).any fun z => PyData.eqv z (D.tup ds).py := by
  rw [Bool.eq_iff_iff, List.any_eq_true]
  constructor
  · intro hl
    have hl' := hl
    simp only [isLay, Bool.and_eq_true] at hl'
    have e := cells_of h hl'.2.1
    rw [← e] at hl
    obtain ⟨a, b⟩ := isLay_cells.mp hl
    refine ⟨(layP (ds.map optC)).py, ?_, (eqv_lay h).mpr e⟩
    rw [D.pys_map]
    exact List.mem_map_of_mem (List.mem_map_of_mem ((Arr.mem_arr n S (n - S.length) (by omega) _).mpr ⟨a, b⟩))
  · rintro ⟨z, hz, he⟩
    rw [D.pys_map] at hz
    obtain ⟨d, hd, rfl⟩ := List.mem_map.mp hz
    obtain ⟨q, hq, rfl⟩ := List.mem_map.mp hd
    rw [← (eqv_lay h).mp he]
    exact isLay_cells.mpr ((Arr.mem_arr n S (n - S.length) (by omega) q).mp hq)
theorem good_names : ∀ c, c ≤ 5 → GoodS (names.take c) := by
  have key : ∀ c : Fin 6, ((names.take c.val).Pairwise leS ∧ (names.take c.val).length ≤ 50) ∧ ∀ x ∈ names.take c.val, PyData.strOk x = true := by
    unfold leS
    decide +kernel
  intro c hc
  obtain ⟨⟨a, b⟩, d⟩ := key ⟨c, by omega⟩
  exact ⟨a, b, d⟩
theorem nodup_names (c : Nat) : (names.take c).Nodup := (show names.Nodup by decide +kernel).sublist (List.take_sublist _ _)
theorem len_names {c : Nat} (h : c ≤ 5) : (names.take c).length = c := by simp [names]; omega
theorem perm_prod {n c : Nat} (hn : n ≤ 6) (hc : c ≤ n) : PySem.W.mcPerm (n : Int) (c : Nat) = (Arr.prodA n c : Nat) := by
  have key : ∀ n : Fin 7, ∀ c : Fin 7, c.val ≤ n.val → PySem.W.mcPerm (n.val : Int) (c.val : Nat) = (Arr.prodA n.val c.val : Nat) := by decide +kernel
  exact key ⟨n, by omega⟩ ⟨c, by omega⟩ hc
theorem mem_nm {x : Str} {q : List (Option Str)} (h : some x ∈ q) : x ∈ Arr.nm q := List.mem_filterMap.mpr ⟨some x, h, rfl⟩
theorem cells_ok {S : List Str} (hS : ∀ x ∈ S, PyData.strOk x = true) {n : Nat} {q : List (Option Str)} (hn : S.length ≤ n) (hq : q ∈ Arr.arr n S (n - S.length)) (m : Nat) : okDs m (q.map cellD) = true := okDs_iff.mpr fun d hd => by
  obtain ⟨c, hc, rfl⟩ := List.mem_map.mp hd
  cases c with
  | none => cases m <;> rfl
  | some x =>
    have hp := ((Arr.mem_arr n S (n - S.length) (by omega) q).mp hq).2
    have := hS x (hp.mem_iff.mp (mem_nm hc))
    cases m <;> simpa [cellD, okD] using this
theorem lays_ok {S : List Str} (hS : ∀ x ∈ S, PyData.strOk x = true) {n : Nat} (hn : S.length ≤ n) : okD 3 (.lst ((Arr.arr n S (n - S.length)).map layP)) = true ∧ okD 3 (.lst ((Arr.arr n S (n - S.length)).map layD)) = true := by
  refine ⟨okDs_iff.mpr fun d hd => ?_, okDs_iff.mpr fun d hd => ?_⟩
  · obtain ⟨q, hq, rfl⟩ := List.mem_map.mp hd
    exact cells_ok hS hn hq 1
  · obtain ⟨q, hq, rfl⟩ := List.mem_map.mp hd
    exact cells_ok hS hn hq 1
theorem lays_py (L : List (List (Option Str))) : (D.lst (L.map layD)).py = (D.lst (L.map layP)).py := by
  simp only [D.py, D.pys_map, List.map_map]
  congr 1
/-- != of all layouts -/
theorem r_neLays {K : Fg} {S : List Str} (hS : ∀ x ∈ S, PyData.strOk x = true) {n : Nat} (hn : S.length ≤ n) : R2D K (rNeD K) (.lst ((Arr.arr n S (n - S.length)).map layD)) (.lst ((Arr.arr n S (n - S.length)).map layP)) (.bl false) := by
  obtain ⟨h1, h2⟩ := lays_ok hS hn
  have := r_ne (K := K) (ok_pl h2) (ok_pl h1) (ok_shp h2 (by decide)) (ok_shp h1 (by decide))
  have e : (D.lst ((Arr.arr n S (n - S.length)).map layD)).eqv (.lst ((Arr.arr n S (n - S.length)).map layP)) = true := by
    unfold D.eqv
    rw [lays_py]
    exact ok_same h1
  rwa [e] at this
/-- in the list of all layouts -/
theorem r_inLays {K : Fg} {S : List Str} (hS : ∀ x ∈ S, PyData.strOk x = true) {n : Nat} (hn : S.length ≤ n) {ds : List D} (h : ds.all flatC = true) : R2D K (rInD K) (.tup ds) (.lst ((Arr.arr n S (n - S.length)).map layP)) (.bl (isLay n S (.tup ds))) := fun x y H Q hx hy q => by
  obtain ⟨h1, h2⟩ := lays_ok hS hn
  have hd : okD 1 (.tup ds) = true := okDs_iff.mpr fun d hd => by
    have := List.all_eq_true.mp h d hd
    cases d <;> first | rfl | exact this | cases this
  refine ⟨(D.tup ds).py, D.pys ((Arr.arr n S (n - S.length)).map layP), hx.dp _ x (ok_pl hd), hy.dp _ y (ok_pl h1), ok_shp hd (by decide), ok_shp h1 (by decide), ?_⟩
  rw [← isLay_any hn h]
  exact q _ H (Same.refl _) (.bl _)
end My

/-! the law k02 -/
namespace My
open PySem L2 RZ Cc CcGen
/-- what law calls, and its promises -/
structure Calls (P : Program) (w : World) (K : Fg) (mg : Str → Option Value) (base : Heap) (C CI CP CD CL CC : Addr) : Prop where
  taken : Cal P w K mg base CX0 1 "_law_taken" ["_law_row", "_law_many"] (spTaken K)
  pick : Cal P w K mg base CX0 2 "_law_pick" ["_law_row", "_law_some"] (spPick K)
  scheme : Cal P w K mg base CX0 2 "_law_scheme" ["_law_row", "_law_most", "_law_crates"] (spScheme K)
  store : Cal P w K mg base CX0 6 "_law_store" ["_law_s"] (spStore K C)
  edges : Cal P w K mg base CX0 1 "_law_edges" ["_law_s"] (spEdges K)
  lays : Cal P w K mg base CX0 2 "_law_layouts" ["_law_s"] (spLayouts K)
  seen : Cal P w K mg base CX0 2 "_law_seen" ["_law_s", "_law_layout", "_law_door"] (spSeen K)
  layouts : GCal P w K mg base 9 "layouts" ["store"] (spGen K C)
  count : Cal P w K mg base CX0 3 "layout_count" ["store"] (spCount K C)
  isLay : Cal P w K mg base CX0 3 "is_layout" ["store", "value"] (spIsLay K C)
  place : Cal P w K mg base (L2.CX P w) 5 "place_of" ["store", "layout", "name"] (spPlaceOf K C CL CC)
  behind : Cal P w K mg base (L2.CX P w) 7 "behind" ["store", "layout", "door"] (spBehind K C CL)
def spLaw (K : Fg) : Sp := fun vs H Q _ => ∃ (a : Addr) (ns : List Int), vs = [.ref a] ∧ SqL K H a (ns.map V.int) ∧ ns.length ≤ 63 ∧ ∀ H', Q (.bl true) H'
/-- what law knows all along -/
structure LS (K : Fg) (S : Addr × List Int) (r C : Addr) (l : List (Int × Int)) (c : Nat) (L : List (List (Option Str))) (vs v1 : V) (pd : Addr) (xd : List V) (H : Hp) : Prop where
  row : Row K S H r
  sch : Dn K H vs (schemeD l c)
  one : Dn K H v1 (storeD C l (cratesD c))
  due : H pd = some (.lst xd)
  dues : Dns K H xd (L.map layP)
  ne : pd ≠ r
theorem fix_crates (c : Nat) : (cratesD c).fix = true := D.fixs_iff.mpr fun d hd => by
  obtain ⟨k, _, rfl⟩ := List.mem_map.mp hd
  rfl
theorem fix_doors (l : List (Int × Int)) : (doorsD l).fix = true := fixs_doors l
theorem fix_scheme (l : List (Int × Int)) (c : Nat) : (schemeD l c).fix = true := by
  have h1 := fix_doors l
  have h2 := fix_crates c
  simp [schemeD, D.fix, D.fixs, h1, h2]
theorem fix_store (C : Addr) (l : List (Int × Int)) (c : Nat) : (storeD C l (cratesD c)).fix = true := by
  have h1 := fix_doors l
  have h2 := fix_crates c
  have h3 := fixs_places l 0
  simp [storeD, storeDs, D.fix, D.fixs, h1, h2, h3]
theorem fixs_cells (q : List (Option Str)) : D.fixs (q.map cellD) = true := D.fixs_iff.mpr fun d hd => by
  obtain ⟨c, _, rfl⟩ := List.mem_map.mp hd
  cases c <;> rfl
theorem fixs_layP (L : List (List (Option Str))) : D.fixs (L.map layP) = true := D.fixs_iff.mpr fun d hd => by
  obtain ⟨q, _, rfl⟩ := List.mem_map.mp hd
  exact fixs_cells q
section
variable {K : Fg} {S : Addr × List Int} {r C : Addr} {l : List (Int × Int)} {c : Nat} {L : List (List (Option Str))} {vs v1 : V} {pd : Addr} {xd : List V} {H H' : Hp}
theorem LS.up (h : LS K S r C l c L vs v1 pd xd H) (e : Same H H') : LS K S r C l c L vs v1 pd xd H' := ⟨h.row.up e, h.sch.up e, h.one.up e, e _ _ h.due, h.dues.up e, h.ne⟩
theorem LS.but (h : LS K S r C l c L vs v1 pd xd H) (b : But [r] H H') (hr : Row K S H' r) : LS K S r C l c L vs v1 pd xd H' := by
  obtain ⟨xs, hx⟩ := h.row.at
  exact ⟨hr, dn_but h.sch ⟨xs, hx⟩ b (fix_scheme l c), dn_but h.one ⟨xs, hx⟩ b (fix_store C l c), b _ _ h.due (by simpa using h.ne), h.dues.keep (kp_one b hx) (fixs_layP L), h.ne⟩
end
section
variable {K : Fg} {σ : L2.St} {H : Hp} {d e : D} {te : TE} {E : Ends} {tu : TS}
theorem pick_new {r : Addr} {S : Addr × List Int} {tl : TE} {ds : List D} {X : XK} {Q : VK} (h0 : σ[1]? = some (some (.ref r))) (hR : Row K S H r) (hl : GN K tl σ H ds) (hf : D.fixs ds = true) (h1 : 0 < ds.length) (h2 : ds.length ≤ 100000)
    (k : ∀ d' v' H', d' ∈ ds → But [r] H H' → Row K S H' r → Dn K H' v' d' → Q v' H') : tCall (spPick K) [] X (tCons (tVar 1) (tCons tl tNil)) σ H Q :=
  ⟨.ref r, h0, hl H (Same.refl _) _ fun p xs H1 hp e1 hx hd => by
    have hne : V.ref p ≠ .ref r := fun z => by
      obtain ⟨ys, hy⟩ := hR.at
      cases z
      rw [hp] at hy; cases hy
    exact ⟨S, r, .ref p, .lst ds, ds, rfl, hR.up e1, .lst hx hd, .inl rfl, hne, hf, h1, h2, fun d' v' H' hm b row hv => k d' v' H' hm ((But.of e1).trans b) row hv⟩⟩
theorem pick_var {r : Addr} {S : Addr × List Int} {j : Nat} {p : Addr} {xs : List V} {ds : List D} {X : XK} {Q : VK} (h0 : σ[1]? = some (some (.ref r))) (hR : Row K S H r) (hj : σ[j]? = some (some (.ref p))) (hx : H p = some (.lst xs)) (hd : Dns K H xs ds) (hne : p ≠ r) (hf : D.fixs ds = true) (h1 : 0 < ds.length) (h2 : ds.length ≤ 100000)
    (k : ∀ d' v' H', d' ∈ ds → But [r] H H' → Row K S H' r → Dn K H' v' d' → Q v' H') : tCall (spPick K) [] X (tCons (tVar 1) (tCons (tVar j) tNil)) σ H Q :=
  ⟨.ref r, h0, .ref p, hj, S, r, .ref p, .lst ds, ds, rfl, hR, .lst hx hd, .inl rfl, fun z => hne (V.ref.inj z), hf, h1, h2, k⟩
theorem s_par3 {i j m : Nat} {ta : TA} {z : D} (h : GA K ta σ H [d, e, z]) (k : ∀ u v w H1, Same H H1 → Dn K H1 u d → Dn K H1 v e → Dn K H1 w z → E.nx (((σ.set i (some u)).set j (some v)).set m (some w)) H1) : tPar3 i j m ta E σ H :=
  h H (Same.refl _) _ fun vs H1 q hv => by
    obtain ⟨u, v, w, rfl, h1, h2, h3⟩ := hv.un3
    exact ⟨u, v, w, rfl, k u v w H1 q h1 h2 h3⟩
/-- int(taken(row, m) == 0) -/
abbrev rInt1 : List V → Hp → VK → Prop := fun xs H Q => (∃ i, xs = [.int i] ∧ Q (.int i) H) ∨ ∃ k, xs = [.bl k] ∧ Q (.int (if k then 1 else 0)) H
theorem coin_int {r : Addr} {S : Addr × List Int} {X : XK} {m : Int} {Q : VK} (h0 : σ[1]? = some (some (.ref r))) (hR : Row K S H r) (hm : 0 < m ∧ m < 1073741824) (k : ∀ (b : Bool) H', But [r] H H' → Row K S H' r → Q (.int (if b then 1 else 0)) H') :
    tCB rInt1 (tCons (tOp (rEqD K) (tCall (spTaken K) [] X (tCons (tVar 1) (tCons (tC (.int m)) tNil))) (tC (.int 0))) tNil) σ H Q :=
  ⟨.ref r, h0, S, r, m, rfl, hR, hm.1, hm.2, fun k0 H1 _ _ b row => by
    have z : rEqD K (.int k0) (.int 0) H1 (fun x H1 => rInt1 [x] H1 Q) := r_eqI (.int k0) (.int 0) _ _ (.int k0) (.int 0) fun w0 H2 e2 hw => by
      cases hw
      exact .inr ⟨_, rfl, k _ H2 (b.trans (.of e2)) (row.up e2)⟩
    exact z⟩
/-- a comprehension whose item draws -/
theorem lc_draw {r : Addr} {S : Addr × List Int} {j N : Nat} {vs : List Nat} {Q : VK} (ok : D → Prop) (hw : ∀ x, wipe ((wipe σ vs).set j (some x)) vs = wipe σ vs) (hN : N ≤ 1000) (hR : Row K S H r) (hfix : ∀ d, ok d → d.fix = true)
    (he : ∀ (x : V) H', But [r] H H' → Row K S H' r → ∀ Q' : VK, (∀ d v H2, ok d → But [r] H' H2 → Row K S H2 r → Dn K H2 v d → Q' v H2) → te ((wipe σ vs).set j (some x)) H' Q')
    (k : ∀ p xs ds H', H p = none → H' p = some (.lst xs) → Dns K H' xs ds → ds.length = N → (∀ d ∈ ds, ok d) → But [r] H H' → Row K S H' r → Q (.ref p) H') : tLc (fun _ H R => R (Itr 0 N) H) (gName j) tYes te vs σ H Q := fun Dl hD => by
  have hDr : Dl ≠ r := fun z => by
    obtain ⟨ys, hy⟩ := hR.at
    rw [← z, hD] at hy; cases hy
  have fx : ∀ ds : List D, (∀ d ∈ ds, ok d) → D.fixs ds = true := fun ds h => D.fixs_iff.mpr fun d hd => hfix d (h d hd)
  have bk : ∀ {Ha Hb : Hp}, But [r] H Ha → But [r] Ha Hb → ∀ {y : V} {acc : List V}, Hb Dl = some (.lst acc) → But [r] H (upd Hb Dl (.lst (acc ++ [y]))) := fun {Ha Hb} b1 b2 {y acc} hh c o hc hn => by
    have hcD : c ≠ Dl := ne_of_none hc hD
    rw [upd_ne hcD]
    exact b2 c o (b1 c o hc hn) hn
  refine lc_it (walk_range (lo := 0) (n := N)) (fun i H' => ∃ acc ds, H' Dl = some (.lst acc) ∧ Dns K H' acc ds ∧ ds.length = i ∧ (∀ d ∈ ds, ok d) ∧ But [r] H H' ∧ Row K S H' r) ⟨[], [], upd_same, .nil, rfl, fun d hd => absurd hd (by simp), .of (Same.new hD), hR.up (Same.new hD)⟩ (fun _ _ _ _ => True.intro) (fun i x Ha Hb hi p y => ?_) (fun H' p => ?_)
  · obtain ⟨acc, ds, p1, p2, p3, p4, p5, p6⟩ := p
    obtain ⟨rfl, rfl⟩ := y
    refine ⟨hw _, ?_⟩
    unfold tYes
    dsimp only
    rw [if_pos rfl]
    refine he _ _ p5 p6 _ fun d v H2 hd b2 r2 hv => ?_
    have hDl : H2 Dl = some (.lst acc) := b2 _ _ p1 (by simpa using hDr)
    have kk : Kp H2 (upd H2 Dl (.lst (acc ++ [v]))) := Kp.upd hDl rfl
    refine ⟨acc, hDl, ?_, acc ++ [v], ds ++ [d], upd_same, ?_, by simp [p3], fun e he' => ?_, bk p5 b2 hDl, ?_⟩
    · have := p2.length
      rw [sizeLine_eq]; omega
    · obtain ⟨zs, hz⟩ := p6.at
      exact ((p2.keep (kp_one b2 hz) (fx ds p4)).keep kk (fx ds p4)).app (.cons (hv.keep kk (hfix d hd)) .nil)
    · rcases List.mem_append.mp he' with he' | he'
      · exact p4 e he'
      · rw [List.mem_singleton.mp he']; exact hd
    · obtain ⟨pos, rng, rest, g1, g2, g3, g4, g5⟩ := r2
      have iD : Ind K S Dl := by
        obtain ⟨_, _, _, _, q2, _⟩ := hR
        exact ind_new q2 hD
      exact ⟨pos, rng, rest, by rw [upd_ne (Ne.symm hDr)]; exact g1, lkeep g2 iD, g3, g4, g5⟩
  · obtain ⟨acc, ds, p1, p2, p3, p4, p5, p6⟩ := p
    exact k Dl acc ds H' hD p1 p2 p3 p4 p5 p6
theorem gd_placeOf {C CL CC : Addr} {X : L2.St → XK} {ta : TA} {l : List (Int × Int)} {S : List Str} {q : List (Option Str)} {x : Str} (h : GA K ta σ H [storeD C l (.tup (S.map D.str)), layP q, .str x]) (G : GoodS S) (ho : layOk (.tup (q.map cellD)) = true) (hl : isLay (sizeOf l) S (.tup (q.map cellD)) = true) (hx : x ∈ S) :
    GD K (tCallS (spPlaceOf K C CL CC) X ta) σ H (.int (q.idxOf (some x) : Nat)) := fun H1 e Q k =>
  h H1 e _ fun vs H2 e2 hv => ⟨l, S, q, x, hv, G, ho, fun _ _ H3 e3 => k _ H3 (e2.trans e3) (.int _), fun z => (by rw [hl] at z; cases z), fun _ z => absurd hx z⟩
theorem gd_behind {C CL : Addr} {X : L2.St → XK} {ta : TA} {l : List (Int × Int)} {S : List Str} {q : List (Option Str)} {j : Nat} (h : GA K ta σ H [storeD C l (.tup (S.map D.str)), layP q, .int (j : Nat)]) (G : GoodS S) (ho : layOk (.tup (q.map cellD)) = true) (Gd : GoodDoors l) (hl : isLay (sizeOf l) S (.tup (q.map cellD)) = true) (hj : j < l.length) :
    GD K (tCallS (spBehind K C CL) X ta) σ H (seenD l q j) := fun H1 e Q k =>
  h H1 e _ fun vs H2 e2 hv => ⟨l, S, q, j, hv, G, ho, Gd, hj, fun _ v H3 e3 hd => k v H3 (e2.trans e3) hd, fun z => (by rw [hl] at z; cases z)⟩
end
section
variable {P : Program} {w : World} {K : Fg} {mg : Str → Option Value} {base : Heap} {C CI fI CP CD CL CC : Addr}
theorem ok_law {f : Addr} {fd : FuncData} (F : Fun K "law" "law" s_law f fd) (T : TxtM P w K mg C CI fI CP CD CL CC) (S : Calls P w K mg base C CI CP CD CL CC) :
    FnOk P w K mg base CX0 14 f fd ["_law_script"] (spLaw K) := by
  obtain ⟨C__law_taken, C__law_pick, C__law_scheme, C__law_store, C__law_edges, C__law_layouts, C__law_seen, C_layouts, C_layout_count, C_is_layout, C_place_of, C_behind⟩ := S
  refine F.ok sc_law (fun vs H Q E h => ?_) (fun cdv A outer s H vs Q E hr h => ?_)
  · obtain ⟨a, ns, rfl, _⟩ := h
    rfl
  · refine ⟨_, (pss_cons (ps_set (i := 1) sc_law.nd rfl (Or.inr rfl) (pe_lst (pa_cons (pv 0) (pa_cons pe_int (pa_cons pe_int (pa_cons pe_int pa_nil))))))
      (pss_cons (ps_set (i := 2) sc_law.nd rfl (Or.inr rfl) (pe_cal C__law_scheme hr pass0 (pa_cons (pv 1) (pa_cons pe_int (pa_cons pe_int pa_nil)))))
      (pss_cons (ps_par3 (i := 3) (j := 4) (l := 5) rfl sc_law.nd rfl rfl rfl (by decide) (by decide) (by decide) rfl rfl rfl (pa_cons (pe_cal C__law_store hr pass0 (pa_cons (pv 2) pa_nil)) (pa_cons (pe_cal C__law_layouts hr pass0 (pa_cons (pv 2) pa_nil)) (pa_cons (pe_callB (lenK K) (by rfl) T.len PySem.boot_len (pa_cons (pe_cal C__law_edges hr pass0 (pa_cons (pv 2) pa_nil)) pa_nil)) pa_nil))) (by rfl))
      (pss_cons (ps_set (i := 6) sc_law.nd rfl (Or.inl rfl) pe_int)
      (pss_cons (ps_for PassesOwn.never rfl (pi_range1 (by rfl) T.range (pa_cons (pe_callB (lenK K) (by rfl) T.len PySem.boot_len (pa_cons (pe_ix (ixT K) (pv 2) pe_int (fun _ _ => rfl)) pa_nil)) pa_nil)) (pg_name (i := 7) sc_law.nd rfl (Or.inl rfl)) (pss_one (ps_set (i := 6) sc_law.nd rfl (Or.inl rfl) (pe_op op_mul (pv 6) (pe_op op_sub (pv 5) (pv 7))))))
      (pss_cons (ps_if (PW.pt (pw_or (pt_cmpR (neK K hr.units) (pe_listC C_layouts hr T.list (pa_cons (pv 3) pa_nil)) (pv 4) (nomark _)) (pw_or (pt_cmpR (neK K hr.units) (pe_cal C_layout_count hr pass0 (pa_cons (pv 3) pa_nil)) (pv 6) (nomark _)) (pw_or1 (pt_cmpR (neK K hr.units) (pe_callB (lenK K) (by rfl) T.len PySem.boot_len (pa_cons (pv 4) pa_nil)) (pv 6) (nomark _)))))) (pss_one (ps_ret pe_bl)) pss_nil)
      (pss_cons (ps_for PassesOwn.never rfl (pi_range1 (by rfl) T.range (pa_cons pe_int pa_nil)) (pg_name (i := 8) sc_law.nd rfl (Or.inl rfl)) (pss_cons (ps_setLc (i := 9) (own := [("_law_k", 7)]) (g := gName 7) rfl sc_law.nd rfl rfl (sw_true rfl rfl rfl (by decide +kernel)) (pi_range1 (by rfl) T.range (pa_cons (pe_op op_add (pv 5) (pe_callTy call_int1 (by rfl) T.int (by decide +kernel) (pa_cons (pe_cmpR (eqK K hr.units) (pe_cal C__law_taken hr pass0 (pa_cons (pv 1) (pa_cons pe_int pa_nil))) pe_int (nomark _)) pa_nil))) pa_nil)) (blkOk_by (own := [("_law_k", 7)]) (N := ["_law_script", "_law_row", "_law_s", "_law_one", "_law_due", "_law_size", "_law_count", "_law_k", "_law_turn", "_law_some", "_law_layout", "_law_name", "_law_door"]) (sc := defScope s_law) (by decide +kernel)) (fun _ _ _ _ _ => (pg_name (i := 7) sc_law.nd rfl (Or.inl rfl))) (fun _ _ _ _ _ => pts_nil) (fun _ _ _ _ _ => (pe_cal C__law_pick hr pass0 (pa_cons (pv 1) (pa_cons (pe_op op_cat (pe_lst (pa_cons pe_non pa_nil)) (pe_callTy (lstK K) (by rfl) T.list (by decide +kernel) (pa_cons (pe_ix (ixT K) (pv 2) pe_int (fun _ _ => rfl)) pa_nil))) pa_nil)))))
      (pss_cons (ps_set (i := 9) sc_law.nd rfl (Or.inl rfl) (pe_callTy (tupK K) (by rfl) T.tuple (by decide +kernel) (pa_cons (pe_op op_cat (pv 9) (pe_op op_rep (pe_lst (pa_cons pe_int pa_nil)) (pe_callTy call_int1 (by rfl) T.int (by decide +kernel) (pa_cons (pe_cmpR (eqK K hr.units) (pe_cal C__law_taken hr pass0 (pa_cons (pv 1) (pa_cons pe_int pa_nil))) pe_int (nomark _)) pa_nil)))) pa_nil)))
      (pss_one (ps_if (pt_cmpR (neK K hr.units) (pe_cal C_is_layout hr pass0 (pa_cons (pv 3) (pa_cons (pv 9) pa_nil))) (pe_cmpR (inDK K hr.units65) (pv 9) (pv 4) rfl) (nomark _)) (pss_one (ps_ret pe_bl)) pss_nil)))))
      (pss_cons (ps_set (i := 10) sc_law.nd rfl (Or.inl rfl) (pe_cal C__law_pick hr pass0 (pa_cons (pv 1) (pa_cons (pv 4) pa_nil))))
      (pss_cons (ps_for PassesOwn.never rfl (pi_tK K (pe_ix (ixT K) (pv 2) pe_int (fun _ _ => rfl))) (pg_name (i := 11) sc_law.nd rfl (Or.inl rfl)) (pss_one (ps_if (pt_cmpR (neK K hr.units) (pe_calS C_place_of hr LamX.takes0 (pa_cons (pv 3) (pa_cons (pv 10) (pa_cons (pv 11) pa_nil)))) (pe_bmP PySem.F.slot_tuple_index PySem.F.type_tuple_index (mt_idxT (K := K)) (pv 10) (pa_cons (pv 11) pa_nil)) (nomark _)) (pss_one (ps_ret pe_bl)) pss_nil)))
      (pss_cons (ps_for PassesOwn.never rfl (pi_range1 (by rfl) T.range (pa_cons (pe_callB (lenK K) (by rfl) T.len PySem.boot_len (pa_cons (pe_ix (ixT K) (pv 2) pe_int (fun _ _ => rfl)) pa_nil)) pa_nil)) (pg_name (i := 12) sc_law.nd rfl (Or.inl rfl)) (pss_one (ps_if (pt_cmpR (neK K hr.units) (pe_calS C_behind hr LamX.takes0 (pa_cons (pv 3) (pa_cons (pv 10) (pa_cons (pv 12) pa_nil)))) (pe_cal C__law_seen hr pass0 (pa_cons (pv 2) (pa_cons (pv 10) (pa_cons (pv 12) pa_nil)))) (nomark _)) (pss_one (ps_ret pe_bl)) pss_nil)))
      (pss_one (ps_ret (pe_and (pe_not (pe_cal C_is_layout hr pass0 (pa_cons (pv 3) (pa_cons (pe_callTy (lstK K) (by rfl) T.list (by decide +kernel) (pa_cons (pv 10) pa_nil)) pa_nil)))) (pe_one (pe_cal C_is_layout hr pass0 (pa_cons (pv 3) (pa_cons (pv 10) pa_nil))))))))))))))))), ?_⟩
    obtain ⟨a, ns, rfl, hS, hlen, k⟩ := h
    -- the row
    refine ⟨.ref a, rfl, by simp [sizeLine_eq], fun r hr0 => ?_⟩
    have e1 := Same.new (o := .lst [.ref a, .int 0, .int 0, .int 0]) hr0
    have hrow : Row K (a, ns) (upd H r (.lst [.ref a, .int 0, .int 0, .int 0])) r := ⟨0, 0, 0, upd_same, same_l e1 hS, ind_new hS hr0, hlen, by omega⟩
    generalize upd H r (.lst [.ref a, .int 0, .int 0, .int 0]) = H1 at hrow e1 ⊢
    -- the scheme
    refine ⟨.ref r, rfl, (a, ns), r, 6, 4, rfl, hrow, by omega, by omega, by omega, by omega, fun l c vs H2 sch b2 row2 hs2 => ?_⟩
    have G : GoodDoors l := sch.good (by omega)
    have pos0 : ∀ p ∈ l, 0 ≤ p.2 ∧ p.2 ≤ 100 := fun p hp => by have := G.each p hp; omega
    have one1 : ∀ p ∈ l, 1 ≤ p.2 := fun p hp => (G.each p hp).2.2.1
    have c5 : c ≤ 5 := by have := sch.c2; omega
    have l4 : l.length ≤ 4 := G.hi
    have elen : ((edgesFrom 0 l).length : Int) = sizeOf l := edges_len l 0 fun p hp => (pos0 p hp).1
    have z6 : sizeOf l ≤ 6 := G.size
    have cz : (c : Int) ≤ sizeOf l := sch.c3
    obtain ⟨n, hn⟩ : ∃ n : Nat, sizeOf l = n := ⟨(sizeOf l).toNat, by omega⟩
    have en : (edgesFrom 0 l).length = n := by omega
    have n6 : n ≤ 6 := by omega
    have cn : c ≤ n := by omega
    obtain ⟨S0, hS0⟩ : ∃ S0, S0 = names.take c := ⟨_, rfl⟩
    have GS : GoodS S0 := hS0 ▸ good_names c c5
    have nS : S0.Nodup := hS0 ▸ nodup_names c
    have lS : S0.length = c := hS0 ▸ len_names c5
    have hcr : cratesD c = .tup (S0.map D.str) := by rw [hS0]; rfl
    have Sn : S0.length ≤ n := by omega
    obtain ⟨L, hL⟩ : ∃ L, L = Arr.arr n S0 (n - S0.length) := ⟨_, rfl⟩
    have bL : Arr.bfs S0 ((edgesFrom 0 l).length - S0.length) (edgesFrom 0 l).length [[]] = L := by
      rw [hL, en]
      have := Arr.bfs_all S0 (n - S0.length) nS
      rwa [show S0.length + (n - S0.length) = n by omega] at this
    have lL : L.length = Arr.prodA n c := by
      rw [hL, Arr.arr_len, Arr.lenA_prod n n6 S0.length Sn, lS]
    have pL : Arr.prodA n c ≤ 720 := by
      have key : ∀ n : Fin 7, ∀ c : Fin 7, Arr.prodA n.val c.val ≤ 720 := by decide +kernel
      exact key ⟨n, by omega⟩ ⟨c, by omega⟩
    have pos1 : 0 < L.length := by
      have key : ∀ n : Fin 7, ∀ c : Fin 7, c.val ≤ n.val → 0 < Arr.prodA n.val c.val := by decide +kernel
      rw [lL]
      exact key ⟨n, by omega⟩ ⟨c, by omega⟩ cn
    dsimp only
    refine s_par3 (K := K) (d := storeD C l (cratesD c)) (e := .lst (L.map layP)) (z := .int (n : Nat)) (ga_cons (gd_call (l, cratesD c) (ga1 (gd_var rfl hs2)) ⟨G, good_ok G, good_fit G, crates_ok c, crates_fit_good sch.c1 c5 sch.c3⟩) (ga2 (GN.gd (gn_call (l, S0) (ga1 (GD.is (gd_var rfl hs2) (by rw [schemeD, hcr]))) ⟨show l.length ≤ 100 by omega, pos0, nS, show S0.length ≤ 5 by omega, show (edgesFrom 0 l).length ≤ 6 by omega, show S0.length ≤ (edgesFrom 0 l).length by omega⟩ (by show (Arr.bfs _ _ _ _).map layP = _; rw [bL]))) (gd_cb (ga1 (GN.gd (gn_call (l, cratesD c) (ga1 (gd_var rfl hs2)) ⟨show l.length ≤ 100 by omega, pos0⟩))) (rc_len (d := .lst ((edgesFrom 0 l).map D.int)) (n := n) (by simp [D.len, en]) (by omega))))) fun v1 vd v5 H3 e3 h1 hd h5 => ?_
    cases h5
    obtain ⟨pd, xd, rfl, hpd, hxd⟩ : ∃ pd xd, vd = .ref pd ∧ H3 pd = some (.lst xd) ∧ Dns K H3 xd (L.map layP) := by
      cases hd with
      | lst h1 h2 => exact ⟨_, _, rfl, h1, h2⟩
    have row3 := row2.up e3
    have pne : pd ≠ r := fun z => by
      obtain ⟨_, _, _, h1, _⟩ := row3
      rw [z, h1] at hpd
      cases hpd
      cases hed : L with
      | nil => rw [hed] at pos1; simp at pos1
      | cons x xs =>
        rw [hed] at hxd
        cases hxd with
        | cons _ h => cases xs with
          | nil => cases h
          | cons y ys => cases h with
            | cons h _ => cases h
    have L3 : LS K (a, ns) r C l c L vs v1 pd xd H3 := ⟨row3, hs2.up e3, h1, hpd, hxd, pne⟩
    clear hxd hpd hd h1 row3 hs2 row2 hrow
    have ix1 : ∀ {H : Hp} {σ : L2.St}, LS K (a, ns) r C l c L vs v1 pd xd H → σ[2]? = some (some vs) → GD K (tOp (rIxT K) (tVar 2) (tC (.int 1))) σ H (.tup (S0.map D.str)) := fun L hσ => GD.is (gd_op (gd_var hσ L.sch) gd_i (r_ixT (ds := [doorsD l, cratesD c]) (i := 1) rfl)) hcr
    have ix0 : ∀ {H : Hp} {σ : L2.St}, LS K (a, ns) r C l c L vs v1 pd xd H → σ[2]? = some (some vs) → GD K (tOp (rIxT K) (tVar 2) (tC (.int 0))) σ H (doorsD l) := fun L hσ => gd_op (gd_var hσ L.sch) gd_i (r_ixT (ds := [doorsD l, cratesD c]) (i := 0) rfl)
    have one : ∀ {H : Hp}, LS K (a, ns) r C l c L vs v1 pd xd H → Dn K H v1 (storeD C l (.tup (S0.map D.str))) := fun L => hcr ▸ L.one
    have dueD : ∀ {H : Hp} {σ : L2.St}, LS K (a, ns) r C l c L vs v1 pd xd H → σ[4]? = some (some (.ref pd)) → GD K (tVar 4) σ H (.lst (L.map layP)) := fun L hσ => gd_var hσ (.lst L.due L.dues)
    have neL : R2D K (rNeD K) (.lst (L.map layD)) (.lst (L.map layP)) (.bl false) := by rw [hL]; exact r_neLays GS.2.2 Sn
    -- how many
    dsimp only
    refine s_asg (K := K) gd_i fun z H4 e4 hz => ?_
    cases hz
    have L4 := L3.up e4
    dsimp only
    refine s_for (K := K) (M := []) (ds := (List.range c).map fun i => D.int (i : Nat)) ?_ fun H5 e5 =>
      ⟨fun i σ' H' => ∃ v7, σ' = [some (.ref a), some (.ref r), some vs, some v1, some (.ref pd), some (.int (n : Nat)), some (.int (Arr.prodA n i : Nat)), v7, none, none, none, none, none] ∧ Same H5 H', ⟨none, rfl, .refl _⟩, fun i σ' H' ⟨_, _, q⟩ => .of q, ?_, ?_, ?_⟩
    · rw [show List.range c = List.range ((c : Nat) : Int).toNat by simp]
      exact gi_range1 (n := (c : Nat)) (ga1 (gd_cb (ga1 (ix1 L4 rfl)) (rc_len (d := .tup (S0.map D.str)) (n := c) (by simp [D.len, lS]) (by omega)))) (by omega) (by omega)
    · rintro i σ' H' H'' q ⟨v7, rfl, q1⟩
      exact ⟨v7, rfl, q1.trans q⟩
    · rintro i d x σ' H' hd hx ⟨v7, rfl, q1⟩
      obtain ⟨hi, rfl⟩ : i < c ∧ d = .int (i : Nat) := by
        rw [List.getElem?_map] at hd
        by_cases c' : i < c
        · rw [List.getElem?_range c'] at hd
          cases hd
          exact ⟨c', rfl⟩
        · rw [List.getElem?_eq_none (by simpa using c')] at hd
          cases hd
      cases hx
      dsimp only [gName]
      have pi : Arr.prodA n i ≤ 720 := by
        have key : ∀ n : Fin 7, ∀ c : Fin 7, Arr.prodA n.val c.val ≤ 720 := by decide +kernel
        exact key ⟨n, by omega⟩ ⟨i, by omega⟩
      refine s_asg (K := K) (d := .int (Arr.prodA n (i + 1) : Nat)) (GD.is (gd_op (d := .int (Arr.prodA n i : Nat)) (e := .int ((n : Nat) - (i : Nat))) (gd_var rfl (.int _)) (gd_op (gd_var rfl (.int (n : Nat))) (gd_var rfl (.int (i : Nat))) r_int) (r_intC ?_)) ?_) fun z H6 e6 hz => ?_
      · exact .inl ⟨by omega, by omega⟩
      · have : ((n : Int) - (i : Int)) = ((n - i : Nat) : Int) := by omega
        rw [this, Arr.prodA, Int.natCast_mul]
      · cases hz
        exact ⟨_, rfl, q1.trans e6⟩
    rintro σ' H6 ⟨v7, rfl, e6⟩
    rw [List.length_map, List.length_range]
    have L6 := (L4.up e5).up e6
    dsimp only
    refine s_when (b := false) (GT.is (gt_or (a := false) (gt_test (gd_op (GN.gd (GN.is (gn_listGen (ga1 (gd_var rfl (one L6))) z6 (by omega)) (by rw [hn, hL]; rfl))) (dueD L6 rfl) neL)) fun _ => gt_or (a := false) (gt_test (gd_op (d := .int (Arr.prodA n c : Nat)) (GD.is (gd_call (l, S0) (ga1 (gd_var rfl (one L6))) ⟨show 0 ≤ sizeOf l by omega, show sizeOf l ≤ 100 by omega, show S0.length ≤ 100 by omega⟩) (by show D.int (PySem.W.mcPerm (sizeOf l) (S0.length : Nat)) = _; rw [hn, lS, perm_prod n6 cn])) (gd_var rfl (.int _)) (r_neSame (n := 0) rfl))) fun _ => gt_test (gd_op (d := .int (Arr.prodA n c : Nat)) (GD.is (gd_cb (ga1 (dueD L6 rfl)) (rc_len (d := .lst (L.map layP)) (n := L.length) (by simp [D.len]) (by omega))) (by rw [lL])) (gd_var rfl (.int _)) (r_neSame (n := 0) rfl))) rfl) (fun z => nomatch z) fun _ H7 e7 => ?_
    have L7 := L6.up e7
    -- five drawn tuples
    dsimp only
    refine s_for (K := K) (M := [r]) (ds := (List.range 5).map fun i => D.int (i : Nat)) ?_ fun H8 e8 =>
      ⟨fun i σ' H' => ∃ v7 v8 v9, σ' = [some (.ref a), some (.ref r), some vs, some v1, some (.ref pd), some (.int (n : Nat)), some (.int (Arr.prodA n c : Nat)), v7, v8, v9, none, none, none] ∧ LS K (a, ns) r C l c L vs v1 pd xd H' ∧ But [r] H8 H', ⟨v7, none, none, rfl, L7.up e8, .refl _ _⟩, fun i σ' H' ⟨_, _, _, _, _, q⟩ => q, ?_, ?_, ?_⟩
    · exact gi_range1 (n := 5) (ga1 gd_i) (by omega) (by omega)
    · rintro i σ' H' H'' q ⟨v7, v8, v9, rfl, q1, q2⟩
      exact ⟨v7, v8, v9, rfl, q1.up q, q2.trans (.of q)⟩
    · rintro i d x σ' H' hd hx ⟨v7', v8, v9, rfl, M1, q2⟩
      dsimp only [gName]
      -- the cells
      refine ⟨.int (n : Nat), rfl, coin_int rfl M1.row (by decide) fun b Ha ba ra => ⟨(n : Nat), _, rfl, rfl, _, rfl, by split <;> omega, by split <;> omega, ?_⟩⟩
      have Ma := M1.but ba ra
      have hN : ∃ N : Nat, ((n : Nat) + (if b = true then (1 : Int) else 0)).toNat = N ∧ N ≤ n + 1 := ⟨_, rfl, by split <;> omega⟩
      obtain ⟨N, hN, hN2⟩ := hN
      rw [hN]
      refine lc_draw (K := K) (σ := [some (.ref a), some (.ref r), some vs, some v1, some (.ref pd), some (.int (n : Nat)), some (.int (Arr.prodA n c : Nat)), v7', some x, v9, none, none, none]) (j := 7) (vs := [7]) (N := N) (Q := fun x H1 => gName 9 x _ H1 _) (fun d => ∃ o : Option Str, d = cellD o ∧ ∀ x, o = some x → x ∈ S0) (fun _ => rfl) (by omega) ra (fun d ⟨o, ho, _⟩ => by subst ho; cases o <;> rfl) (fun x Hb bb rb Q' k' => ?_) fun p9 x9 ds9 Hc hp9 hx9 hd9 hl9 ok9 bc rc => ?_
      · have Mb := Ma.but bb rb
        refine pick_new (K := K) (ds := (none :: S0.map some).map cellD) rfl rb (GN.is (gn_cat (ds := [D.non]) (es := S0.map D.str) (GN.gd (gn_lst (ga1 gd_n) (by simp))) (GN.gd (gn_list (ix1 Mb rfl) (.inr rfl))) (by simp; omega)) ?_) (fixs_cells _) (by simp) (by simp; omega) fun d' v' H' hm b3 r3 hv => ?_
        · simp [cellD, Function.comp_def]
        · obtain ⟨o, ho, rfl⟩ := List.mem_map.mp hm
          refine k' _ v' H' ⟨o, rfl, fun x hx => ?_⟩ b3 r3 hv
          subst hx
          simpa using ho
      have Mc := Ma.but bc rc
      have hpr : p9 ≠ r := fun z => by
        obtain ⟨ys, hy⟩ := ra.at
        rw [← z, hp9] at hy; cases hy
      have fl9 : ds9.all flatC = true := List.all_eq_true.mpr fun d hd => by
        obtain ⟨o, rfl, ho⟩ := ok9 d hd
        cases o with
        | none => rfl
        | some x => exact GS.2.2 x (ho x rfl)
      have fx9 : D.fixs ds9 = true := D.fixs_iff.mpr fun d hd => by
        obtain ⟨o, rfl, _⟩ := ok9 d hd
        cases o <;> rfl
      have l9 := hd9.length
      -- the tuple, perhaps with a number more
      refine ⟨.ref p9, rfl, by simp [sizeLine_eq], fun p5 hp5 => ?_⟩
      have n5 := Same.new (o := .lst [.int 5]) hp5
      have p5r : p5 ≠ r := fun z => by
        obtain ⟨ys, hy⟩ := rc.at
        rw [← z, hp5] at hy; cases hy
      refine coin_int rfl (rc.up n5) (by decide) fun bz Hd bd rd => ?_
      have Md := (Mc.up n5).but bd rd
      have h5 : Hd p5 = some (.lst [.int 5]) := bd _ _ upd_same (by simpa using p5r)
      have h9 : Hd p9 = some (.lst x9) := bd _ _ (n5 _ _ hx9) (by simpa using hpr)
      have hd9' : Dns K Hd x9 ds9 := (hd9.up n5).keep (kp_one bd (rc.up n5).at.choose_spec) fx9
      have kb : ∃ kz : Nat, (if bz = true then (1 : Int) else 0) = kz ∧ kz ≤ 1 := by cases bz; exact ⟨0, rfl, by omega⟩; exact ⟨1, rfl, by omega⟩
      obtain ⟨kz, hkz, kz1⟩ := kb
      rw [hkz]
      refine ⟨p5, (kz : Nat), [.int 5], rfl, rfl, h5, by omega, by omega, by simp [sizeLine_eq]; omega, fun p6 hp6 => ?_⟩
      have n6' := Same.new (o := .lst (List.replicate ((kz : Nat) : Int).toNat [V.int 5]).flatten) hp6
      have hrep : Dns K (upd Hd p6 (.lst (List.replicate ((kz : Nat) : Int).toNat [V.int 5]).flatten)) (List.replicate ((kz : Nat) : Int).toNat [V.int 5]).flatten (List.replicate ((kz : Nat) : Int).toNat [D.int 5]).flatten := Dns.rep (.cons (.int 5) .nil) _
      have lrep : (List.replicate ((kz : Nat) : Int).toNat [D.int 5]).flatten.length ≤ 1 := by simp; omega
      have frep : (List.replicate ((kz : Nat) : Int).toNat [D.int 5]).flatten.all flatC = true := List.all_eq_true.mpr fun d hd => by
        obtain ⟨xs, hxs, hd⟩ := List.mem_flatten.mp hd
        rw [List.eq_of_mem_replicate hxs] at hd
        rw [List.mem_singleton.mp hd]; rfl
      have lrv := hrep.length
      refine ⟨p9, p6, x9, _, rfl, rfl, n6' _ _ h9, upd_same, by rw [sizeLine_eq, lrv]; omega, fun p7 hp7 => ?_⟩
      refine ⟨p7, _, rfl, .inl ⟨SqL.of upd_same, fun l7 hl7 => ?_⟩⟩
      have n7 := Same.new (o := .lst (x9 ++ (List.replicate ((kz : Nat) : Int).toNat [V.int 5]).flatten)) hp7
      have n8 := Same.new (o := .tup (x9 ++ (List.replicate ((kz : Nat) : Int).toNat [V.int 5]).flatten)) hl7
      have n678 := (n6'.trans n7).trans n8
      have hz : Dn K _ (.ref l7) (.tup (ds9 ++ (List.replicate ((kz : Nat) : Int).toNat [D.int 5]).flatten)) := .tup (SqT.of upd_same) ((hd9'.up n678).app (hrep.up (n7.trans n8)))
      have Mz := Md.up n678
      generalize hEz : (List.replicate ((kz : Nat) : Int).toNat [D.int 5]).flatten = Ez at hz lrep frep
      have fall : (ds9 ++ Ez).all flatC = true := by rw [List.all_append, fl9, frep]; rfl
      have inL : R2D K (rInD K) (.tup (ds9 ++ Ez)) (.lst (L.map layP)) (.bl (isLay n S0 (.tup (ds9 ++ Ez)))) := by rw [hL]; exact r_inLays GS.2.2 Sn fall
      have lok : layOk (.tup (ds9 ++ Ez)) = true := by
        have : (ds9 ++ Ez).length < 64 := by rw [List.length_append]; omega
        simp only [layOk, decide_eq_true this, fall, Bool.and_self]
      have bz2 : But [r] H8 _ := q2.trans (ba.trans (bc.trans ((But.of n5).trans (bd.trans (.of n678)))))
      dsimp only [gName]
      refine s_when (b := false) (gt_test (gd_op (d := .bl (isLay n S0 (.tup (ds9 ++ Ez)))) (GD.is (gd_call (l, S0, D.tup (ds9 ++ Ez)) (ga2 (gd_var rfl (one Mz)) (gd_var rfl hz)) ⟨GS.1, GS.2.1, GS.2.2, lok⟩) (by show D.bl (isLay (sizeOf l) S0 _) = _; rw [hn])) (gd_op (gd_var rfl hz) (dueD Mz rfl) inL) (r_neSame (n := 0) rfl))) (fun z => nomatch z) fun _ H' e' => ?_
      exact ⟨_, _, _, rfl, Mz.up e', bz2.trans (.of e')⟩
    rintro σ' H9 ⟨v7', v8, v9, rfl, L9, _⟩
    -- a layout
    dsimp only
    refine pick_var (K := K) (j := 4) rfl L9.row rfl L9.due L9.dues L9.ne (fixs_layP L) (by rw [List.length_map]; exact pos1) (by rw [List.length_map]; omega) fun d' v10 H10 hm b10 r10 hv10 => ?_
    obtain ⟨q, hq, rfl⟩ := List.mem_map.mp hm
    have L10 := L9.but b10 r10
    have hq' : q.length = n ∧ (Arr.nm q).Perm S0 := (Arr.mem_arr n S0 (n - S0.length) (by omega) q).mp (hL ▸ hq)
    have hlay : isLay (sizeOf l) S0 (.tup (q.map cellD)) = true := by rw [hn]; exact isLay_cells.mpr hq'
    have lok : layOk (.tup (q.map cellD)) = true := by
      have h1 : (q.map cellD).length < 64 := by rw [List.length_map]; omega
      have h2 : (q.map cellD).all flatC = true := List.all_eq_true.mpr fun d hd => by
        obtain ⟨o, ho, rfl⟩ := List.mem_map.mp hd
        cases o with
        | none => rfl
        | some x => exact GS.2.2 x (hq'.2.mem_iff.mp (mem_nm ho))
      simp only [layOk, decide_eq_true h1, h2, Bool.and_self]
    -- the places of all crates
    dsimp only [gName]
    refine s_for (K := K) (M := []) (ds := S0.map D.str) (gi_tup (ix1 L10 rfl) ls_nil (D.fixs_iff.mpr fun d hd => by
      obtain ⟨x, _, rfl⟩ := List.mem_map.mp hd
      rfl)) fun H11 e11 =>
      ⟨fun i σ' H' => ∃ v11, σ' = [some (.ref a), some (.ref r), some vs, some v1, some (.ref pd), some (.int (n : Nat)), some (.int (Arr.prodA n c : Nat)), v7', v8, v9, some v10, v11, none] ∧ Same H11 H', ⟨none, rfl, .refl _⟩, fun i σ' H' ⟨_, _, q⟩ => .of q, ?_, ?_, ?_⟩
    · rintro i σ' H' H'' q ⟨v7, rfl, q1⟩
      exact ⟨v7, rfl, q1.trans q⟩
    · rintro i d x σ' H' hd hx ⟨v11, rfl, q1⟩
      obtain ⟨y, hy, rfl⟩ := List.mem_map.mp (List.mem_of_getElem? hd)
      have e12 := e11.trans q1
      have hin : some y ∈ q := by
        have := hq'.2.mem_iff.mpr hy
        obtain ⟨o, ho, e⟩ := List.mem_filterMap.mp this
        cases e; exact ho
      dsimp only [gName]
      refine s_when (b := false) (gt_test (gd_op (gd_placeOf (ga_cons (gd_var rfl (one (L10.up e12))) (ga2 (gd_var rfl (hv10.up e12)) (gd_var rfl hx))) GS lok hlay hy) (gd_idxCell (gd_var rfl (hv10.up e12)) (gd_var rfl hx) hin) (r_neSame (n := 0) rfl))) (fun z => nomatch z) fun _ H' e' => ?_
      exact ⟨_, rfl, q1.trans e'⟩
    rintro σ' H12 ⟨v11, rfl, e12⟩
    have L12 := (L10.up e11).up e12
    have hv12 := (hv10.up e11).up e12
    -- what lies behind all doors
    dsimp only
    refine s_for (K := K) (M := []) (ds := (List.range l.length).map fun i => D.int (i : Nat)) ?_ fun H13 e13 =>
      ⟨fun i σ' H' => ∃ v12, σ' = [some (.ref a), some (.ref r), some vs, some v1, some (.ref pd), some (.int (n : Nat)), some (.int (Arr.prodA n c : Nat)), v7', v8, v9, some v10, v11, v12] ∧ Same H13 H', ⟨none, rfl, .refl _⟩, fun i σ' H' ⟨_, _, q⟩ => .of q, ?_, ?_, ?_⟩
    · rw [show List.range l.length = List.range ((l.length : Nat) : Int).toNat by simp]
      exact gi_range1 (n := (l.length : Nat)) (ga1 (gd_cb (ga1 (ix0 L12 rfl)) (rc_len (d := doorsD l) (n := l.length) (by simp [doorsD, D.len]) (by omega)))) (by omega) (by omega)
    · rintro i σ' H' H'' q ⟨v7, rfl, q1⟩
      exact ⟨v7, rfl, q1.trans q⟩
    · rintro i d x σ' H' hd hx ⟨v11, rfl, q1⟩
      obtain ⟨hi, rfl⟩ : i < l.length ∧ d = .int (i : Nat) := by
        rw [List.getElem?_map] at hd
        by_cases c' : i < l.length
        · rw [List.getElem?_range c'] at hd
          cases hd
          exact ⟨c', rfl⟩
        · rw [List.getElem?_eq_none (by simpa using c')] at hd
          cases hd
      have e14 := e13.trans q1
      have okJ : okD 3 (seenD l q i) = true := okDs_iff.mpr fun d hd => by
        obtain ⟨j, _, rfl⟩ := List.mem_map.mp hd
        cases ho : q.getD j none with
        | none => rfl
        | some x =>
          have : some x ∈ q := by
            rw [List.getD_eq_getElem?_getD] at ho
            cases hj : q[j]? with
            | none => rw [hj] at ho; cases ho
            | some o => rw [hj] at ho; cases ho; exact List.mem_of_getElem? hj
          exact GS.2.2 x (hq'.2.mem_iff.mp (mem_nm this))
      dsimp only [gName]
      refine s_when (b := false) (gt_test (gd_op (gd_behind (ga_cons (gd_var rfl (one (L12.up e14))) (ga2 (gd_var rfl (hv12.up e14)) (gd_var rfl hx))) GS lok G hlay hi) (gd_call (l, cratesD c, q, i) (ga_cons (gd_var rfl (L12.up e14).sch) (ga2 (gd_var rfl (Dn.ofP (hv12.up e14))) (gd_var rfl hx))) ⟨G, by show q.length = (edgesFrom 0 l).length; omega, hi⟩) (r_neSame okJ))) (fun z => nomatch z) fun _ H' e' => ?_
      exact ⟨_, rfl, q1.trans e'⟩
    rintro σ' H14 ⟨v12, rfl, e14⟩
    have L14 := (L12.up e13).up e14
    have hv14 := (hv12.up e13).up e14
    dsimp only
    refine s_ret (gd_and (a := true) (b := true) (GD.is (gd_not (a := false) (GD.is (gd_call (l, S0, D.lst (q.map cellD)) (ga2 (gd_var rfl (one L14)) (GN.gd (gn_list (gd_var rfl (Dn.ofP hv14)) (.inr rfl)))) ⟨GS.1, GS.2.1, GS.2.2, rfl⟩) rfl)) rfl) fun _ => GD.is (gd_call (l, S0, D.tup (q.map cellD)) (ga2 (gd_var rfl (one L14)) (gd_var rfl (Dn.ofP hv14))) ⟨GS.1, GS.2.1, GS.2.2, lok⟩) (congrArg D.bl hlay)) fun v H15 _ hv => ?_
    cases hv
    exact k H15
end
end My

namespace My
open PySem L2 RZ Cc CcGen PyProof.Rows
abbrev pwK : Program := PySem.Challenge.pw_coldcrates_k02_layouts_by_trying
theorem all_mk {w : World} {K : Fg} {h : Heap} {mg : Str → Option Value} {fa : Addr} (X : K.In h) (G : h.Ns mainGlobals mg) (hfa : mg "law" = some (.ref fa))
    {C CE : Addr}
    {oc_is_number kV_is_number dc_is_number pm_is_number ct_is_number cd_is_number : Value}
    {od_is_number an_is_number : Option Addr}
    {sl_is_number : Array (Option Value)}
    {f_is_number : Addr}
    {oc_is_word kV_is_word dc_is_word pm_is_word ct_is_word cd_is_word : Value}
    {od_is_word an_is_word : Option Addr}
    {sl_is_word : Array (Option Value)}
    {f_is_word : Addr}
    {oc_is_door kV_is_door dc_is_door pm_is_door ct_is_door cd_is_door : Value}
    {od_is_door an_is_door : Option Addr}
    {sl_is_door : Array (Option Value)}
    {f_is_door : Addr}
    {oc_doors_fit kV_doors_fit dc_doors_fit pm_doors_fit ct_doors_fit cd_doors_fit : Value}
    {od_doors_fit an_doors_fit : Option Addr}
    {sl_doors_fit : Array (Option Value)}
    {f_doors_fit : Addr}
    {oc_crates_fit kV_crates_fit dc_crates_fit pm_crates_fit ct_crates_fit cd_crates_fit : Value}
    {od_crates_fit an_crates_fit : Option Addr}
    {sl_crates_fit : Array (Option Value)}
    {f_crates_fit : Addr}
    {oc_places_behind kV_places_behind dc_places_behind pm_places_behind ct_places_behind cd_places_behind : Value}
    {od_places_behind an_places_behind : Option Addr}
    {sl_places_behind : Array (Option Value)}
    {f_places_behind : Addr}
    {oc_layouts kV_layouts dc_layouts pm_layouts ct_layouts cd_layouts : Value}
    {od_layouts an_layouts : Option Addr}
    {sl_layouts : Array (Option Value)}
    {f_layouts : Addr}
    {oc_all_layouts kV_all_layouts dc_all_layouts pm_all_layouts ct_all_layouts cd_all_layouts : Value}
    {od_all_layouts an_all_layouts : Option Addr}
    {sl_all_layouts : Array (Option Value)}
    {f_all_layouts : Addr}
    {oc_arrangements kV_arrangements dc_arrangements pm_arrangements ct_arrangements cd_arrangements : Value}
    {od_arrangements an_arrangements : Option Addr}
    {sl_arrangements : Array (Option Value)}
    {f_arrangements : Addr}
    {oc_layout_count kV_layout_count dc_layout_count pm_layout_count ct_layout_count cd_layout_count : Value}
    {od_layout_count an_layout_count : Option Addr}
    {sl_layout_count : Array (Option Value)}
    {f_layout_count : Addr}
    {oc_is_layout kV_is_layout dc_is_layout pm_is_layout ct_is_layout cd_is_layout : Value}
    {od_is_layout an_is_layout : Option Addr}
    {sl_is_layout : Array (Option Value)}
    {f_is_layout : Addr}
    {oc_check_layout kV_check_layout dc_check_layout pm_check_layout ct_check_layout cd_check_layout : Value}
    {od_check_layout an_check_layout : Option Addr}
    {sl_check_layout : Array (Option Value)}
    {f_check_layout : Addr}
    {oc_check_crate kV_check_crate dc_check_crate pm_check_crate ct_check_crate cd_check_crate : Value}
    {od_check_crate an_check_crate : Option Addr}
    {sl_check_crate : Array (Option Value)}
    {f_check_crate : Addr}
    {oc_has_door kV_has_door dc_has_door pm_has_door ct_has_door cd_has_door : Value}
    {od_has_door an_has_door : Option Addr}
    {sl_has_door : Array (Option Value)}
    {f_has_door : Addr}
    {oc_check_door kV_check_door dc_check_door pm_check_door ct_check_door cd_check_door : Value}
    {od_check_door an_check_door : Option Addr}
    {sl_check_door : Array (Option Value)}
    {f_check_door : Addr}
    {oc_place_of kV_place_of dc_place_of pm_place_of ct_place_of cd_place_of : Value}
    {od_place_of an_place_of : Option Addr}
    {sl_place_of : Array (Option Value)}
    {f_place_of : Addr}
    {oc_behind kV_behind dc_behind pm_behind ct_behind cd_behind : Value}
    {od_behind an_behind : Option Addr}
    {sl_behind : Array (Option Value)}
    {f_behind : Addr}
    {oc_contents kV_contents dc_contents pm_contents ct_contents cd_contents : Value}
    {od_contents an_contents : Option Addr}
    {sl_contents : Array (Option Value)}
    {f_contents : Addr}
    {oc__law_taken kV__law_taken dc__law_taken pm__law_taken ct__law_taken cd__law_taken : Value}
    {od__law_taken an__law_taken : Option Addr}
    {sl__law_taken : Array (Option Value)}
    {f__law_taken : Addr}
    {oc__law_pick kV__law_pick dc__law_pick pm__law_pick ct__law_pick cd__law_pick : Value}
    {od__law_pick an__law_pick : Option Addr}
    {sl__law_pick : Array (Option Value)}
    {f__law_pick : Addr}
    {oc__law_scheme kV__law_scheme dc__law_scheme pm__law_scheme ct__law_scheme cd__law_scheme : Value}
    {od__law_scheme an__law_scheme : Option Addr}
    {sl__law_scheme : Array (Option Value)}
    {f__law_scheme : Addr}
    {oc__law_store kV__law_store dc__law_store pm__law_store ct__law_store cd__law_store : Value}
    {od__law_store an__law_store : Option Addr}
    {sl__law_store : Array (Option Value)}
    {f__law_store : Addr}
    {oc__law_edges kV__law_edges dc__law_edges pm__law_edges ct__law_edges cd__law_edges : Value}
    {od__law_edges an__law_edges : Option Addr}
    {sl__law_edges : Array (Option Value)}
    {f__law_edges : Addr}
    {oc__law_layouts kV__law_layouts dc__law_layouts pm__law_layouts ct__law_layouts cd__law_layouts : Value}
    {od__law_layouts an__law_layouts : Option Addr}
    {sl__law_layouts : Array (Option Value)}
    {f__law_layouts : Addr}
    {oc__law_seen kV__law_seen dc__law_seen pm__law_seen ct__law_seen cd__law_seen : Value}
    {od__law_seen an__law_seen : Option Addr}
    {sl__law_seen : Array (Option Value)}
    {f__law_seen : Addr}
    {oc_law kV_law dc_law pm_law ct_law cd_law : Value}
    {od_law an_law : Option Addr}
    {sl_law : Array (Option Value)}
    {f_law : Addr}
    {oc_m__init__ kV_m__init__ dc_m__init__ pm_m__init__ ct_m__init__ cd_m__init__ : Value}
    {od_m__init__ an_m__init__ : Option Addr}
    {sl_m__init__ : Array (Option Value)}
    {f_m__init__ : Addr}
    {oc_m__len__ kV_m__len__ dc_m__len__ pm_m__len__ ct_m__len__ cd_m__len__ : Value}
    {od_m__len__ an_m__len__ : Option Addr}
    {sl_m__len__ : Array (Option Value)}
    {f_m__len__ : Addr}
    {oc_mplaces_of kV_mplaces_of dc_mplaces_of pm_mplaces_of ct_mplaces_of cd_mplaces_of : Value}
    {od_mplaces_of an_mplaces_of : Option Addr}
    {sl_mplaces_of : Array (Option Value)}
    {f_mplaces_of : Addr}
    {p_pcrates : Addr}
    {r_pcrates : List Value}
    {oc_pcrates kV_pcrates dc_pcrates pm_pcrates ct_pcrates cd_pcrates : Value}
    {od_pcrates an_pcrates : Option Addr}
    {sl_pcrates : Array (Option Value)}
    {f_pcrates : Addr}
    {p_psize : Addr}
    {r_psize : List Value}
    {oc_psize kV_psize dc_psize pm_psize ct_psize cd_psize : Value}
    {od_psize an_psize : Option Addr}
    {sl_psize : Array (Option Value)}
    {f_psize : Addr}
    {e_InvalidStore : Addr}
    {nm_InvalidStore qn_InvalidStore : Str}
    {N_InvalidStore : Addr}
    {bs_InvalidStore sub_InvalidStore : List Value}
    {sn_InvalidStore : List Str}
    {ab_InvalidStore : Bool}
    {col_InvalidStore : Option Bool}
    {dd_InvalidStore : Option Addr}
    {k0_InvalidStore k1_InvalidStore k2_InvalidStore k3_InvalidStore k5_InvalidStore : Option Value}
    {fI_InvalidStore cda_InvalidStore ccI_InvalidStore : Addr}
    {ocI_InvalidStore dcI_InvalidStore pmI_InvalidStore ctI_InvalidStore cclI_InvalidStore clI_InvalidStore : Value}
    {odI_InvalidStore anI_InvalidStore cddI_InvalidStore cldI_InvalidStore : Option Addr}
    {slI_InvalidStore ccsI_InvalidStore cslI_InvalidStore : Array (Option Value)}
    {vsI_InvalidStore : Array Value}
    {fileI_InvalidStore : Str}
    {tfI_InvalidStore : Tok}
    {e_UnknownDoor : Addr}
    {e_UnknownCrate : Addr}
    {e_InvalidLayout : Addr}
    {t_LETTERS : Tok}
    {t_LONGEST_WORD : Tok}
    {t_MOST_DOORS : Tok}
    {t_MOST_WARMTH : Tok}
    {t_MOST_BEHIND : Tok}
    {t_MOST_PLACES : Tok}
    {t_MOST_CRATES : Tok}
    (a_is_number : PySem.W.nsIn K mainGlobals "is_number" = some (some (.ref f_is_number)))
    (l_is_number : K.lookup f_is_number = some ⟨oc_is_number, od_is_number, .func (PySem.W.fnOf "is_number" "is_number" (defArgs s_is_number) (defBody s_is_number) (defScope s_is_number) .none kV_is_number dc_is_number pm_is_number an_is_number cd_is_number ct_is_number), sl_is_number⟩)
    (c_is_number : PySem.W.codeIn K cd_is_number "is_number" = true)
    (k_is_number : PySem.W.keepIn K (.ref f_is_number) = true)
    (a_is_word : PySem.W.nsIn K mainGlobals "is_word" = some (some (.ref f_is_word)))
    (l_is_word : K.lookup f_is_word = some ⟨oc_is_word, od_is_word, .func (PySem.W.fnOf "is_word" "is_word" (defArgs s_is_word) (defBody s_is_word) (defScope s_is_word) .none kV_is_word dc_is_word pm_is_word an_is_word cd_is_word ct_is_word), sl_is_word⟩)
    (c_is_word : PySem.W.codeIn K cd_is_word "is_word" = true)
    (k_is_word : PySem.W.keepIn K (.ref f_is_word) = true)
    (a_is_door : PySem.W.nsIn K mainGlobals "is_door" = some (some (.ref f_is_door)))
    (l_is_door : K.lookup f_is_door = some ⟨oc_is_door, od_is_door, .func (PySem.W.fnOf "is_door" "is_door" (defArgs s_is_door) (defBody s_is_door) (defScope s_is_door) .none kV_is_door dc_is_door pm_is_door an_is_door cd_is_door ct_is_door), sl_is_door⟩)
    (c_is_door : PySem.W.codeIn K cd_is_door "is_door" = true)
    (k_is_door : PySem.W.keepIn K (.ref f_is_door) = true)
    (a_doors_fit : PySem.W.nsIn K mainGlobals "doors_fit" = some (some (.ref f_doors_fit)))
    (l_doors_fit : K.lookup f_doors_fit = some ⟨oc_doors_fit, od_doors_fit, .func (PySem.W.fnOf "doors_fit" "doors_fit" (defArgs s_doors_fit) (defBody s_doors_fit) (defScope s_doors_fit) .none kV_doors_fit dc_doors_fit pm_doors_fit an_doors_fit cd_doors_fit ct_doors_fit), sl_doors_fit⟩)
    (c_doors_fit : PySem.W.codeIn K cd_doors_fit "doors_fit" = true)
    (k_doors_fit : PySem.W.keepIn K (.ref f_doors_fit) = true)
    (a_crates_fit : PySem.W.nsIn K mainGlobals "crates_fit" = some (some (.ref f_crates_fit)))
    (l_crates_fit : K.lookup f_crates_fit = some ⟨oc_crates_fit, od_crates_fit, .func (PySem.W.fnOf "crates_fit" "crates_fit" (defArgs s_crates_fit) (defBody s_crates_fit) (defScope s_crates_fit) .none kV_crates_fit dc_crates_fit pm_crates_fit an_crates_fit cd_crates_fit ct_crates_fit), sl_crates_fit⟩)
    (c_crates_fit : PySem.W.codeIn K cd_crates_fit "crates_fit" = true)
    (k_crates_fit : PySem.W.keepIn K (.ref f_crates_fit) = true)
    (a_places_behind : PySem.W.nsIn K mainGlobals "places_behind" = some (some (.ref f_places_behind)))
    (l_places_behind : K.lookup f_places_behind = some ⟨oc_places_behind, od_places_behind, .func (PySem.W.fnOf "places_behind" "places_behind" (defArgs s_places_behind) (defBody s_places_behind) (defScope s_places_behind) .none kV_places_behind dc_places_behind pm_places_behind an_places_behind cd_places_behind ct_places_behind), sl_places_behind⟩)
    (c_places_behind : PySem.W.codeIn K cd_places_behind "places_behind" = true)
    (k_places_behind : PySem.W.keepIn K (.ref f_places_behind) = true)
    (a_layouts : PySem.W.nsIn K mainGlobals "layouts" = some (some (.ref f_layouts)))
    (l_layouts : K.lookup f_layouts = some ⟨oc_layouts, od_layouts, .func (PySem.W.fnOf "layouts" "layouts" (defArgs s_layouts) (defBody s_layouts) (defScope s_layouts) .none kV_layouts dc_layouts pm_layouts an_layouts cd_layouts ct_layouts), sl_layouts⟩)
    (c_layouts : PySem.W.codeIn K cd_layouts "layouts" = true)
    (k_layouts : PySem.W.keepIn K (.ref f_layouts) = true)
    (a_all_layouts : PySem.W.nsIn K mainGlobals "all_layouts" = some (some (.ref f_all_layouts)))
    (l_all_layouts : K.lookup f_all_layouts = some ⟨oc_all_layouts, od_all_layouts, .func (PySem.W.fnOf "all_layouts" "all_layouts" (defArgs s_all_layouts) (defBody s_all_layouts) (defScope s_all_layouts) .none kV_all_layouts dc_all_layouts pm_all_layouts an_all_layouts cd_all_layouts ct_all_layouts), sl_all_layouts⟩)
    (c_all_layouts : PySem.W.codeIn K cd_all_layouts "all_layouts" = true)
    (k_all_layouts : PySem.W.keepIn K (.ref f_all_layouts) = true)
    (a_arrangements : PySem.W.nsIn K mainGlobals "arrangements" = some (some (.ref f_arrangements)))
    (l_arrangements : K.lookup f_arrangements = some ⟨oc_arrangements, od_arrangements, .func (PySem.W.fnOf "arrangements" "arrangements" (defArgs s_arrangements) (defBody s_arrangements) (defScope s_arrangements) .none kV_arrangements dc_arrangements pm_arrangements an_arrangements cd_arrangements ct_arrangements), sl_arrangements⟩)
    (c_arrangements : PySem.W.codeIn K cd_arrangements "arrangements" = true)
    (k_arrangements : PySem.W.keepIn K (.ref f_arrangements) = true)
    (a_layout_count : PySem.W.nsIn K mainGlobals "layout_count" = some (some (.ref f_layout_count)))
    (l_layout_count : K.lookup f_layout_count = some ⟨oc_layout_count, od_layout_count, .func (PySem.W.fnOf "layout_count" "layout_count" (defArgs s_layout_count) (defBody s_layout_count) (defScope s_layout_count) .none kV_layout_count dc_layout_count pm_layout_count an_layout_count cd_layout_count ct_layout_count), sl_layout_count⟩)
    (c_layout_count : PySem.W.codeIn K cd_layout_count "layout_count" = true)
    (k_layout_count : PySem.W.keepIn K (.ref f_layout_count) = true)
    (a_is_layout : PySem.W.nsIn K mainGlobals "is_layout" = some (some (.ref f_is_layout)))
    (l_is_layout : K.lookup f_is_layout = some ⟨oc_is_layout, od_is_layout, .func (PySem.W.fnOf "is_layout" "is_layout" (defArgs s_is_layout) (defBody s_is_layout) (defScope s_is_layout) .none kV_is_layout dc_is_layout pm_is_layout an_is_layout cd_is_layout ct_is_layout), sl_is_layout⟩)
    (c_is_layout : PySem.W.codeIn K cd_is_layout "is_layout" = true)
    (k_is_layout : PySem.W.keepIn K (.ref f_is_layout) = true)
    (a_check_layout : PySem.W.nsIn K mainGlobals "check_layout" = some (some (.ref f_check_layout)))
    (l_check_layout : K.lookup f_check_layout = some ⟨oc_check_layout, od_check_layout, .func (PySem.W.fnOf "check_layout" "check_layout" (defArgs s_check_layout) (defBody s_check_layout) (defScope s_check_layout) .none kV_check_layout dc_check_layout pm_check_layout an_check_layout cd_check_layout ct_check_layout), sl_check_layout⟩)
    (c_check_layout : PySem.W.codeIn K cd_check_layout "check_layout" = true)
    (k_check_layout : PySem.W.keepIn K (.ref f_check_layout) = true)
    (a_check_crate : PySem.W.nsIn K mainGlobals "check_crate" = some (some (.ref f_check_crate)))
    (l_check_crate : K.lookup f_check_crate = some ⟨oc_check_crate, od_check_crate, .func (PySem.W.fnOf "check_crate" "check_crate" (defArgs s_check_crate) (defBody s_check_crate) (defScope s_check_crate) .none kV_check_crate dc_check_crate pm_check_crate an_check_crate cd_check_crate ct_check_crate), sl_check_crate⟩)
    (c_check_crate : PySem.W.codeIn K cd_check_crate "check_crate" = true)
    (k_check_crate : PySem.W.keepIn K (.ref f_check_crate) = true)
    (a_has_door : PySem.W.nsIn K mainGlobals "has_door" = some (some (.ref f_has_door)))
    (l_has_door : K.lookup f_has_door = some ⟨oc_has_door, od_has_door, .func (PySem.W.fnOf "has_door" "has_door" (defArgs s_has_door) (defBody s_has_door) (defScope s_has_door) .none kV_has_door dc_has_door pm_has_door an_has_door cd_has_door ct_has_door), sl_has_door⟩)
    (c_has_door : PySem.W.codeIn K cd_has_door "has_door" = true)
    (k_has_door : PySem.W.keepIn K (.ref f_has_door) = true)
    (a_check_door : PySem.W.nsIn K mainGlobals "check_door" = some (some (.ref f_check_door)))
    (l_check_door : K.lookup f_check_door = some ⟨oc_check_door, od_check_door, .func (PySem.W.fnOf "check_door" "check_door" (defArgs s_check_door) (defBody s_check_door) (defScope s_check_door) .none kV_check_door dc_check_door pm_check_door an_check_door cd_check_door ct_check_door), sl_check_door⟩)
    (c_check_door : PySem.W.codeIn K cd_check_door "check_door" = true)
    (k_check_door : PySem.W.keepIn K (.ref f_check_door) = true)
    (a_place_of : PySem.W.nsIn K mainGlobals "place_of" = some (some (.ref f_place_of)))
    (l_place_of : K.lookup f_place_of = some ⟨oc_place_of, od_place_of, .func (PySem.W.fnOf "place_of" "place_of" (defArgs s_place_of) (defBody s_place_of) (defScope s_place_of) .none kV_place_of dc_place_of pm_place_of an_place_of cd_place_of ct_place_of), sl_place_of⟩)
    (c_place_of : PySem.W.codeIn K cd_place_of "place_of" = true)
    (k_place_of : PySem.W.keepIn K (.ref f_place_of) = true)
    (a_behind : PySem.W.nsIn K mainGlobals "behind" = some (some (.ref f_behind)))
    (l_behind : K.lookup f_behind = some ⟨oc_behind, od_behind, .func (PySem.W.fnOf "behind" "behind" (defArgs s_behind) (defBody s_behind) (defScope s_behind) .none kV_behind dc_behind pm_behind an_behind cd_behind ct_behind), sl_behind⟩)
    (c_behind : PySem.W.codeIn K cd_behind "behind" = true)
    (k_behind : PySem.W.keepIn K (.ref f_behind) = true)
    (a_contents : PySem.W.nsIn K mainGlobals "contents" = some (some (.ref f_contents)))
    (l_contents : K.lookup f_contents = some ⟨oc_contents, od_contents, .func (PySem.W.fnOf "contents" "contents" (defArgs s_contents) (defBody s_contents) (defScope s_contents) .none kV_contents dc_contents pm_contents an_contents cd_contents ct_contents), sl_contents⟩)
    (c_contents : PySem.W.codeIn K cd_contents "contents" = true)
    (k_contents : PySem.W.keepIn K (.ref f_contents) = true)
    (a__law_taken : PySem.W.nsIn K mainGlobals "_law_taken" = some (some (.ref f__law_taken)))
    (l__law_taken : K.lookup f__law_taken = some ⟨oc__law_taken, od__law_taken, .func (PySem.W.fnOf "_law_taken" "_law_taken" (defArgs s__law_taken) (defBody s__law_taken) (defScope s__law_taken) .none kV__law_taken dc__law_taken pm__law_taken an__law_taken cd__law_taken ct__law_taken), sl__law_taken⟩)
    (c__law_taken : PySem.W.codeIn K cd__law_taken "_law_taken" = true)
    (k__law_taken : PySem.W.keepIn K (.ref f__law_taken) = true)
    (a__law_pick : PySem.W.nsIn K mainGlobals "_law_pick" = some (some (.ref f__law_pick)))
    (l__law_pick : K.lookup f__law_pick = some ⟨oc__law_pick, od__law_pick, .func (PySem.W.fnOf "_law_pick" "_law_pick" (defArgs s__law_pick) (defBody s__law_pick) (defScope s__law_pick) .none kV__law_pick dc__law_pick pm__law_pick an__law_pick cd__law_pick ct__law_pick), sl__law_pick⟩)
    (c__law_pick : PySem.W.codeIn K cd__law_pick "_law_pick" = true)
    (k__law_pick : PySem.W.keepIn K (.ref f__law_pick) = true)
    (a__law_scheme : PySem.W.nsIn K mainGlobals "_law_scheme" = some (some (.ref f__law_scheme)))
    (l__law_scheme : K.lookup f__law_scheme = some ⟨oc__law_scheme, od__law_scheme, .func (PySem.W.fnOf "_law_scheme" "_law_scheme" (defArgs s__law_scheme) (defBody s__law_scheme) (defScope s__law_scheme) .none kV__law_scheme dc__law_scheme pm__law_scheme an__law_scheme cd__law_scheme ct__law_scheme), sl__law_scheme⟩)
    (c__law_scheme : PySem.W.codeIn K cd__law_scheme "_law_scheme" = true)
    (k__law_scheme : PySem.W.keepIn K (.ref f__law_scheme) = true)
    (a__law_store : PySem.W.nsIn K mainGlobals "_law_store" = some (some (.ref f__law_store)))
    (l__law_store : K.lookup f__law_store = some ⟨oc__law_store, od__law_store, .func (PySem.W.fnOf "_law_store" "_law_store" (defArgs s__law_store) (defBody s__law_store) (defScope s__law_store) .none kV__law_store dc__law_store pm__law_store an__law_store cd__law_store ct__law_store), sl__law_store⟩)
    (c__law_store : PySem.W.codeIn K cd__law_store "_law_store" = true)
    (k__law_store : PySem.W.keepIn K (.ref f__law_store) = true)
    (a__law_edges : PySem.W.nsIn K mainGlobals "_law_edges" = some (some (.ref f__law_edges)))
    (l__law_edges : K.lookup f__law_edges = some ⟨oc__law_edges, od__law_edges, .func (PySem.W.fnOf "_law_edges" "_law_edges" (defArgs s__law_edges) (defBody s__law_edges) (defScope s__law_edges) .none kV__law_edges dc__law_edges pm__law_edges an__law_edges cd__law_edges ct__law_edges), sl__law_edges⟩)
    (c__law_edges : PySem.W.codeIn K cd__law_edges "_law_edges" = true)
    (k__law_edges : PySem.W.keepIn K (.ref f__law_edges) = true)
    (a__law_layouts : PySem.W.nsIn K mainGlobals "_law_layouts" = some (some (.ref f__law_layouts)))
    (l__law_layouts : K.lookup f__law_layouts = some ⟨oc__law_layouts, od__law_layouts, .func (PySem.W.fnOf "_law_layouts" "_law_layouts" (defArgs s__law_layouts) (defBody s__law_layouts) (defScope s__law_layouts) .none kV__law_layouts dc__law_layouts pm__law_layouts an__law_layouts cd__law_layouts ct__law_layouts), sl__law_layouts⟩)
    (c__law_layouts : PySem.W.codeIn K cd__law_layouts "_law_layouts" = true)
    (k__law_layouts : PySem.W.keepIn K (.ref f__law_layouts) = true)
    (a__law_seen : PySem.W.nsIn K mainGlobals "_law_seen" = some (some (.ref f__law_seen)))
    (l__law_seen : K.lookup f__law_seen = some ⟨oc__law_seen, od__law_seen, .func (PySem.W.fnOf "_law_seen" "_law_seen" (defArgs s__law_seen) (defBody s__law_seen) (defScope s__law_seen) .none kV__law_seen dc__law_seen pm__law_seen an__law_seen cd__law_seen ct__law_seen), sl__law_seen⟩)
    (c__law_seen : PySem.W.codeIn K cd__law_seen "_law_seen" = true)
    (k__law_seen : PySem.W.keepIn K (.ref f__law_seen) = true)
    (a_law : PySem.W.nsIn K mainGlobals "law" = some (some (.ref f_law)))
    (l_law : K.lookup f_law = some ⟨oc_law, od_law, .func (PySem.W.fnOf "law" "law" (defArgs s_law) (defBody s_law) (defScope s_law) .none kV_law dc_law pm_law an_law cd_law ct_law), sl_law⟩)
    (c_law : PySem.W.codeIn K cd_law "law" = true)
    (k_law : PySem.W.keepIn K (.ref f_law) = true)
    (a_Store : PySem.W.nsIn K mainGlobals "Store" = some (some (.ref C)))
    (a_m__init__ : PySem.W.findIn K (.ref C) "__init__" = some (some (.ref f_m__init__)))
    (i_m__init__ : PySem.W.isFn K (.ref f_m__init__) = true)
    (l_m__init__ : K.lookup f_m__init__ = some ⟨oc_m__init__, od_m__init__, .func (PySem.W.fnOf "__init__" "Store.__init__" (defArgs s_Store___init__) (defBody s_Store___init__) (defScope s_Store___init__) .none kV_m__init__ dc_m__init__ pm_m__init__ an_m__init__ cd_m__init__ ct_m__init__), sl_m__init__⟩)
    (c_m__init__ : PySem.W.codeIn K cd_m__init__ "Store.__init__" = true)
    (k_m__init__ : PySem.W.keepIn K (.ref f_m__init__) = true)
    (a_m__len__ : PySem.W.findIn K (.ref C) "__len__" = some (some (.ref f_m__len__)))
    (i_m__len__ : PySem.W.isFn K (.ref f_m__len__) = true)
    (l_m__len__ : K.lookup f_m__len__ = some ⟨oc_m__len__, od_m__len__, .func (PySem.W.fnOf "__len__" "Store.__len__" (defArgs s_Store___len__) (defBody s_Store___len__) (defScope s_Store___len__) .none kV_m__len__ dc_m__len__ pm_m__len__ an_m__len__ cd_m__len__ ct_m__len__), sl_m__len__⟩)
    (c_m__len__ : PySem.W.codeIn K cd_m__len__ "Store.__len__" = true)
    (k_m__len__ : PySem.W.keepIn K (.ref f_m__len__) = true)
    (a_mplaces_of : PySem.W.findIn K (.ref C) "places_of" = some (some (.ref f_mplaces_of)))
    (i_mplaces_of : PySem.W.isFn K (.ref f_mplaces_of) = true)
    (l_mplaces_of : K.lookup f_mplaces_of = some ⟨oc_mplaces_of, od_mplaces_of, .func (PySem.W.fnOf "places_of" "Store.places_of" (defArgs s_Store_places_of) (defBody s_Store_places_of) (defScope s_Store_places_of) .none kV_mplaces_of dc_mplaces_of pm_mplaces_of an_mplaces_of cd_mplaces_of ct_mplaces_of), sl_mplaces_of⟩)
    (c_mplaces_of : PySem.W.codeIn K cd_mplaces_of "Store.places_of" = true)
    (k_mplaces_of : PySem.W.keepIn K (.ref f_mplaces_of) = true)
    (a_pcrates : PySem.W.findIn K (.ref C) "crates" = some (some (.ref p_pcrates)))
    (g_pcrates : PySem.W.specialIn K (.ref p_pcrates) "__get__" = some (some (.builtin "property.__get__")))
    (t_pcrates : PySem.W.takesIn K (.ref p_pcrates) = some true)
    (e_pcrates : PySem.W.recIn K p_pcrates "property" = some (.ref f_pcrates :: r_pcrates))
    (l_pcrates : K.lookup f_pcrates = some ⟨oc_pcrates, od_pcrates, .func (PySem.W.fnOf "crates" "Store.crates" (defArgs s_Store_crates) (defBody s_Store_crates) (defScope s_Store_crates) .none kV_pcrates dc_pcrates pm_pcrates an_pcrates cd_pcrates ct_pcrates), sl_pcrates⟩)
    (c_pcrates : PySem.W.codeIn K cd_pcrates "Store.crates" = true)
    (k_pcrates : PySem.W.keepIn K (.ref f_pcrates) = true)
    (a_psize : PySem.W.findIn K (.ref C) "size" = some (some (.ref p_psize)))
    (g_psize : PySem.W.specialIn K (.ref p_psize) "__get__" = some (some (.builtin "property.__get__")))
    (t_psize : PySem.W.takesIn K (.ref p_psize) = some true)
    (e_psize : PySem.W.recIn K p_psize "property" = some (.ref f_psize :: r_psize))
    (l_psize : K.lookup f_psize = some ⟨oc_psize, od_psize, .func (PySem.W.fnOf "size" "Store.size" (defArgs s_Store_size) (defBody s_Store_size) (defScope s_Store_size) .none kV_psize dc_psize pm_psize an_psize cd_psize ct_psize), sl_psize⟩)
    (c_psize : PySem.W.codeIn K cd_psize "Store.size" = true)
    (k_psize : PySem.W.keepIn K (.ref f_psize) = true)
    (s_pg : PySem.W.plainGet K C Str.empty = true)
    (s_hd : PySem.W.hasDictIn K C = true)
    (s_po : PySem.W.plainOver K C = true)
    (s_sa : PySem.W.findIn K (.ref C) "__setattr__" = some (some (.builtin "object.__setattr__")))
    (s_mk : PySem.W.makesIn K C = true)
    (s_kc : PySem.W.keepIn K (.ref C) = true)
    (s_nplaces : PySem.W.findIn K (.ref C) "_places" = some none)
    (s_nsize : PySem.W.findIn K (.ref C) "_size" = some none)
    (s_ndoors : PySem.W.findIn K (.ref C) "_doors" = some none)
    (s_ncrates : PySem.W.findIn K (.ref C) "_crates" = some none)
    (a_InvalidStore : PySem.W.nsIn K mainGlobals "InvalidStore" = some (some (.ref e_InvalidStore)))
    (ob_InvalidStore : K.lookup e_InvalidStore = some (excClassObj nm_InvalidStore qn_InvalidStore e_InvalidStore N_InvalidStore bs_InvalidStore [.ref CE, .type "ValueError", .type "Exception", .type "BaseException", .type "object"] true sn_InvalidStore sub_InvalidStore ab_InvalidStore col_InvalidStore dd_InvalidStore k0_InvalidStore k1_InvalidStore k2_InvalidStore k3_InvalidStore k5_InvalidStore "ValueError.__new__"))
    (sa_InvalidStore : PySem.W.findIn K (.ref e_InvalidStore) "__setattr__" = some (some (.builtin "object.__setattr__")))
    (iC_InvalidStore : PySem.W.findIn K (.ref e_InvalidStore) "__init__" = some (some (.ref fI_InvalidStore)))
    (tC_InvalidStore : PySem.W.typeIn K (.ref fI_InvalidStore) = some (.type "function"))
    (ve_InvalidStore : PySem.W.subIn K (.ref e_InvalidStore) (.type "ValueError") = some true)
    (slf_InvalidStore : PySem.W.mroIn K e_InvalidStore (.ref e_InvalidStore) = some true)
    (op_InvalidStore : PySem.W.nsIn K cStatics "thirdparty.any" = some none)
    (al_InvalidStore : PySem.W.ks_superIn K e_InvalidStore e_InvalidStore "__init__" = some (some (.builtin "ValueError.__init__")))
    (li_InvalidStore : K.lookup fI_InvalidStore = some ⟨ocI_InvalidStore, odI_InvalidStore, .func (PySem.W.ksFn "__init__" "InvalidStore.__init__" (defArgs s_InvalidStore___init__) (defBody s_InvalidStore___init__) (defScope s_InvalidStore___init__) .none .none dcI_InvalidStore pmI_InvalidStore anI_InvalidStore (.ref cda_InvalidStore) ctI_InvalidStore ccI_InvalidStore), slI_InvalidStore⟩)
    (ci_InvalidStore : PySem.W.codeIn K (.ref cda_InvalidStore) "InvalidStore.__init__" = true)
    (cd_InvalidStore : K.lookup cda_InvalidStore = some ⟨cclI_InvalidStore, cddI_InvalidStore, .fields vsI_InvalidStore, ccsI_InvalidStore⟩)
    (v2_InvalidStore : vsI_InvalidStore[2]? = some (.str fileI_InvalidStore tfI_InvalidStore))
    (fi_InvalidStore : ((PySem.Challenge.pw_coldcrates_k02_layouts_by_trying.main.file : Str) == fileI_InvalidStore) = true)
    (cc_InvalidStore : K.lookup ccI_InvalidStore = some ⟨clI_InvalidStore, cldI_InvalidStore, .cell (some (.ref e_InvalidStore)), cslI_InvalidStore⟩)
    (no_InvalidStore : PySem.W.findIn K (.ref e_InvalidStore) "part" = some none)
    (kC_InvalidStore : PySem.W.keepIn K (.ref e_InvalidStore) = true)
    (exC_InvalidStore : PySem.W.subIn K (.ref e_InvalidStore) (.type "BaseException") = some true)
    (tyC_InvalidStore : PySem.W.typeIn K (.ref e_InvalidStore) = some (.type "type"))
    (a_UnknownDoor : PySem.W.nsIn K mainGlobals "UnknownDoor" = some (some (.ref e_UnknownDoor)))
    (kC_UnknownDoor : PySem.W.keepIn K (.ref e_UnknownDoor) = true)
    (exC_UnknownDoor : PySem.W.subIn K (.ref e_UnknownDoor) (.type "BaseException") = some true)
    (tyC_UnknownDoor : PySem.W.typeIn K (.ref e_UnknownDoor) = some (.type "type"))
    (q_UnknownDoor : PySem.W.excIn K e_UnknownDoor [.type "ValueError", .type "Exception", .type "BaseException", .type "object"] "ValueError.__new__" = true)
    (a_UnknownCrate : PySem.W.nsIn K mainGlobals "UnknownCrate" = some (some (.ref e_UnknownCrate)))
    (kC_UnknownCrate : PySem.W.keepIn K (.ref e_UnknownCrate) = true)
    (exC_UnknownCrate : PySem.W.subIn K (.ref e_UnknownCrate) (.type "BaseException") = some true)
    (tyC_UnknownCrate : PySem.W.typeIn K (.ref e_UnknownCrate) = some (.type "type"))
    (q_UnknownCrate : PySem.W.excIn K e_UnknownCrate [.type "ValueError", .type "Exception", .type "BaseException", .type "object"] "ValueError.__new__" = true)
    (a_InvalidLayout : PySem.W.nsIn K mainGlobals "InvalidLayout" = some (some (.ref e_InvalidLayout)))
    (kC_InvalidLayout : PySem.W.keepIn K (.ref e_InvalidLayout) = true)
    (exC_InvalidLayout : PySem.W.subIn K (.ref e_InvalidLayout) (.type "BaseException") = some true)
    (tyC_InvalidLayout : PySem.W.typeIn K (.ref e_InvalidLayout) = some (.type "type"))
    (q_InvalidLayout : PySem.W.excIn K e_InvalidLayout [.type "ValueError", .type "Exception", .type "BaseException", .type "object"] "ValueError.__new__" = true)
    (z_isinstance : PySem.W.nsIn K mainGlobals "isinstance" = some none)
    (z_int : PySem.W.nsIn K mainGlobals "int" = some none)
    (z_bool : PySem.W.nsIn K mainGlobals "bool" = some none)
    (z_str : PySem.W.nsIn K mainGlobals "str" = some none)
    (z_len : PySem.W.nsIn K mainGlobals "len" = some none)
    (z_all : PySem.W.nsIn K mainGlobals "all" = some none)
    (z_tuple : PySem.W.nsIn K mainGlobals "tuple" = some none)
    (z_sum : PySem.W.nsIn K mainGlobals "sum" = some none)
    (z_min : PySem.W.nsIn K mainGlobals "min" = some none)
    (z_zip : PySem.W.nsIn K mainGlobals "zip" = some none)
    (z_range : PySem.W.nsIn K mainGlobals "range" = some none)
    (z_super : PySem.W.nsIn K mainGlobals "super" = some none)
    (z_enumerate : PySem.W.nsIn K mainGlobals "enumerate" = some none)
    (z_sorted : PySem.W.nsIn K mainGlobals "sorted" = some none)
    (z_list : PySem.W.nsIn K mainGlobals "list" = some none)
    (v_LETTERS : PySem.W.nsIn K mainGlobals "LETTERS" = some (some (.str "abcdefghijklmnopqrstuvwxyz" t_LETTERS)))
    (v_LONGEST_WORD : PySem.W.nsIn K mainGlobals "LONGEST_WORD" = some (some (.int 8 t_LONGEST_WORD)))
    (v_MOST_DOORS : PySem.W.nsIn K mainGlobals "MOST_DOORS" = some (some (.int 4 t_MOST_DOORS)))
    (v_MOST_WARMTH : PySem.W.nsIn K mainGlobals "MOST_WARMTH" = some (some (.int 99 t_MOST_WARMTH)))
    (v_MOST_BEHIND : PySem.W.nsIn K mainGlobals "MOST_BEHIND" = some (some (.int 4 t_MOST_BEHIND)))
    (v_MOST_PLACES : PySem.W.nsIn K mainGlobals "MOST_PLACES" = some (some (.int 6 t_MOST_PLACES)))
    (v_MOST_CRATES : PySem.W.nsIn K mainGlobals "MOST_CRATES" = some (some (.int 5 t_MOST_CRATES)))
    (g_perm : PySem.W.nsIn K mainGlobals "perm" = some (some (.builtin "math.perm"))) :
    ∃ fd : FuncData, (∀ (s : Shared) (v : Value), BindsTo s fd ⟨[v], []⟩ [("_law_script", v)]) ∧ ∀ base : Heap, K.In base → base.Ns mainGlobals mg → FnOk pwK w K mg base CX0 14 fa fd ["_law_script"] (spLaw K) := by
  have e := hfa.symm.trans (PySem.W.mg_of X G a_law)
  cases e
  have SC_InvalidStore : CcX.SupC pwK K e_InvalidStore fI_InvalidStore "InvalidStore.__init__" "part" (defBody s_InvalidStore___init__) (defArgs s_InvalidStore___init__) (defScope s_InvalidStore___init__) := { cls := ⟨_, _, _, _, _, _, _, _, _, _, _, _, _, _, _, ob_InvalidStore, rfl⟩, sa := sa_InvalidStore, noN := no_InvalidStore, iC := iC_InvalidStore, tC := tC_InvalidStore, kC := kC_InvalidStore, exC := exC_InvalidStore, veC := ve_InvalidStore, slfC := slf_InvalidStore, tyC := tyC_InvalidStore, opq := op_InvalidStore, alg := al_InvalidStore, top := by decide +kernel, fn := ⟨_, _, _, _, _, _, _, _, _, _, _, _, _, _, _, _, _, _, li_InvalidStore, ci_InvalidStore, cd_InvalidStore, v2_InvalidStore, fi_InvalidStore, cc_InvalidStore⟩ }
  have SI_InvalidStore : CcX.SupI pwK w K mg e_InvalidStore fI_InvalidStore "part" := CcX.sup_of (ar := "part") SC_InvalidStore (.inl rfl) (fun e he => by
    simp only [List.mem_cons, List.not_mem_nil, or_false] at he
    rcases he with rfl | rfl | rfl
    · exact .inl ⟨_, _, _, rfl, by decide +kernel⟩
    · exact .inr ⟨_, _, rfl⟩
    · exact .inl ⟨_, _, _, rfl, by decide +kernel⟩) (by decide) (by decide +kernel) (PySem.W.mg_none_of X G z_super)
  have F_is_number := fun_mk (st := s_is_number) l_is_number c_is_number k_is_number
  have b_is_number := F_is_number.binds (ps := ["value", "low", "high"]) fun _ _ _ _ _ _ us hl => match us, hl with | [_, _, _], _ => rfl
  have F_is_word := fun_mk (st := s_is_word) l_is_word c_is_word k_is_word
  have b_is_word := F_is_word.binds (ps := ["value"]) fun _ _ _ _ _ _ us hl => match us, hl with | [_], _ => rfl
  have F_is_door := fun_mk (st := s_is_door) l_is_door c_is_door k_is_door
  have b_is_door := F_is_door.binds (ps := ["value"]) fun _ _ _ _ _ _ us hl => match us, hl with | [_], _ => rfl
  have F_doors_fit := fun_mk (st := s_doors_fit) l_doors_fit c_doors_fit k_doors_fit
  have b_doors_fit := F_doors_fit.binds (ps := ["doors"]) fun _ _ _ _ _ _ us hl => match us, hl with | [_], _ => rfl
  have F_crates_fit := fun_mk (st := s_crates_fit) l_crates_fit c_crates_fit k_crates_fit
  have b_crates_fit := F_crates_fit.binds (ps := ["crates", "size"]) fun _ _ _ _ _ _ us hl => match us, hl with | [_, _], _ => rfl
  have F_places_behind := fun_mk (st := s_places_behind) l_places_behind c_places_behind k_places_behind
  have b_places_behind := F_places_behind.binds (ps := ["doors"]) fun _ _ _ _ _ _ us hl => match us, hl with | [_], _ => rfl
  have F_layouts := fun_mk (st := s_layouts) l_layouts c_layouts k_layouts
  have b_layouts := F_layouts.binds (ps := ["store"]) fun _ _ _ _ _ _ us hl => match us, hl with | [_], _ => rfl
  have F_all_layouts := fun_mk (st := s_all_layouts) l_all_layouts c_all_layouts k_all_layouts
  have b_all_layouts := F_all_layouts.binds (ps := ["store"]) fun _ _ _ _ _ _ us hl => match us, hl with | [_], _ => rfl
  have F_arrangements := fun_mk (st := s_arrangements) l_arrangements c_arrangements k_arrangements
  have b_arrangements := F_arrangements.binds (ps := ["names", "free"]) fun _ _ _ _ _ _ us hl => match us, hl with | [_, _], _ => rfl
  have F_layout_count := fun_mk (st := s_layout_count) l_layout_count c_layout_count k_layout_count
  have b_layout_count := F_layout_count.binds (ps := ["store"]) fun _ _ _ _ _ _ us hl => match us, hl with | [_], _ => rfl
  have F_is_layout := fun_mk (st := s_is_layout) l_is_layout c_is_layout k_is_layout
  have b_is_layout := F_is_layout.binds (ps := ["store", "value"]) fun _ _ _ _ _ _ us hl => match us, hl with | [_, _], _ => rfl
  have F_check_layout := fun_mk (st := s_check_layout) l_check_layout c_check_layout k_check_layout
  have b_check_layout := F_check_layout.binds (ps := ["store", "layout"]) fun _ _ _ _ _ _ us hl => match us, hl with | [_, _], _ => rfl
  have F_check_crate := fun_mk (st := s_check_crate) l_check_crate c_check_crate k_check_crate
  have b_check_crate := F_check_crate.binds (ps := ["store", "name"]) fun _ _ _ _ _ _ us hl => match us, hl with | [_, _], _ => rfl
  have F_has_door := fun_mk (st := s_has_door) l_has_door c_has_door k_has_door
  have b_has_door := F_has_door.binds (ps := ["store", "door"]) fun _ _ _ _ _ _ us hl => match us, hl with | [_, _], _ => rfl
  have F_check_door := fun_mk (st := s_check_door) l_check_door c_check_door k_check_door
  have b_check_door := F_check_door.binds (ps := ["store", "door"]) fun _ _ _ _ _ _ us hl => match us, hl with | [_, _], _ => rfl
  have F_place_of := fun_mk (st := s_place_of) l_place_of c_place_of k_place_of
  have b_place_of := F_place_of.binds (ps := ["store", "layout", "name"]) fun _ _ _ _ _ _ us hl => match us, hl with | [_, _, _], _ => rfl
  have F_behind := fun_mk (st := s_behind) l_behind c_behind k_behind
  have b_behind := F_behind.binds (ps := ["store", "layout", "door"]) fun _ _ _ _ _ _ us hl => match us, hl with | [_, _, _], _ => rfl
  have F_contents := fun_mk (st := s_contents) l_contents c_contents k_contents
  have b_contents := F_contents.binds (ps := ["store", "layout", "door"]) fun _ _ _ _ _ _ us hl => match us, hl with | [_, _, _], _ => rfl
  have F__law_taken := fun_mk (st := s__law_taken) l__law_taken c__law_taken k__law_taken
  have b__law_taken := F__law_taken.binds (ps := ["_law_row", "_law_many"]) fun _ _ _ _ _ _ us hl => match us, hl with | [_, _], _ => rfl
  have F__law_pick := fun_mk (st := s__law_pick) l__law_pick c__law_pick k__law_pick
  have b__law_pick := F__law_pick.binds (ps := ["_law_row", "_law_some"]) fun _ _ _ _ _ _ us hl => match us, hl with | [_, _], _ => rfl
  have F__law_scheme := fun_mk (st := s__law_scheme) l__law_scheme c__law_scheme k__law_scheme
  have b__law_scheme := F__law_scheme.binds (ps := ["_law_row", "_law_most", "_law_crates"]) fun _ _ _ _ _ _ us hl => match us, hl with | [_, _, _], _ => rfl
  have F__law_store := fun_mk (st := s__law_store) l__law_store c__law_store k__law_store
  have b__law_store := F__law_store.binds (ps := ["_law_s"]) fun _ _ _ _ _ _ us hl => match us, hl with | [_], _ => rfl
  have F__law_edges := fun_mk (st := s__law_edges) l__law_edges c__law_edges k__law_edges
  have b__law_edges := F__law_edges.binds (ps := ["_law_s"]) fun _ _ _ _ _ _ us hl => match us, hl with | [_], _ => rfl
  have F__law_layouts := fun_mk (st := s__law_layouts) l__law_layouts c__law_layouts k__law_layouts
  have b__law_layouts := F__law_layouts.binds (ps := ["_law_s"]) fun _ _ _ _ _ _ us hl => match us, hl with | [_], _ => rfl
  have F__law_seen := fun_mk (st := s__law_seen) l__law_seen c__law_seen k__law_seen
  have b__law_seen := F__law_seen.binds (ps := ["_law_s", "_law_layout", "_law_door"]) fun _ _ _ _ _ _ us hl => match us, hl with | [_, _, _], _ => rfl
  have F_law := fun_mk (st := s_law) l_law c_law k_law
  have F_m__init__ := fun_mk (st := s_Store___init__) l_m__init__ c_m__init__ k_m__init__
  have b_m__init__ := F_m__init__.binds (ps := ["self", "doors", "crates"]) fun _ _ _ _ _ _ us hl => match us, hl with | [_, _, _], _ => rfl
  have F_m__len__ := fun_mk (st := s_Store___len__) l_m__len__ c_m__len__ k_m__len__
  have b_m__len__ := F_m__len__.binds (ps := ["self"]) fun _ _ _ _ _ _ us hl => match us, hl with | [_], _ => rfl
  have F_mplaces_of := fun_mk (st := s_Store_places_of) l_mplaces_of c_mplaces_of k_mplaces_of
  have b_mplaces_of := F_mplaces_of.binds (ps := ["self", "door"]) fun _ _ _ _ _ _ us hl => match us, hl with | [_, _], _ => rfl
  have F_pcrates := fun_mk (st := s_Store_crates) l_pcrates c_pcrates k_pcrates
  have b_pcrates := F_pcrates.binds (ps := ["self"]) fun _ _ _ _ _ _ us hl => match us, hl with | [_], _ => rfl
  have F_psize := fun_mk (st := s_Store_size) l_psize c_psize k_psize
  have b_psize := F_psize.binds (ps := ["self"]) fun _ _ _ _ _ _ us hl => match us, hl with | [_], _ => rfl
  have T1 : Txt K mg := ⟨(PySem.W.mg_none_of X G z_isinstance), (PySem.W.mg_none_of X G z_int), (PySem.W.mg_none_of X G z_bool), (PySem.W.mg_none_of X G z_str), (PySem.W.mg_none_of X G z_len), (PySem.W.mg_none_of X G z_all), ⟨_, (PySem.W.mg_of X G v_LETTERS), ⟨_, rfl⟩⟩, ⟨_, (PySem.W.mg_of X G v_LONGEST_WORD), ⟨_, rfl⟩⟩⟩
  have T2 : Txt2 K mg := { toTxt := T1, tuple := (PySem.W.mg_none_of X G z_tuple), sum := (PySem.W.mg_none_of X G z_sum), min := (PySem.W.mg_none_of X G z_min), zip := (PySem.W.mg_none_of X G z_zip), range := (PySem.W.mg_none_of X G z_range), m_MOST_DOORS := ⟨_, (PySem.W.mg_of X G v_MOST_DOORS), ⟨_, rfl⟩⟩, m_MOST_WARMTH := ⟨_, (PySem.W.mg_of X G v_MOST_WARMTH), ⟨_, rfl⟩⟩, m_MOST_BEHIND := ⟨_, (PySem.W.mg_of X G v_MOST_BEHIND), ⟨_, rfl⟩⟩, m_MOST_PLACES := ⟨_, (PySem.W.mg_of X G v_MOST_PLACES), ⟨_, rfl⟩⟩, m_MOST_CRATES := ⟨_, (PySem.W.mg_of X G v_MOST_CRATES), ⟨_, rfl⟩⟩ }
  have TS : TxtS pwK w K mg C e_InvalidStore fI_InvalidStore 0 e_UnknownDoor := { toTxt2 := T2, cls := ⟨s_pg, s_hd, s_po, s_sa⟩, nPl := s_nplaces, nSz := s_nsize, nDo := s_ndoors, nCr := s_ncrates, g_Store := ⟨_, (PySem.W.mg_of X G a_Store), rfl⟩, x_InvalidStore := ⟨(PySem.W.mg_of X G a_InvalidStore), SI_InvalidStore⟩, x_UnknownDoor := ⟨(PySem.W.mg_of X G a_UnknownDoor), q_UnknownDoor, kC_UnknownDoor, exC_UnknownDoor, tyC_UnknownDoor⟩ }
  have TL : TxtL pwK w K mg C e_InvalidStore fI_InvalidStore 0 e_UnknownDoor := { toTxtS := TS, sorted := (PySem.W.mg_none_of X G z_sorted), list := (PySem.W.mg_none_of X G z_list) }
  have TM : TxtM pwK w K mg C e_InvalidStore fI_InvalidStore 0 e_UnknownDoor e_InvalidLayout e_UnknownCrate := { toTxtL := TL, x_InvalidLayout := ⟨(PySem.W.mg_of X G a_InvalidLayout), q_InvalidLayout, kC_InvalidLayout, exC_InvalidLayout, tyC_InvalidLayout⟩, x_UnknownCrate := ⟨(PySem.W.mg_of X G a_UnknownCrate), q_UnknownCrate, kC_UnknownCrate, exC_UnknownCrate, tyC_UnknownCrate⟩ }
  have TA : TxtA K mg := { toTxt2 := T2, enumerate := (PySem.W.mg_none_of X G z_enumerate) }
  refine ⟨PySem.W.fnOf "law" "law" (defArgs s_law) (defBody s_law) (defScope s_law) .none kV_law dc_law pm_law an_law cd_law ct_law, fun s v => .of_eq rfl, fun base _ _ => ?_⟩
  have C_is_number : Cal pwK w K mg base CX0 1 "is_number" ["value", "low", "high"] (spIsNumber K) := ⟨_, _, ok_is_number F_is_number T1, (PySem.W.mg_of X G a_is_number), k_is_number, b_is_number⟩
  have C_is_word : Cal pwK w K mg base CX0 1 "is_word" ["value"] (spIsWord K) := ⟨_, _, ok_is_word F_is_word T1, (PySem.W.mg_of X G a_is_word), k_is_word, b_is_word⟩
  have C_is_door : Cal pwK w K mg base CX0 2 "is_door" ["value"] (spIsDoor K) := ⟨_, _, ok_is_door F_is_door T2 C_is_number, (PySem.W.mg_of X G a_is_door), k_is_door, b_is_door⟩
  have C_doors_fit : Cal pwK w K mg base CX0 3 "doors_fit" ["doors"] (spDoorsFit K) := ⟨_, _, ok_doors_fit F_doors_fit T2 C_is_door, (PySem.W.mg_of X G a_doors_fit), k_doors_fit, b_doors_fit⟩
  have C_crates_fit : Cal pwK w K mg base CX0 3 "crates_fit" ["crates", "size"] (spCratesFit K) := ⟨_, _, ok_crates_fit F_crates_fit T2 C_is_word, (PySem.W.mg_of X G a_crates_fit), k_crates_fit, b_crates_fit⟩
  have C_places_behind : Cal pwK w K mg base CX0 1 "places_behind" ["doors"] (spPlacesBehind K) := ⟨_, _, ok_places_behind F_places_behind T2, (PySem.W.mg_of X G a_places_behind), k_places_behind, b_places_behind⟩
  have L_Store : LenC pwK w K mg base 1 C (spLenS K C) := ⟨_, _, ok_len F_m__len__ TS, b_m__len__, a_m__len__, i_m__len__⟩
  have C_has_door : Cal pwK w K mg base CX0 3 "has_door" ["store", "door"] (spHasDoor K C) := ⟨_, _, ok_has_door F_has_door TS C_is_number L_Store, (PySem.W.mg_of X G a_has_door), k_has_door, b_has_door⟩
  have C_check_door : Cal pwK w K mg base (L2.CX pwK w) 4 "check_door" ["store", "door"] (spCheckDoor K C e_UnknownDoor) := ⟨_, _, ok_check_door F_check_door TS C_has_door, (PySem.W.mg_of X G a_check_door), k_check_door, b_check_door⟩
  have C_Store : CMk pwK w K mg base (L2.CX pwK w) 4 "Store" C ["self", "doors", "crates"] (spInit K C e_InvalidStore) := ⟨_, _, ⟨s_mk, a_m__init__, i_m__init__, s_kc⟩, ok_init F_m__init__ TS C_doors_fit C_places_behind C_crates_fit, (PySem.W.mg_of X G a_Store), b_m__init__⟩
  have C__law_taken : Cal pwK w K mg base CX0 1 "_law_taken" ["_law_row", "_law_many"] (spTaken K) := ⟨_, _, ok_taken F__law_taken T2, (PySem.W.mg_of X G a__law_taken), k__law_taken, b__law_taken⟩
  have C__law_pick : Cal pwK w K mg base CX0 2 "_law_pick" ["_law_row", "_law_some"] (spPick K) := ⟨_, _, ok_pick F__law_pick T2 C__law_taken, (PySem.W.mg_of X G a__law_pick), k__law_pick, b__law_pick⟩
  have C__law_scheme : Cal pwK w K mg base CX0 2 "_law_scheme" ["_law_row", "_law_most", "_law_crates"] (spScheme K) := ⟨_, _, ok_scheme F__law_scheme T2 C__law_taken, (PySem.W.mg_of X G a__law_scheme), k__law_scheme, b__law_scheme⟩
  have C__law_store : Cal pwK w K mg base CX0 6 "_law_store" ["_law_s"] (spStore K C) := ⟨_, _, ok_store F__law_store C_Store, (PySem.W.mg_of X G a__law_store), k__law_store, b__law_store⟩
  have C__law_edges : Cal pwK w K mg base CX0 1 "_law_edges" ["_law_s"] (spEdges K) := ⟨_, _, ok_edges F__law_edges T2, (PySem.W.mg_of X G a__law_edges), k__law_edges, b__law_edges⟩
  have M_crates : CPrp pwK w K mg base CX0 1 C "crates" (getSp C "_crates") := ⟨_, _, _, TS.cls, ⟨a_pcrates, g_pcrates, t_pcrates, _, e_pcrates⟩, fn_getter l_pcrates c_pcrates sc_Store_crates rfl rfl TS.cls s_ncrates, b_pcrates⟩
  have M_size : CPrp pwK w K mg base CX0 1 C "size" (getSp C "_size") := ⟨_, _, _, TS.cls, ⟨a_psize, g_psize, t_psize, _, e_psize⟩, fn_getter l_psize c_psize sc_Store_size rfl rfl TS.cls s_nsize, b_psize⟩
  have MS : MSt pwK w K mg base C := ⟨M_crates, M_size⟩
  have M_places_of : CMet pwK w K mg base (L2.CX pwK w) 5 C "places_of" ["self", "door"] (spPlacesOf K C e_UnknownDoor) := ⟨_, _, TS.cls, ⟨a_mplaces_of, i_mplaces_of, k_mplaces_of⟩, ok_places_of F_mplaces_of TS C_check_door, b_mplaces_of⟩
  have C_arrangements : Cal pwK w K mg base CX0 7 "arrangements" ["names", "free"] (spArrA K) := ⟨_, _, ok_arrA F_arrangements TA (PySem.W.mg_of X G a_arrangements) b_arrangements, (PySem.W.mg_of X G a_arrangements), k_arrangements, b_arrangements⟩
  have C_all_layouts : Cal pwK w K mg base CX0 8 "all_layouts" ["store"] (spAll K C) := ⟨_, _, ok_all_layouts F_all_layouts TS MS C_arrangements, (PySem.W.mg_of X G a_all_layouts), k_all_layouts, b_all_layouts⟩
  have C_layouts : GCal pwK w K mg base 9 "layouts" ["store"] (spGen K C) := ⟨_, _, ok_layouts_gen F_layouts TS C_all_layouts, (PySem.W.mg_of X G a_layouts), k_layouts, b_layouts⟩
  have C_layout_count : Cal pwK w K mg base CX0 3 "layout_count" ["store"] (spCount K C) := ⟨_, _, ok_layout_count F_layout_count TS (PySem.W.mg_of X G g_perm) MS, (PySem.W.mg_of X G a_layout_count), k_layout_count, b_layout_count⟩
  have C_is_layout : Cal pwK w K mg base CX0 3 "is_layout" ["store", "value"] (spIsLay K C) := ⟨_, _, ok_is_layout F_is_layout TL MS, (PySem.W.mg_of X G a_is_layout), k_is_layout, b_is_layout⟩
  have C_check_layout : Cal pwK w K mg base (L2.CX pwK w) 4 "check_layout" ["store", "layout"] (spCheckLay K C e_InvalidLayout) := ⟨_, _, ok_check_layout F_check_layout TM C_is_layout, (PySem.W.mg_of X G a_check_layout), k_check_layout, b_check_layout⟩
  have C_check_crate : Cal pwK w K mg base (L2.CX pwK w) 3 "check_crate" ["store", "name"] (spCheckCrate K C e_UnknownCrate) := ⟨_, _, ok_check_crate F_check_crate TM MS, (PySem.W.mg_of X G a_check_crate), k_check_crate, b_check_crate⟩
  have C_place_of : Cal pwK w K mg base (L2.CX pwK w) 5 "place_of" ["store", "layout", "name"] (spPlaceOf K C e_InvalidLayout e_UnknownCrate) := ⟨_, _, ok_place_of F_place_of TM C_check_layout C_check_crate, (PySem.W.mg_of X G a_place_of), k_place_of, b_place_of⟩
  have C_contents : Cal pwK w K mg base CX0 6 "contents" ["store", "layout", "door"] (spContents K C) := ⟨_, _, ok_contents F_contents TS M_places_of, (PySem.W.mg_of X G a_contents), k_contents, b_contents⟩
  have C_behind : Cal pwK w K mg base (L2.CX pwK w) 7 "behind" ["store", "layout", "door"] (spBehind K C e_InvalidLayout) := ⟨_, _, ok_behind F_behind TM C_check_layout C_contents, (PySem.W.mg_of X G a_behind), k_behind, b_behind⟩
  have C__law_layouts : Cal pwK w K mg base CX0 2 "_law_layouts" ["_law_s"] (spLayouts K) := ⟨_, _, ok_layouts F__law_layouts T2 C__law_edges, (PySem.W.mg_of X G a__law_layouts), k__law_layouts, b__law_layouts⟩
  have C__law_seen : Cal pwK w K mg base CX0 2 "_law_seen" ["_law_s", "_law_layout", "_law_door"] (spSeen K) := ⟨_, _, ok_seen F__law_seen T2 C__law_edges, (PySem.W.mg_of X G a__law_seen), k__law_seen, b__law_seen⟩
  exact ok_law F_law TM (CI := e_InvalidStore) (CP := 0) ⟨C__law_taken, C__law_pick, C__law_scheme, C__law_store, C__law_edges, C__law_layouts, C__law_seen, C_layouts, C_layout_count, C_is_layout, C_place_of, C_behind⟩
end My

open PySem PySem.W PyProof.Rows
set_option maxRecDepth 100000 in
set_option maxHeartbeats 0 in
theorem PySem.Challenge.cw_coldcrates_k02_layouts_by_trying_holds : PySem.Challenge.rw_coldcrates_k02_layouts_by_trying.Holds := by
  w_on; o_law; k_head; (case hw => w_witness2)
  k_fill
  refine L2.walk_of (l := PySem.Challenge.rw_coldcrates_k02_layouts_by_trying) (n := 63) (k := 14) (x := "_law_script") (CX := fun _ => L2.CX0) (sp := fun w => My.spLaw _) rfl (by decide) rfl ⟨rfl, by decide, by decide⟩ (fun w h Y => PySem.W.kIn_of Y) ?F (fun _ _ a ns hl _ hS => ⟨a, ns, rfl, hS, hl, fun _ => rfl⟩) fun _ _ _ _ _ z => z
  case F =>
    intro w mg fa h KX G hmg
    refine' My.all_mk KX G hmg ?a_is_number ?l_is_number ?c_is_number ?k_is_number ?a_is_word ?l_is_word ?c_is_word ?k_is_word ?a_is_door ?l_is_door ?c_is_door ?k_is_door ?a_doors_fit ?l_doors_fit ?c_doors_fit ?k_doors_fit ?a_crates_fit ?l_crates_fit ?c_crates_fit ?k_crates_fit ?a_places_behind ?l_places_behind ?c_places_behind ?k_places_behind ?a_layouts ?l_layouts ?c_layouts ?k_layouts ?a_all_layouts ?l_all_layouts ?c_all_layouts ?k_all_layouts ?a_arrangements ?l_arrangements ?c_arrangements ?k_arrangements ?a_layout_count ?l_layout_count ?c_layout_count ?k_layout_count ?a_is_layout ?l_is_layout ?c_is_layout ?k_is_layout ?a_check_layout ?l_check_layout ?c_check_layout ?k_check_layout ?a_check_crate ?l_check_crate ?c_check_crate ?k_check_crate ?a_has_door ?l_has_door ?c_has_door ?k_has_door ?a_check_door ?l_check_door ?c_check_door ?k_check_door ?a_place_of ?l_place_of ?c_place_of ?k_place_of ?a_behind ?l_behind ?c_behind ?k_behind ?a_contents ?l_contents ?c_contents ?k_contents ?a__law_taken ?l__law_taken ?c__law_taken ?k__law_taken ?a__law_pick ?l__law_pick ?c__law_pick ?k__law_pick ?a__law_scheme ?l__law_scheme ?c__law_scheme ?k__law_scheme ?a__law_store ?l__law_store ?c__law_store ?k__law_store ?a__law_edges ?l__law_edges ?c__law_edges ?k__law_edges ?a__law_layouts ?l__law_layouts ?c__law_layouts ?k__law_layouts ?a__law_seen ?l__law_seen ?c__law_seen ?k__law_seen ?a_law ?l_law ?c_law ?k_law ?a_Store ?a_m__init__ ?i_m__init__ ?l_m__init__ ?c_m__init__ ?k_m__init__ ?a_m__len__ ?i_m__len__ ?l_m__len__ ?c_m__len__ ?k_m__len__ ?a_mplaces_of ?i_mplaces_of ?l_mplaces_of ?c_mplaces_of ?k_mplaces_of ?a_pcrates ?g_pcrates ?t_pcrates ?e_pcrates ?l_pcrates ?c_pcrates ?k_pcrates ?a_psize ?g_psize ?t_psize ?e_psize ?l_psize ?c_psize ?k_psize ?s_pg ?s_hd ?s_po ?s_sa ?s_mk ?s_kc ?s_nplaces ?s_nsize ?s_ndoors ?s_ncrates ?a_InvalidStore ?ob_InvalidStore ?sa_InvalidStore ?iC_InvalidStore ?tC_InvalidStore ?ve_InvalidStore ?slf_InvalidStore ?op_InvalidStore ?al_InvalidStore ?li_InvalidStore ?ci_InvalidStore ?cd_InvalidStore ?v2_InvalidStore ?fi_InvalidStore ?cc_InvalidStore ?no_InvalidStore ?kC_InvalidStore ?exC_InvalidStore ?tyC_InvalidStore ?a_UnknownDoor ?kC_UnknownDoor ?exC_UnknownDoor ?tyC_UnknownDoor ?q_UnknownDoor ?a_UnknownCrate ?kC_UnknownCrate ?exC_UnknownCrate ?tyC_UnknownCrate ?q_UnknownCrate ?a_InvalidLayout ?kC_InvalidLayout ?exC_InvalidLayout ?tyC_InvalidLayout ?q_InvalidLayout ?z_isinstance ?z_int ?z_bool ?z_str ?z_len ?z_all ?z_tuple ?z_sum ?z_min ?z_zip ?z_range ?z_super ?z_enumerate ?z_sorted ?z_list ?v_LETTERS ?v_LONGEST_WORD ?v_MOST_DOORS ?v_MOST_WARMTH ?v_MOST_BEHIND ?v_MOST_PLACES ?v_MOST_CRATES ?g_perm
    (case a_is_number => first | k_is | k_exc | rfl | kernel_rfl)
    (case l_is_number => first | k_is | k_exc | rfl | kernel_rfl)
    (case c_is_number => first | k_is | k_exc | rfl | kernel_rfl)
    (case k_is_number => first | k_is | k_exc | rfl | kernel_rfl)
    (case a_is_word => first | k_is | k_exc | rfl | kernel_rfl)
    (case l_is_word => first | k_is | k_exc | rfl | kernel_rfl)
    (case c_is_word => first | k_is | k_exc | rfl | kernel_rfl)
    (case k_is_word => first | k_is | k_exc | rfl | kernel_rfl)
    (case a_is_door => first | k_is | k_exc | rfl | kernel_rfl)
    (case l_is_door => first | k_is | k_exc | rfl | kernel_rfl)
    (case c_is_door => first | k_is | k_exc | rfl | kernel_rfl)
    (case k_is_door => first | k_is | k_exc | rfl | kernel_rfl)
    (case a_doors_fit => first | k_is | k_exc | rfl | kernel_rfl)
    (case l_doors_fit => first | k_is | k_exc | rfl | kernel_rfl)
    (case c_doors_fit => first | k_is | k_exc | rfl | kernel_rfl)
    (case k_doors_fit => first | k_is | k_exc | rfl | kernel_rfl)
    (case a_crates_fit => first | k_is | k_exc | rfl | kernel_rfl)
    (case l_crates_fit => first | k_is | k_exc | rfl | kernel_rfl)
    (case c_crates_fit => first | k_is | k_exc | rfl | kernel_rfl)
    (case k_crates_fit => first | k_is | k_exc | rfl | kernel_rfl)
    (case a_places_behind => first | k_is | k_exc | rfl | kernel_rfl)
    (case l_places_behind => first | k_is | k_exc | rfl | kernel_rfl)
    (case c_places_behind => first | k_is | k_exc | rfl | kernel_rfl)
    (case k_places_behind => first | k_is | k_exc | rfl | kernel_rfl)
    (case a_layouts => first | k_is | k_exc | rfl | kernel_rfl)
    (case l_layouts => first | k_is | k_exc | rfl | kernel_rfl)
    (case c_layouts => first | k_is | k_exc | rfl | kernel_rfl)
    (case k_layouts => first | k_is | k_exc | rfl | kernel_rfl)
    (case a_all_layouts => first | k_is | k_exc | rfl | kernel_rfl)
    (case l_all_layouts => first | k_is | k_exc | rfl | kernel_rfl)
    (case c_all_layouts => first | k_is | k_exc | rfl | kernel_rfl)
    (case k_all_layouts => first | k_is | k_exc | rfl | kernel_rfl)
    (case a_arrangements => first | k_is | k_exc | rfl | kernel_rfl)
    (case l_arrangements => first | k_is | k_exc | rfl | kernel_rfl)
    (case c_arrangements => first | k_is | k_exc | rfl | kernel_rfl)
    (case k_arrangements => first | k_is | k_exc | rfl | kernel_rfl)
    (case a_layout_count => first | k_is | k_exc | rfl | kernel_rfl)
    (case l_layout_count => first | k_is | k_exc | rfl | kernel_rfl)
    (case c_layout_count => first | k_is | k_exc | rfl | kernel_rfl)
    (case k_layout_count => first | k_is | k_exc | rfl | kernel_rfl)
    (case a_is_layout => first | k_is | k_exc | rfl | kernel_rfl)
    (case l_is_layout => first | k_is | k_exc | rfl | kernel_rfl)
    (case c_is_layout => first | k_is | k_exc | rfl | kernel_rfl)
    (case k_is_layout => first | k_is | k_exc | rfl | kernel_rfl)
    (case a_check_layout => first | k_is | k_exc | rfl | kernel_rfl)
    (case l_check_layout => first | k_is | k_exc | rfl | kernel_rfl)
    (case c_check_layout => first | k_is | k_exc | rfl | kernel_rfl)
    (case k_check_layout => first | k_is | k_exc | rfl | kernel_rfl)
    (case a_check_crate => first | k_is | k_exc | rfl | kernel_rfl)
    (case l_check_crate => first | k_is | k_exc | rfl | kernel_rfl)
    (case c_check_crate => first | k_is | k_exc | rfl | kernel_rfl)
    (case k_check_crate => first | k_is | k_exc | rfl | kernel_rfl)
    (case a_has_door => first | k_is | k_exc | rfl | kernel_rfl)
    (case l_has_door => first | k_is | k_exc | rfl | kernel_rfl)
    (case c_has_door => first | k_is | k_exc | rfl | kernel_rfl)
    (case k_has_door => first | k_is | k_exc | rfl | kernel_rfl)
    (case a_check_door => first | k_is | k_exc | rfl | kernel_rfl)
    (case l_check_door => first | k_is | k_exc | rfl | kernel_rfl)
    (case c_check_door => first | k_is | k_exc | rfl | kernel_rfl)
    (case k_check_door => first | k_is | k_exc | rfl | kernel_rfl)
    (case a_place_of => first | k_is | k_exc | rfl | kernel_rfl)
    (case l_place_of => first | k_is | k_exc | rfl | kernel_rfl)
    (case c_place_of => first | k_is | k_exc | rfl | kernel_rfl)
    (case k_place_of => first | k_is | k_exc | rfl | kernel_rfl)
    (case a_behind => first | k_is | k_exc | rfl | kernel_rfl)
    (case l_behind => first | k_is | k_exc | rfl | kernel_rfl)
    (case c_behind => first | k_is | k_exc | rfl | kernel_rfl)
    (case k_behind => first | k_is | k_exc | rfl | kernel_rfl)
    (case a_contents => first | k_is | k_exc | rfl | kernel_rfl)
    (case l_contents => first | k_is | k_exc | rfl | kernel_rfl)
    (case c_contents => first | k_is | k_exc | rfl | kernel_rfl)
    (case k_contents => first | k_is | k_exc | rfl | kernel_rfl)
    (case a__law_taken => first | k_is | k_exc | rfl | kernel_rfl)
    (case l__law_taken => first | k_is | k_exc | rfl | kernel_rfl)
    (case c__law_taken => first | k_is | k_exc | rfl | kernel_rfl)
    (case k__law_taken => first | k_is | k_exc | rfl | kernel_rfl)
    (case a__law_pick => first | k_is | k_exc | rfl | kernel_rfl)
    (case l__law_pick => first | k_is | k_exc | rfl | kernel_rfl)
    (case c__law_pick => first | k_is | k_exc | rfl | kernel_rfl)
    (case k__law_pick => first | k_is | k_exc | rfl | kernel_rfl)
    (case a__law_scheme => first | k_is | k_exc | rfl | kernel_rfl)
    (case l__law_scheme => first | k_is | k_exc | rfl | kernel_rfl)
    (case c__law_scheme => first | k_is | k_exc | rfl | kernel_rfl)
    (case k__law_scheme => first | k_is | k_exc | rfl | kernel_rfl)
    (case a__law_store => first | k_is | k_exc | rfl | kernel_rfl)
    (case l__law_store => first | k_is | k_exc | rfl | kernel_rfl)
    (case c__law_store => first | k_is | k_exc | rfl | kernel_rfl)
    (case k__law_store => first | k_is | k_exc | rfl | kernel_rfl)
    (case a__law_edges => first | k_is | k_exc | rfl | kernel_rfl)
    (case l__law_edges => first | k_is | k_exc | rfl | kernel_rfl)
    (case c__law_edges => first | k_is | k_exc | rfl | kernel_rfl)
    (case k__law_edges => first | k_is | k_exc | rfl | kernel_rfl)
    (case a__law_layouts => first | k_is | k_exc | rfl | kernel_rfl)
    (case l__law_layouts => first | k_is | k_exc | rfl | kernel_rfl)
    (case c__law_layouts => first | k_is | k_exc | rfl | kernel_rfl)
    (case k__law_layouts => first | k_is | k_exc | rfl | kernel_rfl)
    (case a__law_seen => first | k_is | k_exc | rfl | kernel_rfl)
    (case l__law_seen => first | k_is | k_exc | rfl | kernel_rfl)
    (case c__law_seen => first | k_is | k_exc | rfl | kernel_rfl)
    (case k__law_seen => first | k_is | k_exc | rfl | kernel_rfl)
    (case a_law => first | k_is | k_exc | rfl | kernel_rfl)
    (case l_law => first | k_is | k_exc | rfl | kernel_rfl)
    (case c_law => first | k_is | k_exc | rfl | kernel_rfl)
    (case k_law => first | k_is | k_exc | rfl | kernel_rfl)
    (case a_Store => first | k_is | k_exc | rfl | kernel_rfl)
    (case a_m__init__ => first | k_is | k_exc | rfl | kernel_rfl)
    (case i_m__init__ => first | k_is | k_exc | rfl | kernel_rfl)
    (case l_m__init__ => first | k_is | k_exc | rfl | kernel_rfl)
    (case c_m__init__ => first | k_is | k_exc | rfl | kernel_rfl)
    (case k_m__init__ => first | k_is | k_exc | rfl | kernel_rfl)
    (case a_m__len__ => first | k_is | k_exc | rfl | kernel_rfl)
    (case i_m__len__ => first | k_is | k_exc | rfl | kernel_rfl)
    (case l_m__len__ => first | k_is | k_exc | rfl | kernel_rfl)
    (case c_m__len__ => first | k_is | k_exc | rfl | kernel_rfl)
    (case k_m__len__ => first | k_is | k_exc | rfl | kernel_rfl)
    (case a_mplaces_of => first | k_is | k_exc | rfl | kernel_rfl)
    (case i_mplaces_of => first | k_is | k_exc | rfl | kernel_rfl)
    (case l_mplaces_of => first | k_is | k_exc | rfl | kernel_rfl)
    (case c_mplaces_of => first | k_is | k_exc | rfl | kernel_rfl)
    (case k_mplaces_of => first | k_is | k_exc | rfl | kernel_rfl)
    (case a_pcrates => first | k_is | k_exc | rfl | kernel_rfl)
    (case g_pcrates => first | k_is | k_exc | rfl | kernel_rfl)
    (case t_pcrates => first | k_is | k_exc | rfl | kernel_rfl)
    (case e_pcrates => first | k_is | k_exc | rfl | kernel_rfl)
    (case l_pcrates => first | k_is | k_exc | rfl | kernel_rfl)
    (case c_pcrates => first | k_is | k_exc | rfl | kernel_rfl)
    (case k_pcrates => first | k_is | k_exc | rfl | kernel_rfl)
    (case a_psize => first | k_is | k_exc | rfl | kernel_rfl)
    (case g_psize => first | k_is | k_exc | rfl | kernel_rfl)
    (case t_psize => first | k_is | k_exc | rfl | kernel_rfl)
    (case e_psize => first | k_is | k_exc | rfl | kernel_rfl)
    (case l_psize => first | k_is | k_exc | rfl | kernel_rfl)
    (case c_psize => first | k_is | k_exc | rfl | kernel_rfl)
    (case k_psize => first | k_is | k_exc | rfl | kernel_rfl)
    (case s_pg => first | k_is | k_exc | rfl | kernel_rfl)
    (case s_hd => first | k_is | k_exc | rfl | kernel_rfl)
    (case s_po => first | k_is | k_exc | rfl | kernel_rfl)
    (case s_sa => first | k_is | k_exc | rfl | kernel_rfl)
    (case s_mk => first | k_is | k_exc | rfl | kernel_rfl)
    (case s_kc => first | k_is | k_exc | rfl | kernel_rfl)
    (case s_nplaces => first | k_is | k_exc | rfl | kernel_rfl)
    (case s_nsize => first | k_is | k_exc | rfl | kernel_rfl)
    (case s_ndoors => first | k_is | k_exc | rfl | kernel_rfl)
    (case s_ncrates => first | k_is | k_exc | rfl | kernel_rfl)
    (case a_InvalidStore => first | k_is | k_exc | rfl | kernel_rfl)
    (case ob_InvalidStore => first | k_is | k_exc | rfl | kernel_rfl)
    (case sa_InvalidStore => first | k_is | k_exc | rfl | kernel_rfl)
    (case iC_InvalidStore => first | k_is | k_exc | rfl | kernel_rfl)
    (case tC_InvalidStore => first | k_is | k_exc | rfl | kernel_rfl)
    (case ve_InvalidStore => first | k_is | k_exc | rfl | kernel_rfl)
    (case slf_InvalidStore => first | k_is | k_exc | rfl | kernel_rfl)
    (case op_InvalidStore => first | k_is | k_exc | rfl | kernel_rfl)
    (case al_InvalidStore => first | k_is | k_exc | rfl | kernel_rfl)
    (case li_InvalidStore => first | k_is | k_exc | rfl | kernel_rfl)
    (case ci_InvalidStore => first | k_is | k_exc | rfl | kernel_rfl)
    (case cd_InvalidStore => first | k_is | k_exc | rfl | kernel_rfl)
    (case v2_InvalidStore => first | k_is | k_exc | rfl | kernel_rfl)
    (case fi_InvalidStore => first | k_is | k_exc | rfl | kernel_rfl)
    (case cc_InvalidStore => first | k_is | k_exc | rfl | kernel_rfl)
    (case no_InvalidStore => first | k_is | k_exc | rfl | kernel_rfl)
    (case kC_InvalidStore => first | k_is | k_exc | rfl | kernel_rfl)
    (case exC_InvalidStore => first | k_is | k_exc | rfl | kernel_rfl)
    (case tyC_InvalidStore => first | k_is | k_exc | rfl | kernel_rfl)
    (case a_UnknownDoor => first | k_is | k_exc | rfl | kernel_rfl)
    (case kC_UnknownDoor => first | k_is | k_exc | rfl | kernel_rfl)
    (case exC_UnknownDoor => first | k_is | k_exc | rfl | kernel_rfl)
    (case tyC_UnknownDoor => first | k_is | k_exc | rfl | kernel_rfl)
    (case q_UnknownDoor => first | k_is | k_exc | rfl | kernel_rfl)
    (case a_UnknownCrate => first | k_is | k_exc | rfl | kernel_rfl)
    (case kC_UnknownCrate => first | k_is | k_exc | rfl | kernel_rfl)
    (case exC_UnknownCrate => first | k_is | k_exc | rfl | kernel_rfl)
    (case tyC_UnknownCrate => first | k_is | k_exc | rfl | kernel_rfl)
    (case q_UnknownCrate => first | k_is | k_exc | rfl | kernel_rfl)
    (case a_InvalidLayout => first | k_is | k_exc | rfl | kernel_rfl)
    (case kC_InvalidLayout => first | k_is | k_exc | rfl | kernel_rfl)
    (case exC_InvalidLayout => first | k_is | k_exc | rfl | kernel_rfl)
    (case tyC_InvalidLayout => first | k_is | k_exc | rfl | kernel_rfl)
    (case q_InvalidLayout => first | k_is | k_exc | rfl | kernel_rfl)
    (case z_isinstance => first | k_is | k_exc | rfl | kernel_rfl)
    (case z_int => first | k_is | k_exc | rfl | kernel_rfl)
    (case z_bool => first | k_is | k_exc | rfl | kernel_rfl)
    (case z_str => first | k_is | k_exc | rfl | kernel_rfl)
    (case z_len => first | k_is | k_exc | rfl | kernel_rfl)
    (case z_all => first | k_is | k_exc | rfl | kernel_rfl)
    (case z_tuple => first | k_is | k_exc | rfl | kernel_rfl)
    (case z_sum => first | k_is | k_exc | rfl | kernel_rfl)
    (case z_min => first | k_is | k_exc | rfl | kernel_rfl)
    (case z_zip => first | k_is | k_exc | rfl | kernel_rfl)
    (case z_range => first | k_is | k_exc | rfl | kernel_rfl)
    (case z_super => first | k_is | k_exc | rfl | kernel_rfl)
    (case z_enumerate => first | k_is | k_exc | rfl | kernel_rfl)
    (case z_sorted => first | k_is | k_exc | rfl | kernel_rfl)
    (case z_list => first | k_is | k_exc | rfl | kernel_rfl)
    (case v_LETTERS => first | k_is | k_exc | rfl | kernel_rfl)
    (case v_LONGEST_WORD => first | k_is | k_exc | rfl | kernel_rfl)
    (case v_MOST_DOORS => first | k_is | k_exc | rfl | kernel_rfl)
    (case v_MOST_WARMTH => first | k_is | k_exc | rfl | kernel_rfl)
    (case v_MOST_BEHIND => first | k_is | k_exc | rfl | kernel_rfl)
    (case v_MOST_PLACES => first | k_is | k_exc | rfl | kernel_rfl)
    (case v_MOST_CRATES => first | k_is | k_exc | rfl | kernel_rfl)
    (case g_perm => first | k_is | k_exc | rfl | kernel_rfl)
