import PyProof.Rows.All
import Wide.All
import OpenK.AllK
import Wide.FinOn
import HandS.ForMost
import HandS.ForExc
import HandS.IsInst
import HandS.Property
import HandS.OwnEq
import HandS.Wide
import HandS.TupAny
import HandS.Deep
import HandS.Zip
import HandS.Walk
import HandS.Conv
import PySem.Challenge.RW_coldcrates_k31_warmth_hour_by_hour
import KE.KExcSuper
import HandS.ExcInit
import HandS.ExcField
import HandS.ExcIs
import HandS.Lambda
import HandS.FStr
import HandS.ExcOwn
import PyProof.InstNe
import KE.KExcIs
import HandS.TupMul
import HandS.EndTab
import PyProof.StrBlock2
import HandS.NoneIn
import HandS.SortKw
import HandS.WideBits
import HandS.Style
import KE.DataMinMax
import PyProof.EnumMake
import PyProof.Draws
import HandS.GenList
set_option Elab.async false
set_option linter.all false
set_option maxRecDepth 100000
set_option maxHeartbeats 8000000
/-! Cc: data seen through the abstract heap; what a reading gives, told by data. -/
namespace Cc
open PySem L2

/-- the data of the program: plain values, lists, tuples, instances that never change -/
inductive D where
  | non
  | bl (b : Bool)
  | int (i : Int)
  | str (x : Str)
  | lst (ds : List D)
  | tup (ds : List D)
  /-- a tuple that is known to have no dict of its own -/
  | ptup (ds : List D)
  | ob (C : Addr) (ns : List Str) (ds : List D)
abbrev Fg := PySem.W.Frag
/-- a tuple without a dict of its own -/
def PlO (o : Obj) : Prop := o.cls = .type "tuple" ∧ o.dict = none
def PlT (H : Hp) (p : Addr) (xs : List V) : Prop := ∃ o, PlO o ∧ H p = some (.frz o (.tup xs))
theorem PlT.sq {K : Fg} {H : Hp} {p : Addr} {xs : List V} (h : PlT H p xs) : SqT K H p xs := by
  obtain ⟨o, _, e⟩ := h
  exact .inl (.inr ⟨o, e⟩)
mutual
/-- the value v denotes the data d at the heap H -/
inductive Dn (K : Fg) (H : Hp) : V → D → Prop
  | non : Dn K H .non .non
  | bl (b : Bool) : Dn K H (.bl b) (.bl b)
  | int (i : Int) : Dn K H (.int i) (.int i)
  | str (x : Str) : Dn K H (.str x) (.str x)
  | lst {a : Addr} {xs : List V} {ds : List D} : H a = some (.lst xs) → Dns K H xs ds → Dn K H (.ref a) (.lst ds)
  | tup {a : Addr} {xs : List V} {ds : List D} : SqT K H a xs → Dns K H xs ds → Dn K H (.ref a) (.tup ds)
  | ptup {a : Addr} {xs : List V} {ds : List D} : PlT H a xs → Dns K H xs ds → Dn K H (.ref a) (.ptup ds)
  | ob {a C dx : Addr} {fs : List (Str × V)} {ns : List Str} {ds : List D} : H a = some (.ins C dx fs) → fs.map (·.1) = ns → Dns K H (fs.map (·.2)) ds → Dn K H (.ref a) (.ob C ns ds)
inductive Dns (K : Fg) (H : Hp) : List V → List D → Prop
  | nil : Dns K H [] []
  | cons {v : V} {vs : List V} {d : D} {ds : List D} : Dn K H v d → Dns K H vs ds → Dns K H (v :: vs) (d :: ds)
end
/-- what is kept through stores to lists: tuples, instances and so on -/
def immO : HO → Bool
  | .tup _ => true
  | .frz _ _ => true
  | .ins _ _ _ => true
  | _ => false
/-- the heap has grown, what never changes stands -/
def Kp (H H' : Hp) : Prop := ∀ b o, H b = some o → immO o = true → H' b = some o
theorem Kp.refl (H : Hp) : Kp H H := fun _ _ h _ => h
theorem Kp.trans {H H1 H2 : Hp} (a : Kp H H1) (b : Kp H1 H2) : Kp H H2 := fun c o h i => b c o (a c o h i) i
theorem Kp.of {H H' : Hp} (e : Same H H') : Kp H H' := fun b o h _ => e b o h
theorem Kp.upd {H : Hp} {l : Addr} {u o : HO} (h : H l = some u) (hi : immO u = false) : Kp H (upd H l o) := fun b q e i => by
  rw [upd_ne]
  · exact e
  · rintro rfl
    rw [h] at e
    cases e
    rw [hi] at i
    cases i
/-- all stands but what is at M -/
def But (M : List Addr) (H H' : Hp) : Prop := ∀ b o, H b = some o → b ∉ M → H' b = some o
theorem But.refl (M : List Addr) (H : Hp) : But M H H := fun _ _ h _ => h
theorem But.trans {M : List Addr} {H H1 H2 : Hp} (a : But M H H1) (b : But M H1 H2) : But M H H2 := fun c o h i => b c o (a c o h i) i
theorem But.of {M : List Addr} {H H' : Hp} (e : Same H H') : But M H H' := fun b o h _ => e b o h
theorem But.same {H H' : Hp} (e : But [] H H') : Same H H' := fun b o h => e b o h (by simp)
theorem But.upd {M : List Addr} {H : Hp} {l : Addr} {o : HO} (h : l ∈ M) : But M H (upd H l o) := fun b u e n => by
  have hb : b ≠ l := by
    rintro rfl
    exact n h
  rw [upd_ne hb]
  exact e
theorem But.mono {M M' : List Addr} {H H' : Hp} (e : But M H H') (h : ∀ m ∈ M, m ∈ M') : But M' H H' := fun b o q n => e b o q fun z => n (h b z)
theorem But.kp {M : List Addr} {H H' : Hp} (e : But M H H') (hm : ∀ m ∈ M, ∀ o, H m = some o → immO o = false) : Kp H H' := fun b o h i => e b o h fun z => by
  rw [hm b z o h] at i
  cases i
theorem kp_one {l : Addr} {xs : List V} {H H' : Hp} (e : But [l] H H') (h : H l = some (.lst xs)) : Kp H H' := e.kp fun m hm o q => by
  rw [List.mem_singleton.mp hm, h] at q
  cases q
  rfl
/-- what was not there at first does not count -/
theorem But.fresh {M : List Addr} {H H1 H2 : Hp} (e : Same H H1) (b : But M H1 H2) (hm : ∀ m ∈ M, H m = none) : Same H H2 := fun c o h => b c o (e c o h) fun z => by
  rw [hm c z] at h
  cases h
theorem Same.new {H : Hp} {p : Addr} {o : HO} (h : H p = none) : Same H (upd H p o) := fun a u e => by
  rw [upd_ne (ne_of_none e h)]
  exact e
/-- behind a store to an object that was not there at first -/
theorem Same.mut {H H' : Hp} {p : Addr} {o : HO} (e : Same H H') (h : H p = none) : Same H (upd H' p o) := fun a u ha => by
  rw [upd_ne (ne_of_none ha h)]
  exact e a u ha
mutual
/-- no lists in it -/
def D.fix : D → Bool
  | .lst _ => false
  | .tup ds => D.fixs ds
  | .ptup ds => D.fixs ds
  | .ob _ _ ds => D.fixs ds
  | _ => true
def D.fixs : List D → Bool
  | [] => true
  | d :: ds => d.fix && D.fixs ds
end
theorem D.fixs_iff {ds : List D} : D.fixs ds = true ↔ ∀ d ∈ ds, d.fix = true := by
  induction ds with
  | nil => simp [D.fixs]
  | cons d ds ih => simp [D.fixs, ih]
section
variable {K : Fg} {H H' : Hp}
theorem kp_t (e : Kp H H') {a : Addr} {xs : List V} (h : SqT K H a xs) : SqT K H' a xs := by
  rcases h with (h | ⟨o, h⟩) | h
  · exact .inl (.inl (e _ _ h rfl))
  · exact .inl (.inr ⟨o, e _ _ h rfl⟩)
  · exact .inr h
theorem same_t (e : Same H H') {a : Addr} {xs : List V} (h : SqT K H a xs) : SqT K H' a xs := kp_t (.of e) h
theorem same_l (e : Same H H') {a : Addr} {xs : List V} (h : SqL K H a xs) : SqL K H' a xs := e.seq h
mutual
theorem Dn.kp (e : Kp H H') : ∀ (d : D) (v : V), d.fix = true → Dn K H v d → Dn K H' v d
  | .non, _, _, h => by cases h; exact .non
  | .bl b, _, _, h => by cases h; exact .bl b
  | .int i, _, _, h => by cases h; exact .int i
  | .str x, _, _, h => by cases h; exact .str x
  | .lst _, _, f, _ => by cases f
  | .tup ds, _, f, h => by
    cases h with
    | tup hs ha => exact .tup (kp_t e hs) (Dns.kp e ds _ f ha)
  | .ptup ds, _, f, h => by
    cases h with
    | ptup hs ha =>
      obtain ⟨o, po, h⟩ := hs
      exact .ptup ⟨o, po, e _ _ h rfl⟩ (Dns.kp e ds _ f ha)
  | .ob C ns ds, _, f, h => by
    cases h with
    | ob ho hn ha => exact .ob (e _ _ ho rfl) hn (Dns.kp e ds _ f ha)
theorem Dns.kp (e : Kp H H') : ∀ (ds : List D) (vs : List V), D.fixs ds = true → Dns K H vs ds → Dns K H' vs ds
  | [], _, _, h => by cases h; exact .nil
  | d :: ds, _, f, h => by
    cases h with
    | cons h1 h2 =>
      have f' : d.fix = true ∧ D.fixs ds = true := by simpa [D.fixs] using f
      exact .cons (Dn.kp e d _ f'.1 h1) (Dns.kp e ds _ f'.2 h2)
end
mutual
theorem Dn.same (e : Same H H') : ∀ (d : D) (v : V), Dn K H v d → Dn K H' v d
  | .non, _, h => by cases h; exact .non
  | .bl b, _, h => by cases h; exact .bl b
  | .int i, _, h => by cases h; exact .int i
  | .str x, _, h => by cases h; exact .str x
  | .lst ds, _, h => by
    cases h with
    | lst hs ha => exact .lst (e _ _ hs) (Dns.same e ds _ ha)
  | .tup ds, _, h => by
    cases h with
    | tup hs ha => exact .tup (same_t e hs) (Dns.same e ds _ ha)
  | .ptup ds, _, h => by
    cases h with
    | ptup hs ha =>
      obtain ⟨o, po, h⟩ := hs
      exact .ptup ⟨o, po, e _ _ h⟩ (Dns.same e ds _ ha)
  | .ob C ns ds, _, h => by
    cases h with
    | ob ho hn ha => exact .ob (e _ _ ho) hn (Dns.same e ds _ ha)
theorem Dns.same (e : Same H H') : ∀ (ds : List D) (vs : List V), Dns K H vs ds → Dns K H' vs ds
  | [], _, h => by cases h; exact .nil
  | d :: ds, _, h => by
    cases h with
    | cons h1 h2 => exact .cons (Dn.same e d _ h1) (Dns.same e ds _ h2)
end
theorem Dn.up {v : V} {d : D} (h : Dn K H v d) (e : Same H H') : Dn K H' v d := Dn.same e d v h
theorem Dns.up {vs : List V} {ds : List D} (h : Dns K H vs ds) (e : Same H H') : Dns K H' vs ds := Dns.same e ds vs h
theorem Dn.keep {v : V} {d : D} (h : Dn K H v d) (e : Kp H H') (f : d.fix = true) : Dn K H' v d := Dn.kp e d v f h
theorem Dns.keep {vs : List V} {ds : List D} (h : Dns K H vs ds) (e : Kp H H') (f : D.fixs ds = true) : Dns K H' vs ds := Dns.kp e ds vs f h
theorem Dns.length : ∀ {vs : List V} {ds : List D}, Dns K H vs ds → vs.length = ds.length
  | _, _, .nil => rfl
  | _, _, .cons _ t => by simp [Dns.length t]
theorem Dns.app : ∀ {vs ws : List V} {ds es : List D}, Dns K H vs ds → Dns K H ws es → Dns K H (vs ++ ws) (ds ++ es)
  | _, _, _, _, .nil, h => h
  | _, _, _, _, .cons a t, h => .cons a (Dns.app t h)
theorem Dns.get : ∀ {vs : List V} {ds : List D} {i : Nat} {v : V}, Dns K H vs ds → vs[i]? = some v → ∃ d, ds[i]? = some d ∧ Dn K H v d
  | _, _, _, _, .nil, e => by simp at e
  | _, _, 0, _, .cons r _, e => by simp at e; subst e; exact ⟨_, rfl, r⟩
  | _, _, i + 1, x, .cons _ t, e => by
    obtain ⟨u, h1, h2⟩ := Dns.get (i := i) (v := x) t (by simpa using e)
    exact ⟨u, by simpa using h1, h2⟩
theorem Dns.getD : ∀ {vs : List V} {ds : List D} {i : Nat} {d : D}, Dns K H vs ds → ds[i]? = some d → ∃ v, vs[i]? = some v ∧ Dn K H v d
  | _, _, _, _, .nil, e => by simp at e
  | _, _, 0, _, .cons r _, e => by simp at e; subst e; exact ⟨_, rfl, r⟩
  | _, _, i + 1, x, .cons _ t, e => by
    obtain ⟨u, h1, h2⟩ := Dns.getD (i := i) (d := x) t (by simpa using e)
    exact ⟨u, by simpa using h1, h2⟩
theorem Dns.take : ∀ {vs : List V} {ds : List D} (n : Nat), Dns K H vs ds → Dns K H (vs.take n) (ds.take n)
  | _, _, 0, _ => .nil
  | _, _, _ + 1, .nil => .nil
  | _, _, n + 1, .cons r t => .cons r (Dns.take n t)
theorem Dns.drop : ∀ {vs : List V} {ds : List D} (n : Nat), Dns K H vs ds → Dns K H (vs.drop n) (ds.drop n)
  | _, _, 0, r => r
  | _, _, _ + 1, .nil => .nil
  | _, _, n + 1, .cons _ t => Dns.drop n t
theorem Dns.set {v : V} {d : D} (r : Dn K H v d) : ∀ {vs : List V} {ds : List D} (i : Nat), Dns K H vs ds → Dns K H (vs.set i v) (ds.set i d)
  | _, _, _, .nil => .nil
  | _, _, 0, .cons _ t => .cons r t
  | _, _, i + 1, .cons q t => .cons q (Dns.set r i t)
theorem Dns.of {α : Type} {f : α → V} {g : α → D} (h : ∀ a, Dn K H (f a) (g a)) : ∀ l : List α, Dns K H (l.map f) (l.map g)
  | [] => .nil
  | a :: l => .cons (h a) (Dns.of h l)
theorem Dns.one {v : V} {d : D} (h : Dn K H v d) : Dns K H [v] [d] := .cons h .nil

/-! ### to the library's data -/
mutual
def D.py : D → PyData
  | .non => .none
  | .bl b => .bool b
  | .int i => .int i
  | .str x => .str x
  | .lst ds => .list (D.pys ds)
  | .tup ds => .tuple (D.pys ds)
  | .ptup ds => .tuple (D.pys ds)
  | .ob _ _ _ => .none
def D.pys : List D → List PyData
  | [] => []
  | d :: ds => d.py :: D.pys ds
end
mutual
/-- no instances in it -/
def D.pl : D → Bool
  | .lst ds => D.pls ds
  | .tup ds => D.pls ds
  | .ptup ds => D.pls ds
  | .ob _ _ _ => false
  | _ => true
def D.pls : List D → Bool
  | [] => true
  | d :: ds => d.pl && D.pls ds
end
theorem D.pys_map : ∀ ds : List D, D.pys ds = ds.map D.py
  | [] => rfl
  | d :: ds => by rw [D.pys, D.pys_map ds]; rfl
theorem D.pls_iff {ds : List D} : D.pls ds = true ↔ ∀ d ∈ ds, d.pl = true := by
  induction ds with
  | nil => simp [D.pls]
  | cons d ds ih => simp [D.pls, ih]
mutual
theorem Dn.dp : ∀ (d : D) (v : V), d.pl = true → Dn K H v d → Dp K H v d.py
  | .non, _, _, h => by cases h; exact .non
  | .bl b, _, _, h => by cases h; exact .bl b
  | .int i, _, _, h => by cases h; exact .int i
  | .str x, _, _, h => by cases h; exact .str x
  | .lst ds, _, f, h => by
    cases h with
    | lst hs ha => exact .lst (SqL.of hs) (Dns.dps ds _ f ha)
  | .tup ds, _, f, h => by
    cases h with
    | tup hs ha => exact .tup hs (Dns.dps ds _ f ha)
  | .ptup ds, _, f, h => by
    cases h with
    | ptup hs ha => exact .tup hs.sq (Dns.dps ds _ f ha)
  | .ob C ns ds, _, f, h => by cases f
theorem Dns.dps : ∀ (ds : List D) (vs : List V), D.pls ds = true → Dns K H vs ds → DpAll K H vs (D.pys ds)
  | [], _, _, h => by cases h; exact .nil
  | d :: ds, _, f, h => by
    cases h with
    | cons h1 h2 =>
      have f' : d.pl = true ∧ D.pls ds = true := by simpa [D.pls] using f
      exact .cons (Dn.dp d _ f'.1 h1) (Dns.dps ds _ f'.2 h2)
end
end
end Cc

namespace Cc
open PySem L2
/-! what a reading gives, by data: an expression, a test, arguments, a new list -/
def GD (K : Fg) (te : TE) (σ : L2.St) (H : Hp) (d : D) : Prop := ∀ H1, Same H H1 → ∀ Q : VK, (∀ v H2, Same H1 H2 → Dn K H2 v d → Q v H2) → te σ H1 Q
def GT (tt : TT) (σ : L2.St) (H : Hp) (b : Bool) : Prop := ∀ H1, Same H H1 → ∀ Q : Bool → Hp → Prop, (∀ H2, Same H1 H2 → Q b H2) → tt σ H1 Q
def GA (K : Fg) (ta : TA) (σ : L2.St) (H : Hp) (ds : List D) : Prop := ∀ H1, Same H H1 → ∀ Q : List V → Hp → Prop, (∀ vs H2, Same H1 H2 → Dns K H2 vs ds → Q vs H2) → ta σ H1 Q
def GN (K : Fg) (te : TE) (σ : L2.St) (H : Hp) (ds : List D) : Prop := ∀ H1, Same H H1 → ∀ Q : VK, (∀ p xs H2, H1 p = none → Same H1 H2 → H2 p = some (.lst xs) → Dns K H2 xs ds → Q (.ref p) H2) → te σ H1 Q
/-- a part of a slice -/
def GO (to : TO) (σ : L2.St) (H : Hp) (o : Option Int) : Prop := ∀ H1, Same H H1 → ∀ Q : Option Int → Hp → Prop, (∀ H2, Same H1 H2 → Q o H2) → to σ H1 Q
/-- an operator, a one-place one, a call on values, by data -/
def R2D (K : Fg) (r : R2) (d e z : D) : Prop := ∀ x y H (Q : VK), Dn K H x d → Dn K H y e → (∀ v H2, Same H H2 → Dn K H2 v z → Q v H2) → r x y H Q
def R1D (K : Fg) (r : V → Hp → VK → Prop) (d z : D) : Prop := ∀ x H (Q : VK), Dn K H x d → (∀ v H2, Same H H2 → Dn K H2 v z → Q v H2) → r x H Q
def RCD (K : Fg) (r : List V → Hp → VK → Prop) (ds : List D) (z : D) : Prop := ∀ vs H (Q : VK), Dns K H vs ds → (∀ v H2, Same H H2 → Dn K H2 v z → Q v H2) → r vs H Q
def RMD (K : Fg) (r : V → List V → Hp → VK → Prop) (d : D) (ds : List D) (z : D) : Prop := ∀ x vs H (Q : VK), Dn K H x d → Dns K H vs ds → (∀ v H2, Same H H2 → Dn K H2 v z → Q v H2) → r x vs H Q
section
variable {K : Fg} {σ : L2.St} {H H' : Hp} {ta tb te : TE} {t u : TT} {d e z : D} {r : R2}
theorem GD.mono (a : Same H H') (h : GD K te σ H d) : GD K te σ H' d := fun H1 b Q q => h H1 (a.trans b) Q q
theorem GT.mono {b : Bool} (a : Same H H') (h : GT t σ H b) : GT t σ H' b := fun H1 c Q q => h H1 (a.trans c) Q q
theorem GA.mono {ta : TA} {ds : List D} (a : Same H H') (h : GA K ta σ H ds) : GA K ta σ H' ds := fun H1 c Q q => h H1 (a.trans c) Q q
theorem GN.mono {ds : List D} (a : Same H H') (h : GN K te σ H ds) : GN K te σ H' ds := fun H1 c Q q => h H1 (a.trans c) Q q
theorem GN.gd {ds : List D} (h : GN K te σ H ds) : GD K te σ H (.lst ds) := fun H1 a Q q => h H1 a Q fun p xs H2 _ e hp hd => q _ H2 e (.lst hp hd)
theorem GD.is (h : GD K te σ H d) (q : d = e) : GD K te σ H e := q ▸ h
theorem GT.is {b c : Bool} (h : GT t σ H b) (q : b = c) : GT t σ H c := q ▸ h
theorem GN.is {ds es : List D} (h : GN K te σ H ds) (q : ds = es) : GN K te σ H es := q ▸ h
theorem gd_var {i : Nat} {v : V} (h : σ[i]? = some (some v)) (hd : Dn K H v d) : GD K (tVar i) σ H d := fun H1 a Q q => ⟨v, h, q v H1 (Same.refl _) (hd.up a)⟩
theorem gd_c {v : V} (h : Dn K H v d) : GD K (tC v) σ H d := fun H1 a Q q => q v H1 (Same.refl _) (h.up a)
theorem gd_i {i : Int} : GD K (tC (.int i)) σ H (.int i) := gd_c (.int i)
theorem gd_s {x : Str} : GD K (tC (.str x)) σ H (.str x) := gd_c (.str x)
theorem gd_b {b : Bool} : GD K (tC (.bl b)) σ H (.bl b) := gd_c (.bl b)
theorem gd_n : GD K (tC .non) σ H .non := gd_c .non
theorem gd_op (ha : GD K ta σ H d) (hb : GD K tb σ H e) (hr : R2D K r d e z) : GD K (tOp r ta tb) σ H z := fun H1 a Q q =>
  ha H1 a _ fun x H2 a2 hx => hb H2 (a.trans a2) _ fun y H3 a3 hy => hr x y H3 Q (hx.up a3) hy fun v H4 a4 hv => q v H4 ((a2.trans a3).trans a4) hv
theorem gd_un {r : V → Hp → VK → Prop} (ha : GD K ta σ H d) (hr : R1D K r d z) : GD K (tUn r ta) σ H z := fun H1 a Q q =>
  ha H1 a _ fun x H2 a2 hx => hr x H2 Q hx fun v H4 a4 hv => q v H4 (a2.trans a4) hv
theorem ga_nil : GA K tNil σ H [] := fun H1 _ Q q => q [] H1 (Same.refl _) .nil
theorem ga_cons {tr : TA} {ds : List D} (ha : GD K ta σ H d) (hr : GA K tr σ H ds) : GA K (tCons ta tr) σ H (d :: ds) := fun H1 a Q q =>
  ha H1 a _ fun x H2 a2 hx => hr H2 (a.trans a2) _ fun xs H3 a3 hxs => q _ H3 (a2.trans a3) (.cons (hx.up a3) hxs)
theorem ga1 (ha : GD K ta σ H d) : GA K (tCons ta tNil) σ H [d] := ga_cons ha ga_nil
theorem ga2 (ha : GD K ta σ H d) (hb : GD K tb σ H e) : GA K (tCons ta (tCons tb tNil)) σ H [d, e] := ga_cons ha (ga1 hb)
theorem gd_cb {r : List V → Hp → VK → Prop} {ta : TA} {ds : List D} (ha : GA K ta σ H ds) (hr : RCD K r ds z) : GD K (tCB r ta) σ H z := fun H1 a Q q =>
  ha H1 a _ fun x H2 a2 hx => hr x H2 Q hx fun v H4 a4 hv => q v H4 (a2.trans a4) hv
theorem gd_tup {ta : TA} {ds : List D} (ha : GA K ta σ H ds) (hl : ds.length ≤ 100000) : GD K (tTup ta) σ H (.tup ds) := fun H1 a Q q =>
  ha H1 a _ fun x H2 a2 hx => ⟨by rw [hx.length, sizeLine_eq]; omega, fun p hp => q _ _ (a2.trans (Same.new hp)) (.tup (SqT.of upd_same) (hx.up (Same.new hp)))⟩
theorem gn_lst {ta : TA} {ds : List D} (ha : GA K ta σ H ds) (hl : ds.length ≤ 100000) : GN K (tLst ta) σ H ds := fun H1 a Q q =>
  ha H1 a _ fun x H2 a2 hx => ⟨by rw [hx.length, sizeLine_eq]; omega, fun p hp => q p x _ (a2.free hp) (a2.trans (Same.new hp)) upd_same (hx.up (Same.new hp))⟩
/-! tests -/
theorem gt_test {b : Bool} (h : GD K te σ H (.bl b)) : GT (tTest te) σ H b := fun H1 a Q q => h H1 a _ fun v H2 a2 hv => by
  cases hv
  exact ⟨b, rfl, q H2 a2⟩
theorem gt_B {b : Bool} (h : GD K te σ H (.bl b)) : GT (tB te) σ H b := fun H1 a Q q => h H1 a _ fun v H2 a2 hv => by
  cases hv
  exact ⟨b, rfl, q H2 a2⟩
theorem gt_and {a b : Bool} (h1 : GT t σ H a) (h2 : a = true → GT u σ H b) : GT (tAnd t u) σ H (a && b) := fun H1 c Q q => h1 H1 c _ fun H2 c2 => by
  cases a with
  | true => exact (if_pos rfl).mpr (h2 rfl H2 (c.trans c2) Q fun H3 c3 => q H3 (c2.trans c3))
  | false => exact (if_neg Bool.false_ne_true).mpr (q H2 c2)
theorem gt_or {a b : Bool} (h1 : GT t σ H a) (h2 : a = false → GT u σ H b) : GT (tOr t u) σ H (a || b) := fun H1 c Q q => h1 H1 c _ fun H2 c2 => by
  cases a with
  | true => exact (if_pos rfl).mpr (q H2 c2)
  | false => exact (if_neg Bool.false_ne_true).mpr (h2 rfl H2 (c.trans c2) Q fun H3 c3 => q H3 (c2.trans c3))
theorem gt_not {a : Bool} (h1 : GT t σ H a) : GT (tNot t) σ H (!a) := fun H1 c Q q => h1 H1 c _ fun H2 c2 => q H2 c2
theorem gd_and {a b : Bool} (h1 : GD K ta σ H (.bl a)) (h2 : a = true → GD K tb σ H (.bl b)) : GD K (tAndV ta tb) σ H (.bl (a && b)) := fun H1 c Q q => h1 H1 c _ fun v H2 c2 hv => by
  cases hv
  refine ⟨a, rfl, ?_⟩
  cases a with
  | true => exact (if_pos rfl).mpr (h2 rfl H2 (c.trans c2) Q fun v H3 c3 => q v H3 (c2.trans c3))
  | false => exact (if_neg Bool.false_ne_true).mpr (q _ H2 c2 (.bl _))
theorem gd_or {a b : Bool} (h1 : GD K ta σ H (.bl a)) (h2 : a = false → GD K tb σ H (.bl b)) : GD K (tOrV ta tb) σ H (.bl (a || b)) := fun H1 c Q q => h1 H1 c _ fun v H2 c2 hv => by
  cases hv
  refine ⟨a, rfl, ?_⟩
  cases a with
  | true => exact (if_pos rfl).mpr (q _ H2 c2 (.bl _))
  | false => exact (if_neg Bool.false_ne_true).mpr (h2 rfl H2 (c.trans c2) Q fun v H3 c3 => q v H3 (c2.trans c3))
theorem gd_not {a : Bool} (h1 : GD K ta σ H (.bl a)) : GD K (tNotV ta) σ H (.bl (!a)) := fun H1 c Q q => h1 H1 c _ fun v H2 c2 hv => by
  cases hv
  exact ⟨a, rfl, q _ H2 c2 (.bl _)⟩
theorem gd_if {b : Bool} (h : GT t σ H b) (h1 : b = true → GD K ta σ H d) (h2 : b = false → GD K tb σ H d) : GD K (tIf t ta tb) σ H d := fun H1 c Q q => h H1 c _ fun H2 c2 => by
  cases b with
  | true => exact (if_pos rfl).mpr (h1 rfl H2 (c.trans c2) Q fun v H3 c3 => q v H3 (c2.trans c3))
  | false => exact (if_neg Bool.false_ne_true).mpr (h2 rfl H2 (c.trans c2) Q fun v H3 c3 => q v H3 (c2.trans c3))
/-! operators -/
theorem r_int {g : Int → Int → Int} {i j : Int} : R2D K (rI0 fun i j => .int (g i j)) (.int i) (.int j) (.int (g i j)) := fun x y H Q hx hy q => by
  cases hx; cases hy
  exact ⟨i, j, rfl, rfl, q _ H (Same.refl _) (.int _)⟩
theorem r_intB {g : Int → Int → Bool} {i j : Int} : R2D K (rI0 fun i j => .bl (g i j)) (.int i) (.int j) (.bl (g i j)) := fun x y H Q hx hy q => by
  cases hx; cases hy
  exact ⟨i, j, rfl, rfl, q _ H (Same.refl _) (.bl _)⟩
theorem r_intC {C : Int → Int → Prop} {g : Int → Int → Int} {i j : Int} (hc : C i j) : R2D K (rI C fun i j => .int (g i j)) (.int i) (.int j) (.int (g i j)) := fun x y H Q hx hy q => by
  cases hx; cases hy
  exact ⟨i, j, rfl, rfl, hc, q _ H (Same.refl _) (.int _)⟩
/-- == by data -/
def D.eqv (d e : D) : Bool := PyData.eqv d.py e.py
def D.shp (d : D) : Bool := SeqAt.shaped d.py
theorem r_eq (p1 : d.pl = true) (p2 : e.pl = true) (s1 : d.shp = true) (s2 : e.shp = true) : R2D K (rEqD K) d e (.bl (d.eqv e)) := fun x y H Q hx hy q =>
  ⟨d.py, e.py, hx.dp d x p1, hy.dp e y p2, s1, s2, q _ H (Same.refl _) (.bl _)⟩
theorem r_ne (p1 : d.pl = true) (p2 : e.pl = true) (s1 : d.shp = true) (s2 : e.shp = true) : R2D K (rNeD K) d e (.bl (!d.eqv e)) := fun x y H Q hx hy q =>
  ⟨d.py, e.py, hx.dp d x p1, hy.dp e y p2, s1, s2, q _ H (Same.refl _) (.bl _)⟩
theorem r_isN : R2D K (fun x y H Q => y = .non ∧ Q (.bl (decide (x = .non))) H) d .non (.bl (match d with | .non => true | _ => false)) := fun x y H Q hx hy q => by
  cases hy
  refine ⟨rfl, q _ H (Same.refl _) ?_⟩
  cases hx <;> first | exact .bl _ | (simp; exact .bl _)
theorem r_notN : R2D K (fun x y H Q => y = .non ∧ Q (.bl (!decide (x = .non))) H) d .non (.bl (match d with | .non => false | _ => true)) := fun x y H Q hx hy q => by
  cases hy
  refine ⟨rfl, q _ H (Same.refl _) ?_⟩
  cases hx <;> first | exact .bl _ | (simp; exact .bl _)
/-- an item of a list, of a tuple -/
theorem r_ixT {ds : List D} {i : Int} (h : atI ds i = some z) : R2D K (rIxT K) (.tup ds) (.int i) z := fun x y H Q hx hy q => by
  cases hy
  cases hx with
  | @tup a xs ds hs ha =>
    have hl := ha.length
    unfold atI at h
    cases hj : ixN ds.length i with
    | none => rw [hj] at h; cases h
    | some j =>
      rw [hj] at h
      obtain ⟨v, hv, hd⟩ := ha.getD (i := j) h
      exact ⟨a, xs, i, v, rfl, rfl, hs, by unfold atI; rw [hl, hj]; exact hv, q v H (Same.refl _) hd⟩
theorem r_ixL {ds : List D} {i : Int} (h : atI ds i = some z) : R2D K (rIxL K) (.lst ds) (.int i) z := fun x y H Q hx hy q => by
  cases hy
  cases hx with
  | @lst a xs ds hs ha =>
    have hl := ha.length
    unfold atI at h
    cases hj : ixN ds.length i with
    | none => rw [hj] at h; cases h
    | some j =>
      rw [hj] at h
      obtain ⟨v, hv, hd⟩ := ha.getD (i := j) h
      exact ⟨a, xs, i, v, rfl, rfl, SqL.of hs, by unfold atI; rw [hl, hj]; exact hv, q v H (Same.refl _) hd⟩
theorem r_ixS {w : Str} {i : Int} {c : Nat} (h : w.length ≤ 100000) (ha : atI w.cps.toList i = some c) : R2D K rIxS (.str w) (.int i) (.str ⟨#[c]⟩) := fun x y H Q hx hy q => by
  cases hx; cases hy
  exact ⟨w, i, c, rfl, rfl, by rw [sizeLine_eq]; omega, ha, q _ H (Same.refl _) (.str _)⟩
theorem r_or1 {r' : R2} (h : R2D K r d e z) : R2D K (fun x y H Q => r x y H Q ∨ r' x y H Q) d e z := fun x y H Q hx hy q => .inl (h x y H Q hx hy q)
theorem r_or2 {r' : R2} (h : R2D K r' d e z) : R2D K (fun x y H Q => r x y H Q ∨ r' x y H Q) d e z := fun x y H Q hx hy q => .inr (h x y H Q hx hy q)
theorem r_ix_l {ds : List D} {i : Int} (h : atI ds i = some z) : R2D K (rIx K) (.lst ds) (.int i) z := fun x y H Q hx hy q => .inl (r_ixL h x y H Q hx hy q)
theorem r_ix_t {ds : List D} {i : Int} (h : atI ds i = some z) : R2D K (rIx K) (.tup ds) (.int i) z := fun x y H Q hx hy q => .inr (.inl (r_ixT h x y H Q hx hy q))
theorem r_ix_s {w : Str} {i : Int} {c : Nat} (h : w.length ≤ 100000) (ha : atI w.cps.toList i = some c) : R2D K (rIx K) (.str w) (.int i) (.str ⟨#[c]⟩) := fun x y H Q hx hy q => .inr (.inr (r_ixS h ha x y H Q hx hy q))
/-- + of lists, of tuples; * of a list -/
theorem r_catL {ds es : List D} (h : ds.length + es.length ≤ 100000) : R2D K rCat (.lst ds) (.lst es) (.lst (ds ++ es)) := fun x y H Q hx hy q => by
  cases hx with
  | @lst a xs _ hs ha =>
    cases hy with
    | @lst b ys _ hs2 hb =>
      exact ⟨a, b, xs, ys, rfl, rfl, hs, hs2, by rw [ha.length, hb.length, sizeLine_eq]; omega, fun p hp => q _ _ (Same.new hp) (.lst upd_same ((ha.app hb).up (Same.new hp)))⟩
theorem r_catT {ds es : List D} (h : ds.length + es.length ≤ 100000) : R2D K (rCatA K) (.tup ds) (.tup es) (.tup (ds ++ es)) := fun x y H Q hx hy q => by
  cases hx with
  | @tup a xs _ hs ha =>
    cases hy with
    | @tup b ys _ hs2 hb =>
      refine ⟨a, b, xs, ys, rfl, rfl, hs, hs2, by rw [ha.length, hb.length, sizeLine_eq]; omega, fun e => ?_, fun _ e => ?_, fun _ _ p hp => q _ _ (Same.new hp) (.tup (SqT.of upd_same) ((ha.app hb).up (Same.new hp)))⟩
      · subst e
        cases ha
        exact q _ H (Same.refl _) (.tup hs2 hb)
      · subst e
        cases hb
        rw [List.append_nil] at q
        exact q _ H (Same.refl _) (.tup hs ha)
theorem Dns.rep {H : Hp} {vs : List V} {ds : List D} (h : Dns K H vs ds) : ∀ k : Nat, Dns K H (List.replicate k vs).flatten (List.replicate k ds).flatten
  | 0 => .nil
  | k + 1 => by
    rw [List.replicate_succ, List.replicate_succ, List.flatten_cons, List.flatten_cons]
    exact h.app (Dns.rep h k)
end
end Cc

namespace Cc
open PySem L2
section
variable {K : Fg} {σ : L2.St} {H H' : Hp} {ta tb te : TE} {t u : TT} {d e z : D} {r : R2} {E : Ends} {tu tw tz : TS}
/-! statements -/
theorem s_asg {i : Nat} (h : GD K te σ H d) (k : ∀ v H1, Same H H1 → Dn K H1 v d → E.nx (σ.set i (some v)) H1) : tAsg te (gName i) E σ H := h H (Same.refl _) _ fun v H1 e hv => k v H1 e hv
theorem s_asgN {i : Nat} {ds : List D} (h : GN K te σ H ds) (k : ∀ p xs H1, H p = none → Same H H1 → H1 p = some (.lst xs) → Dns K H1 xs ds → E.nx (σ.set i (some (.ref p))) H1) : tAsg te (gName i) E σ H :=
  h H (Same.refl _) _ fun p xs H1 hp e h1 hd => k p xs H1 hp e h1 hd
theorem s_ret (h : GD K te σ H d) (k : ∀ v H1, Same H H1 → Dn K H1 v d → E.rt v H1) : tRet te E σ H := h H (Same.refl _) _ fun v H1 e hv => k v H1 e hv
theorem s_if {b : Bool} (h : GT t σ H b) (h1 : b = true → ∀ H1, Same H H1 → tu E σ H1) (h2 : b = false → ∀ H1, Same H H1 → tw E σ H1) : tIfS t tu tw E σ H := h H (Same.refl _) _ fun H1 e => by
  cases b with
  | true => exact (if_pos rfl).mpr (h1 rfl H1 e)
  | false => exact (if_neg Bool.false_ne_true).mpr (h2 rfl H1 e)
/-- an if without an else -/
theorem s_when {b : Bool} (h : GT t σ H b) (h1 : b = true → ∀ H1, Same H H1 → tu E σ H1) (h2 : b = false → ∀ H1, Same H H1 → E.nx σ H1) : tIfS t tu tNext E σ H := s_if h h1 h2
theorem s_drop (h : GD K te σ H d) (k : ∀ H1, Same H H1 → E.nx σ H1) : tDrop te E σ H := h H (Same.refl _) _ fun v H1 e hv => k H1 e
theorem s_par {i j : Nat} {ta : TA} (h : GA K ta σ H [d, e]) (k : ∀ v w H1, Same H H1 → Dn K H1 v d → Dn K H1 w e → E.nx ((σ.set i (some v)).set j (some w)) H1) : tPar i j ta E σ H :=
  h H (Same.refl _) _ fun vs H1 q hv => by
    cases hv with
    | cons h1 h2 =>
      cases h2 with
      | cons h2 h3 =>
        cases h3
        exact ⟨_, _, rfl, k _ _ H1 q h1 h2⟩
/-- xs.append(e), xs a list of one's own -/
theorem s_app {l : Addr} {xs : List V} (hl : H l = some (.lst xs)) (ha : ∀ H1, Same H H1 → ∀ Q : VK, Q (.ref l) H1 → ta σ H1 Q) (h : GD K te σ H d) (hz : xs.length < 100000)
    (k : ∀ v H1, Same H H1 → Dn K H1 v d → E.nx σ (upd H1 l (.lst (xs ++ [v])))) : tDrop (tBM K "list" rAppend ta (tCons te tNil)) E σ H :=
  ha H (Same.refl _) _ ⟨Or.inl ⟨rfl, xs, SqL.of hl⟩, h H (Same.refl _) _ fun v H2 e2 hv => ⟨l, xs, v, rfl, rfl, e2 l _ hl, by rw [sizeLine_eq]; omega, k v H2 e2 hv⟩⟩
theorem at_var {i : Nat} {v : V} (h : σ[i]? = some (some v)) : ∀ H1, Same H H1 → ∀ Q : VK, Q v H1 → tVar i σ H1 Q := fun H1 _ Q q => ⟨v, h, q⟩
/-! promises -/
/-- what is handed back denotes d, all that stood stands -/
def Ret (K : Fg) (d : D) (H : Hp) (Q : VK) : Prop := ∀ v H', Same H H' → Dn K H' v d → Q v H'
theorem Ret.up {Q : VK} (h : Ret K d H Q) (e : Same H H') : Ret K d H' Q := fun v H2 e2 hv => h v H2 (e.trans e2) hv
def spOf {α : Type} (K : Fg) (args : α → List D) (pre : α → Prop) (res : α → D) : Sp := fun vs H Q _ => ∃ a, Dns K H vs (args a) ∧ pre a ∧ Ret K (res a) H Q
/-- return e -/
theorem s_retK (k : Ret K d H E.rt) (h : GD K te σ H d) : tRet te E σ H := s_ret h k
theorem gd_call {α : Type} {args : α → List D} {pre : α → Prop} {res : α → D} {X : XK} {ta : TA} (a : α) (h : GA K ta σ H (args a)) (hp : pre a) {z : D} (hz : res a = z := by rfl) : GD K (tCall (spOf K args pre res) [] X ta) σ H z := fun H1 e Q q =>
  h H1 e _ fun vs H2 e2 hv => ⟨a, by rw [List.append_nil]; exact hv, hp, fun v H3 e3 hd => q v H3 (e2.trans e3) (hz ▸ hd)⟩
/-- .. a new list -/
def RetN (K : Fg) (ds : List D) (H : Hp) (Q : VK) : Prop := ∀ p xs H', H p = none → Same H H' → H' p = some (.lst xs) → Dns K H' xs ds → Q (.ref p) H'
def spNew {α : Type} (K : Fg) (args : α → List D) (pre : α → Prop) (res : α → List D) : Sp := fun vs H Q _ => ∃ a, Dns K H vs (args a) ∧ pre a ∧ RetN K (res a) H Q
theorem gn_call {α : Type} {args : α → List D} {pre : α → Prop} {res : α → List D} {X : XK} {ta : TA} (a : α) (h : GA K ta σ H (args a)) (hp : pre a) {z : List D} (hz : res a = z := by rfl) : GN K (tCall (spNew K args pre res) [] X ta) σ H z := fun H1 e Q q =>
  h H1 e _ fun vs H2 e2 hv => ⟨a, by rw [List.append_nil]; exact hv, hp, fun p xs H3 hn e3 h3 hd => q p xs H3 (e2.free hn) (e2.trans e3) h3 (hz ▸ hd)⟩
/-! what is walked -/
def GI (K : Fg) (M : List Addr) (wi : TI) (σ : L2.St) (H : Hp) (ds : List D) : Prop := ∀ R : It → Hp → Prop,
  (∀ (J : It) (G : Hp → Prop) (Y : Nat → Hp → V → Hp → Prop) (H2 : Hp), Same H H2 → Walk J ds.length G Y → (∀ H', But M H2 H' → G H') →
    (∀ i Ha x Hb, i < ds.length → But M H2 Ha → Y i Ha x Hb → Same Ha Hb ∧ ∃ d, ds[i]? = some d ∧ Dn K Hb x d) → R J H2) → wi σ H R
/-- all at M are lists -/
def Ls (M : List Addr) (H : Hp) : Prop := ∀ m ∈ M, ∃ xs, H m = some (.lst xs)
theorem Ls.kp {M : List Addr} {H1 : Hp} (h : Ls M H) (e : Same H H1) (b : But M H1 H') : Kp H1 H' := b.kp fun m hm o q => by
  obtain ⟨xs, hx⟩ := h m hm
  rw [e _ _ hx] at q
  cases q
  rfl
theorem ls_nil : Ls [] H := fun m hm => absurd hm (by simp)
theorem ls_one {l : Addr} {xs : List V} (h : H l = some (.lst xs)) : Ls [l] H := fun m hm => ⟨xs, by rw [List.mem_singleton.mp hm]; exact h⟩
theorem gi_range1 {M : List Addr} {ta : TA} {n : Int} (h : GA K ta σ H [.int n]) (h0 : -(2 ^ 62) ≤ n) (hn : n < 2 ^ 62) : GI K M (iRng1 ta) σ H ((List.range n.toNat).map fun i => D.int (i : Nat)) := fun R q =>
  h H (Same.refl _) _ fun vs H2 e2 hv => by
    cases hv with
    | cons h1 h2 =>
      cases h2
      cases h1
      refine ⟨n, rfl, h0, hn, q _ (fun _ => True) (YFn fun i => .int (0 + i)) H2 e2 (by simpa using walk_range (lo := 0) (n := n.toNat)) (fun _ _ => True.intro) fun i Ha x Hb hi _ y => ?_⟩
      obtain ⟨e, y⟩ := y
      subst e y
      refine ⟨Same.refl _, .int (i : Nat), ?_, ?_⟩
      · have hi' : i < n.toNat := by simpa using hi
        simp [hi']
      · have e0 : (0 : Int) + (i : Nat) = (i : Nat) := Int.zero_add _
        show Dn K Hb (V.int (0 + (i : Nat))) _
        rw [e0]
        exact .int _
theorem gi_tup {M : List Addr} {tl : TE} {ds : List D} (h : GD K tl σ H (.tup ds)) (hM : Ls M H) (hf : D.fixs ds = true) : GI K M (iTup K tl) σ H ds := fun R q =>
  h H (Same.refl _) _ fun v H2 e2 hv => by
    cases hv with
    | @tup a xs ds hs ha =>
      refine ⟨a, rfl, ⟨xs, hs⟩, q _ _ _ H2 e2 (by rw [← ha.length]; exact walk_tup) (fun H' b => kp_t (hM.kp e2 b) hs) fun i Ha x Hb hi b y => ?_⟩
      obtain ⟨e, y⟩ := y
      subst e
      obtain ⟨d, h1, h2⟩ := ha.get y
      exact ⟨Same.refl _, d, h1, h2.keep (hM.kp e2 b) (D.fixs_iff.mp hf d (List.mem_of_getElem? h1))⟩
/-- a list that nobody changes: one that stood, apart from M -/
theorem gi_list {M : List Addr} {tl : TE} {ds : List D} {a : Addr} (h : ∀ Q : VK, Q (.ref a) H → tl σ H Q) (hd : Dn K H (.ref a) (.lst ds)) (ha : a ∉ M) (hM : Ls M H) (hf : D.fixs ds = true) : GI K M (iList K tl) σ H ds := fun R q =>
  h _ (by
    cases hd with
    | @lst a xs ds hs hx =>
      refine ⟨a, rfl, ⟨xs, SqL.of hs⟩, q _ _ _ H (Same.refl _) (by rw [← hx.length]; exact walk_list) (fun H' b => SqL.of (b _ _ hs ha)) fun i Ha x Hb hi b y => ?_⟩
      obtain ⟨e, y⟩ := y
      subst e
      obtain ⟨d, h1, h2⟩ := hx.get y
      exact ⟨Same.refl _, d, h1, h2.keep (hM.kp (Same.refl _) b) (D.fixs_iff.mp hf d (List.mem_of_getElem? h1))⟩)
/-- a new list -/
theorem gi_new {M : List Addr} {tl : TE} {ds : List D} (h : GN K tl σ H ds) (hM : Ls M H) (hf : D.fixs ds = true) : GI K M (iList K tl) σ H ds := fun R q =>
  h H (Same.refl _) _ fun a xs H2 hn e2 hs hx => by
    have ha : a ∉ M := fun z => by
      obtain ⟨ys, hy⟩ := hM a z
      rw [hn] at hy
      cases hy
    refine ⟨a, rfl, ⟨xs, SqL.of hs⟩, q _ _ _ H2 e2 (by rw [← hx.length]; exact walk_list) (fun H' b => SqL.of (b _ _ hs ha)) fun i Ha x Hb hi b y => ?_⟩
    obtain ⟨e, y⟩ := y
    subst e
    obtain ⟨d, h1, h2⟩ := hx.get y
    exact ⟨Same.refl _, d, h1, h2.keep (hM.kp e2 b) (D.fixs_iff.mp hf d (List.mem_of_getElem? h1))⟩
/-- .. in a comprehension: any list -/
theorem gi_listC {tl : TE} {ds : List D} (h : GD K tl σ H (.lst ds)) : GI K [] (iList K tl) σ H ds := fun R q =>
  h H (Same.refl _) _ fun v H2 e2 hv => by
    cases hv with
    | @lst a xs ds hs hx =>
      refine ⟨a, rfl, ⟨xs, SqL.of hs⟩, q _ _ _ H2 e2 (by rw [← hx.length]; exact walk_list) (fun H' b => SqL.of (b _ _ hs (by simp))) fun i Ha x Hb hi b y => ?_⟩
      obtain ⟨e, y⟩ := y
      subst e
      obtain ⟨d, h1, h2⟩ := hx.get y
      exact ⟨Same.refl _, d, h1, h2.up b.same⟩
theorem gi_tupC {tl : TE} {ds : List D} (h : GD K tl σ H (.tup ds)) : GI K [] (iTup K tl) σ H ds := fun R q =>
  h H (Same.refl _) _ fun v H2 e2 hv => by
    cases hv with
    | @tup a xs ds hs hx =>
      refine ⟨a, rfl, ⟨xs, hs⟩, q _ _ _ H2 e2 (by rw [← hx.length]; exact walk_tup) (fun H' b => same_t b.same hs) fun i Ha x Hb hi b y => ?_⟩
      obtain ⟨e, y⟩ := y
      subst e
      obtain ⟨d, h1, h2⟩ := hx.get y
      exact ⟨Same.refl _, d, h1, h2.up b.same⟩
/-- the signs of a text -/
def signs (x : Str) : List D := x.cps.toList.map fun c => D.str ⟨#[c]⟩
theorem gi_str {M : List Addr} {tl : TE} {x : Str} (h : GD K tl σ H (.str x)) : GI K M (iStr tl) σ H (signs x) := fun R q =>
  h H (Same.refl _) _ fun v H2 e2 hv => by
    cases hv
    refine ⟨x, rfl, q _ _ _ H2 e2 (by simpa [signs] using walk_str (z := x)) (fun _ _ => True.intro) fun i Ha w Hb hi b y => ?_⟩
    obtain ⟨e, c, hc, hw⟩ := y
    subst e hw
    refine ⟨Same.refl _, .str ⟨#[c]⟩, ?_, .str _⟩
    unfold signs
    rw [List.getElem?_map, Array.getElem?_toList, hc]
    rfl
/-- a comprehension -/
theorem gn_lc {wi : TI} {j : Nat} {vs : List Nat} {ds : List D} (f : D → Bool) (g : D → D) (h : ∀ H1, Same H H1 → GI K [] wi σ H1 ds) (hz : ds.length ≤ 50000)
    (hw : ∀ x, wipe ((wipe σ vs).set j (some x)) vs = wipe σ vs) (hf : ∀ d ∈ ds, f d = true → (g d).fix = true)
    (ht : ∀ d x H1, d ∈ ds → Same H H1 → Dn K H1 x d → GT t ((wipe σ vs).set j (some x)) H1 (f d))
    (he : ∀ d x H1, d ∈ ds → Same H H1 → Dn K H1 x d → f d = true → GD K te ((wipe σ vs).set j (some x)) H1 (g d)) : GN K (tLc wi (gName j) t te vs) σ H ((ds.filter f).map g) := fun H1 e1 Q q => by
  refine h H1 e1 _ fun J G Y H2 e2 w hG hY => ?_
  intro Dl hD
  have fx : ∀ l : List D, (∀ d ∈ l, d ∈ ds) → D.fixs ((l.filter f).map g) = true := fun l hl => D.fixs_iff.mpr fun d hd => by
    obtain ⟨c, hc, rfl⟩ := List.mem_map.mp hd
    have hc' := List.mem_filter.mp hc
    exact hf c (hl c hc'.1) hc'.2
  refine lc_it w (fun i H' => Same H2 H' ∧ ∃ acc, H' Dl = some (.lst acc) ∧ Dns K H' acc (((ds.take i).filter f).map g)) ⟨Same.new hD, [], upd_same, by simpa using Dns.nil⟩ (fun i H' _ p => hG H' (.of p.1)) (fun i x Ha Hb hi p y => ?_) (fun H' p => ?_)
  · obtain ⟨p1, acc, p2, p3⟩ := p
    obtain ⟨eb, d, hd, hx⟩ := hY i Ha x Hb hi (.of p1) y
    have hm : d ∈ ds := List.mem_of_getElem? hd
    have e2b : Same H2 Hb := p1.trans eb
    have eHb : Same H Hb := (e1.trans e2).trans e2b
    have htk : ds.take (i + 1) = ds.take i ++ [d] := by
      rw [List.take_add_one, hd]
      rfl
    refine ⟨hw x, ht d x Hb hm eHb hx Hb (Same.refl _) _ fun H3 e3 => ?_⟩
    cases hfd : f d with
    | false =>
      refine (if_neg Bool.false_ne_true).mpr ⟨e2b.trans e3, acc, e3 _ _ (eb _ _ p2), ?_⟩
      rw [htk, List.filter_append, List.filter_cons, if_neg (by rw [hfd]; simp), List.filter_nil, List.append_nil]
      exact p3.up (eb.trans e3)
    | true =>
      refine (if_pos rfl).mpr (he d x Hb hm eHb hx hfd H3 e3 _ fun y H4 e4 hy => ⟨acc, e4 _ _ (e3 _ _ (eb _ _ p2)), ?_, ?_⟩)
      · have := p3.length
        have h2 : ((List.filter f (ds.take i)).map g).length ≤ ds.length := by
          rw [List.length_map]
          exact Nat.le_trans (List.length_filter_le _ _) (by rw [List.length_take]; omega)
        rw [sizeLine_eq]
        omega
      · have hDl : H4 Dl = some (.lst acc) := e4 _ _ (e3 _ _ (eb _ _ p2))
        refine ⟨Same.mut ((e2b.trans e3).trans e4) hD, acc ++ [y], upd_same, ?_⟩
        rw [htk, List.filter_append, List.map_append, List.filter_cons, if_pos hfd, List.filter_nil]
        refine Dns.app ((p3.up ((eb.trans e3).trans e4)).keep (Kp.upd hDl rfl) (fx _ fun d hd => List.mem_of_mem_take hd)) (.cons (hy.keep (Kp.upd hDl rfl) (hf d hm hfd)) .nil)
  · obtain ⟨p1, acc, p2, p3⟩ := p
    rw [List.take_length] at p3
    exact q Dl acc H' (e2.free hD) (e2.trans p1) p2 p3
/-- .. without a test -/
theorem gn_map {wi : TI} {j : Nat} {vs : List Nat} {ds : List D} (g : D → D) (h : ∀ H1, Same H H1 → GI K [] wi σ H1 ds) (hz : ds.length ≤ 50000)
    (hw : ∀ x, wipe ((wipe σ vs).set j (some x)) vs = wipe σ vs) (hf : ∀ d ∈ ds, (g d).fix = true)
    (he : ∀ d x H1, d ∈ ds → Same H H1 → Dn K H1 x d → GD K te ((wipe σ vs).set j (some x)) H1 (g d)) : GN K (tLc wi (gName j) tYes te vs) σ H (ds.map g) := by
  have h' := gn_lc (K := K) (t := tYes) (te := te) (σ := σ) (H := H) (fun _ => true) g h hz hw (fun d hd _ => hf d hd) (fun d x H1 _ _ _ H2 _ Q q => q H2 (Same.refl _)) (fun d x H1 hd e hx _ => he d x H1 hd e hx)
  have e : ds.filter (fun _ => true) = ds := List.filter_eq_self.mpr fun _ _ => rfl
  rw [e] at h'
  exact h'
/-- a for: what holds between the turns may be told by the heap at the loop's start -/
theorem s_for {M : List Addr} {wi : TI} {g : TG} {ds : List D} (h : GI K M wi σ H ds)
    (k : ∀ H2, Same H H2 → ∃ Pv : Nat → L2.St → Hp → Prop, Pv 0 σ H2 ∧ (∀ i σ' H', Pv i σ' H' → But M H2 H') ∧ (∀ i σ' H' H'', Same H' H'' → Pv i σ' H' → Pv i σ' H'') ∧
      (∀ i d x σ' H', ds[i]? = some d → Dn K H' x d → Pv i σ' H' → g x σ' H' fun σ2 H3 => tu { E with nx := Pv (i + 1), ct := Pv (i + 1), bk := E.nx } σ2 H3) ∧ (∀ σ' H', Pv ds.length σ' H' → E.nx σ' H')) : tFor wi g tu E σ H :=
  h _ fun J G Y H2 e2 w hG hY => by
    obtain ⟨Pv, k0, kb, hP, ks, kd⟩ := k H2 e2
    refine for_it w Pv k0 (fun i σ' H' hi p => hG H' (kb i σ' H' p)) (fun i x σ' Ha Hb hi p y => ?_) kd
    obtain ⟨eb, d, hd, hx⟩ := hY i Ha x Hb hi (kb i σ' Ha p) y
    exact ks i d x σ' Hb hd hx (hP i σ' Ha Hb eb p)
/-- a while, by a word that falls -/
theorem s_while (W : Nat → L2.St → Hp → Prop) (m0 : Nat) (h0 : W m0 σ H)
    (hs : ∀ m σ' H', W m σ' H' → ∃ b, GT t σ' H' b ∧ (b = true → ∀ H1, Same H' H1 → ∃ N : L2.St → Hp → Prop, (∀ σ2 H2, N σ2 H2 → ∃ m', m' < m ∧ W m' σ2 H2) ∧ tu { E with nx := N, ct := N, bk := E.nx } σ' H1) ∧
      (b = false → ∀ H1, Same H' H1 → E.nx σ' H1)) : tWhile t tu E σ H :=
  ⟨W, ⟨m0, h0⟩, fun m σ' H' hw => by
    obtain ⟨b, hb, h1, h2⟩ := hs m σ' H' hw
    refine hb H' (Same.refl _) _ fun H1 e => ?_
    cases b with
    | true => exact (if_pos rfl).mpr (h1 rfl H1 e)
    | false => exact (if_neg Bool.false_ne_true).mpr (h2 rfl H1 e)⟩
end
end Cc

namespace Cc
open PySem L2
/-- what len says of it -/
def D.len : D → Option Nat
  | .lst ds => some ds.length
  | .tup ds => some ds.length
  | .str x => some x.length
  | _ => none
/-- the name of its built-in type -/
def D.ty : D → String
  | .non => "NoneType"
  | .bl _ => "bool"
  | .int _ => "int"
  | .str _ => "str"
  | .lst _ => "list"
  | .tup _ => "tuple"
  | .ptup _ => "tuple"
  | .ob _ _ _ => "object"
def D.noob : D → Bool
  | .ob _ _ _ => false
  | _ => true
abbrev rLen (K : Fg) : List V → Hp → VK → Prop := fun xs H Q => ∃ x n, xs = [x] ∧ LenV K x H n ∧ Q (.int (n : Nat)) H
abbrev rTup (K : Fg) : List V → Hp → VK → Prop := fun xs H Q => ∃ p ys, xs = [.ref p] ∧ ((SqL K H p ys ∧ ∀ l, H l = none → Q (.ref l) (upd H l (.tup ys))) ∨ (SqT K H p ys ∧ Q (.ref p) H))
abbrev rLst (K : Fg) : List V → Hp → VK → Prop := fun xs H Q => ∃ p ys, xs = [.ref p] ∧ (SqL K H p ys ∨ SqT K H p ys) ∧ ∀ l, H l = none → Q (.ref l) (upd H l (.lst ys))
/-! the rules with the written part told -/
section
variable {X : Cx} (K : Fg)
theorem lenK (h : X.K = K := by rfl) : CallR X (.builtin "len") (rLen K) := h ▸ call_len
theorem tupK (h : X.K = K := by rfl) : CallR X (.type "tuple") (rTup K) := h ▸ call_tuple_of
theorem lstK (h : X.K = K := by rfl) : CallR X (.type "list") (rLst K) := h ▸ call_list_of
theorem isiK (h : X.K = K := by rfl) : CallR X (.builtin "isinstance") (rIsi K) := h ▸ call_isi
theorem sumK (hc : X.calm = true := by rfl) (h : X.K = K := by rfl) : CallR X (.builtin "sum") (rSum K) := h ▸ cr_sum hc
theorem allK (hc : X.calm = true := by rfl) (h : X.K = K := by rfl) : CallR X (.builtin "all") (rAll K) := h ▸ cr_all hc
theorem anyK (hc : X.calm = true := by rfl) (h : X.K = K := by rfl) : CallR X (.builtin "any") (rAny K) := h ▸ cr_any hc
theorem ixT (h : X.K = K := by rfl) : IxR X (rIxT K) := h ▸ ix_tup
theorem ixL (h : X.K = K := by rfl) : IxR X (rIxL K) := h ▸ ix_list
theorem ixA (h : X.K = K := by rfl) : IxR X (rIx K) := h ▸ ix_seq
theorem slT (h : X.K = K := by rfl) : SlR X (rSlA K) := h ▸ sl_tupA
theorem slL (h : X.K = K := by rfl) : SlR X (rSlL K) := h ▸ sl_list
theorem catT (h : X.K = K := by rfl) : OpR X (binaryOp .Add) (rCatA K) := h ▸ op_catA
theorem eqK (hu : X.A.units + 64 < cLine) (h : X.K = K := by rfl) : OpR X (compareOp .Eq) (rEqD K) := h ▸ op_eqD hu
theorem neK (hu : X.A.units + 64 < cLine) (h : X.K = K := by rfl) : OpR X (compareOp .NotEq) (rNeD K) := h ▸ op_neD hu
theorem inK (h : X.K = K := by rfl) : OpR X (compareOp .In) (rIn K false) := h ▸ op_in_seq
theorem niK (h : X.K = K := by rfl) : OpR X (compareOp .NotIn) (rIn K true) := h ▸ op_notIn_seq
theorem inDK (hu : X.A.units + 65 < cLine) (h : X.K = K := by rfl) : OpR X (compareOp .In) (rInD K) := h ▸ op_inD hu
theorem niDK (hu : X.A.units + 65 < cLine) (h : X.K = K := by rfl) : OpR X (compareOp .NotIn) (rNotInD K) := h ▸ op_notInD hu
theorem pe_fK {e : Expr} {f : Str} {pos : Pos} {ta : TE} (he : PE X e ta) (hb : attributeBase e f X.env (eval e X.env) = eval e X.env := by rfl) (h : X.K = K := by rfl) : PE X (.Attribute e f pos) (tFld K ta f) := h ▸ pe_fld he hb
theorem pi_lK {tg l : Expr} {tl : TE} (hl : PE X l tl) (h : X.K = K := by rfl) : PI X tg l (iList K tl) := h ▸ pi_list hl
theorem pi_tK {tg l : Expr} {tl : TE} (hl : PE X l tl) (h : X.K = K := by rfl) : PI X tg l (iTup K tl) := h ▸ pi_tup hl
end
section
variable {K : Fg} {σ : L2.St} {H H' : Hp} {ta tb te : TE} {t u : TT} {d e z : D} {r : R2}
theorem rc_len {n : Nat} (h : d.len = some n) (hz : n ≤ 100000) : RCD K (rLen K) [d] (.int (n : Nat)) := fun vs H Q hv q => by
  cases hv with
  | cons h1 h2 =>
    cases h2
    refine ⟨_, n, rfl, ?_, q _ H (Same.refl _) (.int _)⟩
    cases h1 with
    | str x =>
      cases h
      exact ⟨by rw [sizeLine_eq]; omega, rfl⟩
    | lst hs ha =>
      cases h
      exact .inl ⟨_, SqL.of hs, ha.length.symm⟩
    | tup hs ha =>
      cases h
      exact .inr ⟨_, hs, ha.length.symm⟩
    | _ => cases h
theorem tyx_of (hb : d.noob = true) {v : V} (h : Dn K H v d) : TyX K H v (.type d.ty) := by
  cases h with
  | non => exact .base .non
  | bl b => exact .base (.bl b)
  | int i => exact .base (.int i)
  | str x => exact .base (.str x)
  | lst hs _ => exact .base (.lst hs)
  | ptup hs _ =>
    obtain ⟨o, _, hs⟩ := hs
    exact .fTuple hs
  | tup hs _ =>
    rcases hs with (hs | ⟨o, hs⟩) | ⟨o, its, n, hk, hc, _⟩
    · exact .base (.tup hs)
    · exact .fTuple hs
    · exact .kTuple hk hc
  | ob _ _ _ => cases hb
/-- isinstance(e, T), T a built-in class -/
theorem gd_isi {n : String} {b : Bool} (h : GD K te σ H d) (hb : d.noob = true) (hk : kitB d.ty n = some b) : GD K (tCB (rIsi K) (tCons te (tCons (tC (.ty n)) tNil))) σ H (.bl b) := fun H1 e Q q =>
  h H1 e _ fun v H2 e2 hv => ⟨v, .ty n, .type d.ty, .type n, b, rfl, .ty n, tyx_of hb hv, kit_ty hk, q _ H2 e2 (.bl _)⟩
def D.isT (n : String) : D → Bool
  | .non => false
  | .bl _ => n == "int" || n == "bool"
  | .int _ => n == "int"
  | .str _ => n == "str"
  | .lst _ => n == "list"
  | .tup _ => n == "tuple"
  | .ptup _ => n == "tuple"
  | .ob _ _ _ => false
theorem kit_isT (hb : d.noob = true) (n : String) (hn : n = "int" ∨ n = "bool" ∨ n = "str" ∨ n = "list" ∨ n = "tuple") : kitB d.ty n = some (d.isT n) := by
  rcases hn with rfl | rfl | rfl | rfl | rfl
  all_goals
    cases d
    case non => exact (show kitB "NoneType" _ = some false by decide +kernel)
    case bl b => first | exact (show kitB "bool" _ = some true by decide +kernel) | exact (show kitB "bool" _ = some false by decide +kernel)
    case int b => first | exact (show kitB "int" _ = some true by decide +kernel) | exact (show kitB "int" _ = some false by decide +kernel)
    case str b => first | exact (show kitB "str" _ = some true by decide +kernel) | exact (show kitB "str" _ = some false by decide +kernel)
    case lst b => first | exact (show kitB "list" _ = some true by decide +kernel) | exact (show kitB "list" _ = some false by decide +kernel)
    case tup b => first | exact (show kitB "tuple" _ = some true by decide +kernel) | exact (show kitB "tuple" _ = some false by decide +kernel)
    case ptup b => first | exact (show kitB "tuple" _ = some true by decide +kernel) | exact (show kitB "tuple" _ = some false by decide +kernel)
    case ob => cases hb
/-- isinstance(e, int) and so on -/
theorem gd_isT {n : String} (h : GD K te σ H d) (hb : d.noob = true) (hn : n = "int" ∨ n = "bool" ∨ n = "str" ∨ n = "list" ∨ n = "tuple" := by decide) : GD K (tCB (rIsi K) (tCons te (tCons (tC (.ty n)) tNil))) σ H (.bl (d.isT n)) := gd_isi h hb (kit_isT hb n hn)
theorem rc_min2 {i j : Int} : RCD K (fun xs H Q => ∃ i j, xs = [.int i, .int j] ∧ Q (.int (if j < i then j else i)) H) [.int i, .int j] (.int (min i j)) := fun vs H Q hv q => by
  cases hv with
  | cons h1 h2 =>
    cases h2 with
    | cons h2 h3 =>
      cases h3
      cases h1; cases h2
      have e : (if j < i then j else i) = min i j := by
        by_cases c : j < i
        · rw [if_pos c]; omega
        · rw [if_neg c]; omega
      exact ⟨i, j, rfl, by rw [e]; exact q _ H (Same.refl _) (.int _)⟩
theorem rc_max2 {i j : Int} : RCD K (fun xs H Q => ∃ i j, xs = [.int i, .int j] ∧ Q (.int (if j > i then j else i)) H) [.int i, .int j] (.int (max i j)) := fun vs H Q hv q => by
  cases hv with
  | cons h1 h2 =>
    cases h2 with
    | cons h2 h3 =>
      cases h3
      cases h1; cases h2
      have e : (if j > i then j else i) = max i j := by
        by_cases c : j > i
        · rw [if_pos c]; omega
        · rw [if_neg c]; omega
      exact ⟨i, j, rfl, by rw [e]; exact q _ H (Same.refl _) (.int _)⟩
theorem rc_int {i : Int} : RCD K (fun xs H Q => (∃ i, xs = [.int i] ∧ Q (.int i) H) ∨ ∃ k, xs = [.bl k] ∧ Q (.int (if k then 1 else 0)) H) [.int i] (.int i) := fun vs H Q hv q => by
  cases hv with
  | cons h1 h2 =>
    cases h2
    cases h1
    exact .inl ⟨i, rfl, q _ H (Same.refl _) (.int _)⟩
theorem rc_intB {b : Bool} : RCD K (fun xs H Q => (∃ i, xs = [.int i] ∧ Q (.int i) H) ∨ ∃ k, xs = [.bl k] ∧ Q (.int (if k then 1 else 0)) H) [.bl b] (.int (if b then 1 else 0)) := fun vs H Q hv q => by
  cases hv with
  | cons h1 h2 =>
    cases h2
    cases h1
    exact .inr ⟨b, rfl, q _ H (Same.refl _) (.int _)⟩
theorem dns_ints : ∀ {vs : List V} {ns : List Int}, Dns K H vs (ns.map D.int) → vs = ns.map V.int
  | _, [], h => by cases h; rfl
  | _, n :: ns, h => by
    cases h with
    | cons h1 h2 =>
      cases h1
      rw [dns_ints h2]
      rfl
theorem dns_bls : ∀ {vs : List V} {ns : List Bool}, Dns K H vs (ns.map D.bl) → vs = ns.map V.bl
  | _, [], h => by cases h; rfl
  | _, n :: ns, h => by
    cases h with
    | cons h1 h2 =>
      cases h1
      rw [dns_bls h2]
      rfl
theorem dns_strs : ∀ {vs : List V} {ns : List Str}, Dns K H vs (ns.map D.str) → vs = ns.map V.str
  | _, [], h => by cases h; rfl
  | _, n :: ns, h => by
    cases h with
    | cons h1 h2 =>
      cases h1
      rw [dns_strs h2]
      rfl
theorem rc_sum {ns : List Int} : RCD K (rSum K) [.lst (ns.map D.int)] (.int ns.sum) := fun vs H Q hv q => by
  cases hv with
  | cons h1 h2 =>
    cases h2
    cases h1 with
    | lst hs ha => exact ⟨_, ns, rfl, by rw [dns_ints ha] at hs; exact SqL.of hs, q _ H (Same.refl _) (.int _)⟩
theorem rc_all {bs : List Bool} : RCD K (rAll K) [.lst (bs.map D.bl)] (.bl (bs.all id)) := fun vs H Q hv q => by
  cases hv with
  | cons h1 h2 =>
    cases h2
    cases h1 with
    | lst hs ha => exact ⟨_, bs, rfl, by rw [dns_bls ha] at hs; exact SqL.of hs, q _ H (Same.refl _) (.bl _)⟩
theorem rc_any {bs : List Bool} : RCD K (rAny K) [.lst (bs.map D.bl)] (.bl (bs.any id)) := fun vs H Q hv q => by
  cases hv with
  | cons h1 h2 =>
    cases h2
    cases h1 with
    | lst hs ha => exact ⟨_, bs, rfl, by rw [dns_bls ha] at hs; exact SqL.of hs, q _ H (Same.refl _) (.bl _)⟩
/-- tuple(list), tuple(tuple) -/
theorem rc_tuple {ds : List D} (h : d = .lst ds ∨ d = .tup ds) (hf : D.fixs ds = true) : RCD K (rTup K) [d] (.tup ds) := fun vs H Q hv q => by
  cases hv with
  | cons h1 h2 =>
    cases h2
    rcases h with h | h
    · subst h
      cases h1 with
      | lst hs ha => exact ⟨_, _, rfl, .inl ⟨SqL.of hs, fun l hl => q _ _ (Same.new hl) (.tup (SqT.of upd_same) (ha.up (Same.new hl)))⟩⟩
    · subst h
      cases h1 with
      | tup hs ha => exact ⟨_, _, rfl, .inr ⟨hs, q _ H (Same.refl _) (.tup hs ha)⟩⟩
/-- list(list), list(tuple) -/
theorem gn_list {ds : List D} (h : GD K te σ H d) (hd : d = .lst ds ∨ d = .tup ds) : GN K (tCB (rLst K) (tCons te tNil)) σ H ds := fun H1 e Q q =>
  h H1 e _ fun v H2 e2 hv => by
    rcases hd with hd | hd
    · subst hd
      cases hv with
      | lst hs ha => exact ⟨_, _, rfl, .inl (SqL.of hs), fun l hl => q l _ _ (e2.free hl) (e2.trans (Same.new hl)) upd_same (ha.up (Same.new hl))⟩
    · subst hd
      cases hv with
      | tup hs ha => exact ⟨_, _, rfl, .inr hs, fun l hl => q l _ _ (e2.free hl) (e2.trans (Same.new hl)) upd_same (ha.up (Same.new hl))⟩
/-- tuple(range(a, b)) -/
theorem gd_tupRg2 {i j : Int} (ha : GD K ta σ H (.int i)) (hb : GD K tb σ H (.int j)) (h : RgOk i j) : GD K (tTupRg (tRg2 ta tb)) σ H (.tup ((List.range (j - i).toNat).map fun k => .int (i + (k : Nat)))) := fun H1 e Q q =>
  ha H1 e _ fun v H2 e2 hv => hb H2 (e.trans e2) _ fun w H3 e3 hw => by
    cases hv; cases hw
    refine ⟨i, j, rfl, rfl, h, fun p hp => q _ _ ((e2.trans e3).trans (Same.new hp)) (.tup (SqT.of upd_same) ?_)⟩
    unfold rgV
    exact Dns.of (fun k => .int _) _
/-- slices -/
theorem go_none : GO tNoPart σ H none := fun H1 _ Q q => q H1 (Same.refl _)
theorem go_some {i : Int} (h : GD K te σ H (.int i)) : GO (tPart te) σ H (some i) := fun H1 e Q q => h H1 e _ fun v H2 e2 hv => by
  cases hv
  exact ⟨i, rfl, q H2 e2⟩
def cutD (ds : List D) (lo hi : Option Int) : List D := (ds.drop (HT.sIx ds.length 0 lo)).take (HT.sIx ds.length ds.length hi - HT.sIx ds.length 0 lo)
theorem cut_dns {vs : List V} {ds : List D} (h : Dns K H vs ds) (lo hi : Option Int) : Dns K H (cutV vs lo hi) (cutD ds lo hi) := by
  unfold cutV cutD
  rw [h.length]
  exact (h.drop _).take _
theorem gd_slT {tl th : TO} {ds : List D} {lo hi : Option Int} (h : GD K te σ H (.tup ds)) (h1 : GO tl σ H lo) (h2 : GO th σ H hi) : GD K (tSl (rSlA K) te tl th) σ H (.tup (cutD ds lo hi)) := fun H1 e Q q =>
  h H1 e _ fun v H2 e2 hv => h1 H2 (e.trans e2) _ fun H3 e3 => h2 H3 ((e.trans e2).trans e3) _ fun H4 e4 => by
    have hv := hv.up (e3.trans e4)
    cases hv with
    | @tup a xs ds hs ha =>
      refine ⟨a, xs, rfl, hs, fun w => ?_, fun _ p hp => q _ _ (((e2.trans e3).trans e4).trans (Same.new hp)) (.tup (SqT.of upd_same) ((cut_dns ha lo hi).up (Same.new hp)))⟩
      have hw : cutD ds lo hi = ds := by
        unfold cutD
        rw [ha.length] at w
        rw [w.1, w.2, List.drop_zero, Nat.sub_zero, List.take_length]
      rw [hw] at q
      exact q _ H4 ((e2.trans e3).trans e4) (.tup hs ha)
theorem gn_slL {tl th : TO} {ds : List D} {lo hi : Option Int} (h : GD K te σ H (.lst ds)) (h1 : GO tl σ H lo) (h2 : GO th σ H hi) : GN K (tSl (rSlL K) te tl th) σ H (cutD ds lo hi) := fun H1 e Q q =>
  h H1 e _ fun v H2 e2 hv => h1 H2 (e.trans e2) _ fun H3 e3 => h2 H3 ((e.trans e2).trans e3) _ fun H4 e4 => by
    have hv := hv.up (e3.trans e4)
    cases hv with
    | @lst a xs ds hs ha =>
      exact ⟨a, xs, rfl, SqL.of hs, fun p hp => q _ _ _ (((e2.trans e3).trans e4).free hp) (((e2.trans e3).trans e4).trans (Same.new hp)) upd_same ((cut_dns ha lo hi).up (Same.new hp))⟩
/-- a field -/
theorem gd_fld {C : Addr} {ns : List Str} {ds : List D} {f : Str} {i : Nat} (h : GD K te σ H (.ob C ns ds)) (c : Cls K C) (n : NoAttr K C f) (hi : ns[i]? = some f) (hn : ns.Nodup) (hd : ds[i]? = some d) : GD K (tFld K te f) σ H d := fun H1 e Q q =>
  h H1 e _ fun v H2 e2 hv => by
    cases hv with
    | @ob a C dx fs ns ds ho hm ha =>
      obtain ⟨w, hw, hwd⟩ := ha.getD hd
      refine ⟨a, C, dx, fs, w, rfl, ho, c, n, ?_, q w H2 e2 hwd⟩
      have key : ∀ (fs : List (Str × V)) (i : Nat), (fs.map (·.1)).Nodup → (fs.map (·.1))[i]? = some f → (fs.map (·.2))[i]? = some w → fs.lookup f = some w := by
        intro fs
        induction fs with
        | nil => intro i _ h1; simp at h1
        | cons p fs ih =>
          intro i hnd h1 h2
          obtain ⟨k, x⟩ := p
          cases i with
          | zero =>
            simp at h1 h2
            subst h1 h2
            simp [List.lookup]
          | succ i =>
            simp at h1 h2
            have hne : ¬ f = k := by
              rintro rfl
              have hmem : f ∈ fs.map (·.1) := List.mem_of_getElem? (i := i) (by simpa using h1)
              simp at hnd
              obtain ⟨a, ha, hb⟩ := List.mem_map.mp hmem
              obtain ⟨a1, a2⟩ := a
              simp at hb
              subst hb
              exact hnd.1 a2 ha
            have hb : (f == k) = false := by simpa using hne
            rw [List.lookup_cons, hb]
            exact ih i (by simpa using (List.nodup_cons.mp hnd).2) (by simpa using h1) (by simpa using h2)
      rw [← hm] at hi hn
      exact key fs i hn hi hw
end
end Cc

namespace Cc
open PySem L2
/-- the def that stands under the name x keeps its promise -/
def Cal (P : Program) (w : World) (K : Fg) (mg : Str → Option Value) (base : Heap) (CX : CXT) (n : Nat) (x : Str) (ps : List Str) (sp : Sp) : Prop :=
  ∃ (f : Addr) (fd : FuncData), FnOk P w K mg base CX n f fd ps sp ∧ mg x = some (.ref f) ∧ PySem.W.keepIn K (.ref f) = true ∧ L2.Binds K fd ps []
/-- a constant of the module -/
def Cst (mg : Str → Option Value) (x : Str) (v : V) : Prop := ∃ u, mg x = some u ∧ RelV v u
section
variable {X : Cx} {n m : Nat} {x : Str} {ps : List Str} {sp : Sp} {e : Expr} {es : List Expr} {t : TA} {p pos : Pos}
theorem pe_gc {v : V} (h : Cst X.mg x v) (hg : Gl X x := by rfl) (hd : (x == ("__debug__" : Str)) = false := by decide) : PE X (.Name x pos) (tC v) := by
  obtain ⟨u, h1, h2⟩ := h
  exact pe_glob hg h1 h2 hd
theorem pe_ty {T : String} (hm : X.mg x = none) (hg : Gl X x := by rfl) (hv : bootBuiltins x = some (.type T) := by decide +kernel) (hn : x ≠ "__name__" := by decide) (hd : (x == ("__debug__" : Str)) = false := by decide) : PE X (.Name x pos) (tC (.ty T)) :=
  pe_bltn hg hm hv rfl hn hd
/-- a call of a def that lets nothing out -/
theorem pe_cal {CX : CXT} {E : XK} (C : Cal X.prog X.w X.K X.mg X.base CX n x ps sp) (hr : Room m X.A) (hx : Passes CX X E) (ha : PA X (e :: es) t) (hg : Gl X x := by rfl) (hn : n ≤ m := by decide)
    (hdb : (x == ("__debug__" : Str)) = false := by decide) (he : starEach (e :: es) X.env = (false, eval e X.env) :: starEach es X.env := by rfl) (hpl : (backTo pos (starEach es X.env)).any (·.1) = false := by rfl) : PE X (.Call (.Name x p) (e :: es) [] pos) (tCall sp [] E t) := by
  obtain ⟨f, fd, F, hm, hk, hb⟩ := C
  exact pe_call F (hr.mono hn) hg hm hk hb .nil hx ha hdb he hpl
end
section
variable {K : Fg} {H : Hp}
theorem Dns.un1 {vs : List V} {a : D} (h : Dns K H vs [a]) : ∃ v, vs = [v] ∧ Dn K H v a := by
  cases h with
  | cons h0 h => cases h; exact ⟨_, rfl, h0⟩
theorem Dns.un2 {vs : List V} {a b : D} (h : Dns K H vs [a, b]) : ∃ v w, vs = [v, w] ∧ Dn K H v a ∧ Dn K H w b := by
  cases h with
  | cons h0 h =>
    obtain ⟨w, rfl, h1⟩ := h.un1
    exact ⟨_, w, rfl, h0, h1⟩
theorem Dns.un3 {vs : List V} {a b c : D} (h : Dns K H vs [a, b, c]) : ∃ v w x, vs = [v, w, x] ∧ Dn K H v a ∧ Dn K H w b ∧ Dn K H x c := by
  cases h with
  | cons h0 h =>
    obtain ⟨w, x, rfl, h1, h2⟩ := h.un2
    exact ⟨_, w, x, rfl, h0, h1, h2⟩
theorem Dns.un4 {vs : List V} {a b c d : D} (h : Dns K H vs [a, b, c, d]) : ∃ v w x y, vs = [v, w, x, y] ∧ Dn K H v a ∧ Dn K H w b ∧ Dn K H x c ∧ Dn K H y d := by
  cases h with
  | cons h0 h =>
    obtain ⟨w, x, y, rfl, h1, h2, h3⟩ := h.un3
    exact ⟨_, w, x, y, rfl, h0, h1, h2, h3⟩
end
/-- a text of one sign in another text -/
def hasSign (z : Str) (c : Str) : Bool := match c.cps.toList with
  | [k] => decide (k ∈ z.cps.toList)
  | _ => false
section
variable {K : Fg} {σ : L2.St} {H H' : Hp} {ta tb te : TE} {t u : TT} {d e z : D} {r : R2}
theorem gd_chain {r r' : R2} {tc : TE} {f : D} {a b : Bool} (ha : GD K ta σ H d) (hb : GD K tb σ H e) (hr : R2D K r d e (.bl a)) (hc : GD K tc σ H f) (hr' : R2D K r' e f (.bl b)) : GD K (tChain r r' ta tb tc) σ H (.bl (a && b)) := fun H1 c Q q =>
  ha H1 c _ fun x H2 c2 hx => hb H2 (c.trans c2) _ fun y H3 c3 hy => hr x y H3 _ (hx.up c3) hy fun v H4 c4 hv => by
    cases hv
    refine ⟨a, rfl, ?_⟩
    have k := (c2.trans c3).trans c4
    cases a with
    | true => exact (if_pos rfl).mpr (hc H4 (c.trans k) _ fun w H5 c5 hw => hr' y w H5 _ (hy.up (c4.trans c5)) hw fun v H6 c6 hv => q v H6 ((k.trans c5).trans c6) hv)
    | false => exact (if_neg Bool.false_ne_true).mpr (q _ H4 k (.bl _))
theorem r_sign {c : Nat} {z : Str} : R2D K (fun x y H Q => ∃ (c : Nat) (z : Str), x = .str ⟨#[c]⟩ ∧ y = .str z ∧ Q (.bl (decide (c ∈ z.cps.toList))) H) (.str ⟨#[c]⟩) (.str z) (.bl (decide (c ∈ z.cps.toList))) := fun x y H Q hx hy q => by
  cases hx; cases hy
  exact ⟨c, z, rfl, rfl, q _ H (Same.refl _) (.bl _)⟩
theorem ixN_nat {n j : Nat} (hj : j < n) : ixN n (j : Int) = some j := by
  unfold ixN
  rw [if_pos (by omega), if_pos (by omega)]
  simp
/-- xs[j] = e -/
theorem s_setL {E : Ends} {l : Addr} {xs : List V} {j : Nat} (hl : H l = some (.lst xs)) (ho : ∀ H1, Same H H1 → ∀ Q : VK, Q (.ref l) H1 → ta σ H1 Q) (hi : GD K tb σ H (.int (j : Nat))) (hj : j < xs.length) (h : GD K te σ H d)
    (k : ∀ v H1, Same H H1 → Dn K H1 v d → E.nx σ (upd H1 l (.lst (xs.set j v)))) : tAsg te (gSub ta tb rSetL) E σ H :=
  h H (Same.refl _) _ fun v H1 e1 hv => ho H1 e1 _ (hi H1 e1 _ fun w H2 e2 hw => by
    cases hw
    exact ⟨l, xs, (j : Nat), j, rfl, rfl, (e1.trans e2) l _ hl, ixN_nat hj, k v H2 (e1.trans e2) (hv.up e2)⟩)
/-- an item of a list that a name holds, told by its value -/
theorem gd_ixV {i j : Nat} {l : Addr} {xs : List V} {v : V} (hσ : σ[i]? = some (some (.ref l))) (hl : H l = some (.lst xs)) (hv : xs[j]? = some v) (hd : Dn K H v d) : GD K (tOp (rIxL K) (tVar i) (tC (.int (j : Nat)))) σ H d := fun H1 e Q q =>
  ⟨.ref l, hσ, l, xs, (j : Nat), v, rfl, rfl, SqL.of (e _ _ hl), atI_nat hv, q v H1 (Same.refl _) (hd.up e)⟩
end
end Cc

namespace Cc
open PySem L2 RZ
theorem walk_zipT {K : Fg} {a b : Addr} {xs ys : List V} {n : Nat} (hn : n = min xs.length ys.length) : Walk (ItzT K a b) n (fun H => SqT K H a xs ∧ SqT K H b ys) (YPair (fun i => xs[i]?) (fun i => ys[i]?)) := by
  subst hn
  refine ⟨fun i _ hi q => ?_, fun _ q => ⟨xs, ys, q.1, q.2, by omega⟩, fun i H v H' _ q y => ?_⟩
  · have h1 : i < xs.length := by omega
    have h2 : i < ys.length := by omega
    exact ⟨xs, ys, xs[i], ys[i], q.1, q.2, by simp [h1], by simp [h2]⟩
  · obtain ⟨T, x, z, h1, h2, h3, h4, h5⟩ := y
    exact ⟨T, x, z, h1, h2, h3, h4 xs q.1, h5 ys q.2⟩
theorem pi_zK {X : Cx} (K : Fg) {e e2 : Expr} {ta : TA} {p pos tpos : Pos} {elts : List Expr} {kk : Nat} (hm : X.mg "zip" = none) (ha : PA X [e, e2] ta) (hg : Gl X "zip" := by rfl) (h : X.K = K := by rfl)
    (he : starEach [e, e2] X.env = (false, eval e X.env) :: starEach [e2] X.env := by rfl) (hp : (backTo pos (starEach [e2] X.env)).any (·.1) = false := by rfl) : PI X (.Tuple elts kk tpos) (.Call (.Name "zip" p) [e, e2] [] pos) (iZipA K ta) := h ▸ pi_zipA hg hm ha he hp
theorem pg_tK {X : Cx} (K : Fg) {es : List Expr} {k : Nat} {t : TGs} {n : Nat} {pos : Pos} (hc : X.calm = true) (h : PGs X es t) (hk : X.K = K := by rfl)
    (hn : (assignEach es X.env).length = n := by rfl) (hst : (assignEach es X.env).findIdx? (·.1) = none := by rfl) : PG X (.Tuple es k pos) (gTup K n t) := hk ▸ pg_tup hc h hn hst
section
variable {K : Fg} {σ : L2.St} {H H' : Hp} {te : TE} {t : TT}
/-- [e for a, b in zip(xs, ys)], both tuples -/
theorem gn_zipT {ta : TA} {i j : Nat} {vs : List Nat} {ds es : List D} (g : D × D → D) (h : GA K ta σ H [.tup ds, .tup es]) (hz : ds.length ≤ 50000)
    (hw : ∀ x y, wipe (((wipe σ vs).set i (some x)).set j (some y)) vs = wipe σ vs) (hf : ∀ p ∈ ds.zip es, (g p).fix = true)
    (he : ∀ p x y H1, p ∈ ds.zip es → Same H H1 → Dn K H1 x p.1 → Dn K H1 y p.2 → GD K te (((wipe σ vs).set i (some x)).set j (some y)) H1 (g p)) : GN K (tLc (iZipA K ta) (gTup K 2 (gCons (gName i) (gCons (gName j) gNil))) tYes te vs) σ H ((ds.zip es).map g) := fun H1 e1 Q q =>
  h H1 e1 _ fun ws H2 e2 hv => by
    obtain ⟨v, w, rfl, h1, h2⟩ := hv.un2
    cases h1 with
    | @tup a xs _ hs ha =>
      cases h2 with
      | @tup b ys _ ht hb =>
        refine ⟨a, b, xs, ys, rfl, .inr ⟨hs, ht, fun Dl hD => ?_⟩⟩
        have hn : (ds.zip es).length = min xs.length ys.length := by rw [List.length_zip, ha.length, hb.length]
        have fx : ∀ k, D.fixs (((ds.zip es).take k).map g) = true := fun k => D.fixs_iff.mpr fun d hd => by
          obtain ⟨c, hc, rfl⟩ := List.mem_map.mp hd
          exact hf c (List.mem_of_mem_take hc)
        refine lc_it (walk_zipT (K := K) hn) (fun i H' => Same H2 H' ∧ ∃ acc, H' Dl = some (.lst acc) ∧ Dns K H' acc (((ds.zip es).take i).map g)) ⟨Same.new hD, [], upd_same, by simpa using Dns.nil⟩ (fun i H' _ p => ⟨same_t p.1 hs, same_t p.1 ht⟩) (fun k x Ha Hb hi p y => ?_) (fun H' p => ?_)
        · obtain ⟨p1, acc, p2, p3⟩ := p
          obtain ⟨T, x1, x2, rfl, hT, rfl, y1, y2⟩ := y
          obtain ⟨d, hd, hx⟩ := ha.get y1
          obtain ⟨d', hd', hx'⟩ := hb.get y2
          have eb : Same Ha (upd Ha T (.tup [x1, x2])) := Same.new hT
          have hpk : (ds.zip es)[k]? = some (d, d') := by
            rw [List.getElem?_zip_eq_some]
            exact ⟨hd, hd'⟩
          have hm := List.mem_of_getElem? hpk
          have e2b := p1.trans eb
          have htk : (ds.zip es).take (k + 1) = (ds.zip es).take k ++ [(d, d')] := by
            rw [List.take_add_one, hpk]
            rfl
          refine ⟨T, [x1, x2], rfl, SqT.of upd_same, rfl, x1, [x2], rfl, x2, [], rfl, rfl, hw x1 x2, ?_⟩
          unfold tYes
          dsimp only
          rw [if_pos rfl]
          refine he (d, d') x1 x2 _ hm ((e1.trans e2).trans e2b) (hx.up e2b) (hx'.up e2b) _ (Same.refl _) _ fun z H4 e4 hzz => ⟨acc, e4 _ _ (eb _ _ p2), ?_, ?_⟩
          · have h1 := p3.length
            have h2 : (((ds.zip es).take k).map g).length ≤ ds.length := by
              rw [List.length_map, List.length_take, List.length_zip]
              omega
            rw [sizeLine_eq]
            omega
          · have hDl : H4 Dl = some (.lst acc) := e4 _ _ (eb _ _ p2)
            refine ⟨Same.mut (e2b.trans e4) hD, acc ++ [z], upd_same, ?_⟩
            rw [htk, List.map_append]
            exact ((p3.up (eb.trans e4)).keep (Kp.upd hDl rfl) (fx k)).app (.cons (hzz.keep (Kp.upd hDl rfl) (hf _ hm)) .nil)
        · obtain ⟨p1, acc, p2, p3⟩ := p
          rw [List.take_length] at p3
          exact q Dl acc H' (e2.free hD) (e2.trans p1) p2 p3
end
end Cc

namespace My
open PySem L2 Cc
abbrev topS (i : Nat) : Stmt := PySem.Challenge.pw_coldcrates_k31_warmth_hour_by_hour.main.body.getD i (.Pass ⟨0, 0, 0, 0⟩)
abbrev s__wall : Stmt := topS 0
theorem sc__wall : FnScope ["k"] ["k"] (defScope s__wall) := ⟨rfl, rfl, rfl, by decide +kernel, rfl, by decide +kernel, by decide +kernel⟩
abbrev s_is_number : Stmt := topS 9
theorem sc_is_number : FnScope ["value", "low", "high"] ["value", "low", "high"] (defScope s_is_number) := ⟨rfl, rfl, rfl, by decide +kernel, rfl, by decide +kernel, by decide +kernel⟩
abbrev s_check_number : Stmt := topS 10
theorem sc_check_number : FnScope ["value", "low", "high"] ["value", "low", "high"] (defScope s_check_number) := ⟨rfl, rfl, rfl, by decide +kernel, rfl, by decide +kernel, by decide +kernel⟩
abbrev s_is_word : Stmt := topS 11
theorem sc_is_word : FnScope ["value", "letter"] ["value"] (defScope s_is_word) := ⟨rfl, rfl, rfl, by decide +kernel, rfl, by decide +kernel, by decide +kernel⟩
abbrev s_doors_fit : Stmt := topS 19
theorem sc_doors_fit : FnScope ["doors", "door"] ["doors"] (defScope s_doors_fit) := ⟨rfl, rfl, rfl, by decide +kernel, rfl, by decide +kernel, by decide +kernel⟩
abbrev s_is_door : Stmt := topS 20
theorem sc_is_door : FnScope ["value"] ["value"] (defScope s_is_door) := ⟨rfl, rfl, rfl, by decide +kernel, rfl, by decide +kernel, by decide +kernel⟩
abbrev s_crates_fit : Stmt := topS 21
theorem sc_crates_fit : FnScope ["crates", "size", "one", "other", "name"] ["crates", "size"] (defScope s_crates_fit) := ⟨rfl, rfl, rfl, by decide +kernel, rfl, by decide +kernel, by decide +kernel⟩
abbrev s_places_behind : Stmt := topS 22
theorem sc_places_behind : FnScope ["doors", "found", "begin", "door", "end"] ["doors"] (defScope s_places_behind) := ⟨rfl, rfl, rfl, by decide +kernel, rfl, by decide +kernel, by decide +kernel⟩
abbrev s_has_door : Stmt := topS 23
theorem sc_has_door : FnScope ["store", "door"] ["store", "door"] (defScope s_has_door) := ⟨rfl, rfl, rfl, by decide +kernel, rfl, by decide +kernel, by decide +kernel⟩
abbrev s_warmth_of : Stmt := topS 24
theorem sc_warmth_of : FnScope ["store", "doors", "door"] ["store", "doors"] (defScope s_warmth_of) := ⟨rfl, rfl, rfl, by decide +kernel, rfl, by decide +kernel, by decide +kernel⟩
abbrev s_check_day : Stmt := topS 29
theorem sc_check_day : FnScope ["store", "day", "at", "door"] ["store", "day"] (defScope s_check_day) := ⟨rfl, rfl, rfl, by decide +kernel, rfl, by decide +kernel, by decide +kernel⟩
abbrev s_warmths : Stmt := topS 30
theorem sc_warmths : FnScope ["store", "cooling", "day", "count", "days", "hours"] ["store", "cooling", "day", "count"] (defScope s_warmths) := ⟨rfl, rfl, rfl, by decide +kernel, rfl, by decide +kernel, by decide +kernel⟩
abbrev s_behind_days : Stmt := topS 31
theorem sc_behind_days : FnScope ["store", "cooling", "day", "days", "cold", "one", "two", "early", "late"] ["store", "cooling", "day", "days"] (defScope s_behind_days) := ⟨rfl, rfl, rfl, by decide +kernel, rfl, by decide +kernel, by decide +kernel⟩
abbrev s_all_cold : Stmt := topS 32
theorem sc_all_cold : FnScope ["store"] ["store"] (defScope s_all_cold) := ⟨rfl, rfl, rfl, by decide +kernel, rfl, by decide +kernel, by decide +kernel⟩
abbrev s_behind_hours : Stmt := topS 33
theorem sc_behind_hours : FnScope ["store", "cooling", "hours", "warm", "door"] ["store", "cooling", "hours", "warm"] (defScope s_behind_hours) := ⟨rfl, rfl, rfl, by decide +kernel, rfl, by decide +kernel, by decide +kernel⟩
abbrev s_risen : Stmt := topS 34
theorem sc_risen : FnScope ["store", "warm", "door", "later"] ["store", "warm", "door"] (defScope s_risen) := ⟨rfl, rfl, rfl, by decide +kernel, rfl, by decide +kernel, by decide +kernel⟩
abbrev s_cooled : Stmt := topS 35
theorem sc_cooled : FnScope ["warm", "by", "warmth"] ["warm", "by"] (defScope s_cooled) := ⟨rfl, rfl, rfl, by decide +kernel, rfl, by decide +kernel, by decide +kernel⟩
abbrev s_first_thaw : Stmt := topS 36
theorem sc_first_thaw : FnScope ["store", "cooling", "day", "limit", "heights", "thaws", "at", "door", "days"] ["store", "cooling", "day", "limit"] (defScope s_first_thaw) := ⟨rfl, rfl, rfl, by decide +kernel, rfl, by decide +kernel, by decide +kernel⟩
abbrev s_heights_in : Stmt := topS 37
theorem sc_heights_in : FnScope ["store", "cooling", "hours", "heights", "warm", "door"] ["store", "cooling", "hours"] (defScope s_heights_in) := ⟨rfl, rfl, rfl, by decide +kernel, rfl, by decide +kernel, by decide +kernel⟩
abbrev s_days_until : Stmt := topS 38
theorem sc_days_until : FnScope ["heights", "limit", "first", "second", "third", "more"] ["heights", "limit"] (defScope s_days_until) := ⟨rfl, rfl, rfl, by decide +kernel, rfl, by decide +kernel, by decide +kernel⟩
abbrev s__law_taken : Stmt := topS 40
theorem sc__law_taken : FnScope ["_law_row", "_law_many", "_law_found", "_law_cell"] ["_law_row", "_law_many"] (defScope s__law_taken) := ⟨rfl, rfl, rfl, by decide +kernel, rfl, by decide +kernel, by decide +kernel⟩
abbrev s__law_store : Stmt := topS 41
theorem sc__law_store : FnScope ["_law_row", "_law_rows", "_law_many", "_law_k", "_law_places", "_law_one"] ["_law_row"] (defScope s__law_store) := ⟨rfl, rfl, rfl, by decide +kernel, rfl, by decide +kernel, by decide +kernel⟩
abbrev s__law_day : Stmt := topS 42
theorem sc__law_day : FnScope ["_law_row", "_law_store_here", "_law_every", "_law_k"] ["_law_row", "_law_store_here"] (defScope s__law_day) := ⟨rfl, rfl, rfl, by decide +kernel, rfl, by decide +kernel, by decide +kernel⟩
abbrev s__law_hours : Stmt := topS 43
theorem sc__law_hours : FnScope ["_law_store_here", "_law_cooling", "_law_day_here", "_law_many", "_law_warm", "_law_found", "_law_opened", "_law_hour", "_law_door", "_law_one"] ["_law_store_here", "_law_cooling", "_law_day_here", "_law_many"] (defScope s__law_hours) := ⟨rfl, rfl, rfl, by decide +kernel, rfl, by decide +kernel, by decide +kernel⟩
abbrev s__law_first : Stmt := topS 44
theorem sc__law_first : FnScope ["_law_store_here", "_law_cooling", "_law_day_here", "_law_limit", "_law_size", "_law_opened", "_law_best", "_law_hour", "_law_rows", "_law_k", "_law_last", "_law_more", "_law_days"] ["_law_store_here", "_law_cooling", "_law_day_here", "_law_limit"] (defScope s__law_first) := ⟨rfl, rfl, rfl, by decide +kernel, rfl, by decide +kernel, by decide +kernel⟩
abbrev s_law : Stmt := topS 45
theorem sc_law : FnScope ["_law_script", "_law_row", "_law_turn", "_law_store_here", "_law_cooling", "_law_day_here", "_law_count", "_law_size", "_law_found", "_law_days", "_law_here", "_law_there", "_law_due", "_law_limit", "_law_k"] ["_law_script"] (defScope s_law) := ⟨rfl, rfl, rfl, by decide +kernel, rfl, by decide +kernel, by decide +kernel⟩
abbrev s_InvalidStore___init__ : Stmt := inClass (topS 3) 0
abbrev s_InvalidDay___init__ : Stmt := inClass (topS 5) 0
abbrev s_Store___init__ : Stmt := inClass (topS 18) 0
theorem sc_Store___init__ : FnScope ["self", "doors", "crates", "places"] ["self", "doors", "crates"] (defScope s_Store___init__) := ⟨rfl, rfl, rfl, by decide +kernel, rfl, by decide +kernel, by decide +kernel⟩
abbrev s_Store___eq__ : Stmt := inClass (topS 18) 1
theorem sc_Store___eq__ : FnScope ["self", "other"] ["self", "other"] (defScope s_Store___eq__) := ⟨rfl, rfl, rfl, by decide +kernel, rfl, by decide +kernel, by decide +kernel⟩
abbrev s_Store___len__ : Stmt := inClass (topS 18) 2
theorem sc_Store___len__ : FnScope ["self"] ["self"] (defScope s_Store___len__) := ⟨rfl, rfl, rfl, by decide +kernel, rfl, by decide +kernel, by decide +kernel⟩
abbrev s_Store_doors : Stmt := inClass (topS 18) 3
theorem sc_Store_doors : FnScope ["self"] ["self"] (defScope s_Store_doors) := ⟨rfl, rfl, rfl, by decide +kernel, rfl, by decide +kernel, by decide +kernel⟩
abbrev s_Store_crates : Stmt := inClass (topS 18) 4
theorem sc_Store_crates : FnScope ["self"] ["self"] (defScope s_Store_crates) := ⟨rfl, rfl, rfl, by decide +kernel, rfl, by decide +kernel, by decide +kernel⟩
abbrev s_Store_size : Stmt := inClass (topS 18) 5
theorem sc_Store_size : FnScope ["self"] ["self"] (defScope s_Store_size) := ⟨rfl, rfl, rfl, by decide +kernel, rfl, by decide +kernel, by decide +kernel⟩
abbrev s_Store_door_of : Stmt := inClass (topS 18) 6
theorem sc_Store_door_of : FnScope ["self", "place"] ["self", "place"] (defScope s_Store_door_of) := ⟨rfl, rfl, rfl, by decide +kernel, rfl, by decide +kernel, by decide +kernel⟩
abbrev s_Store_places_of : Stmt := inClass (topS 18) 7
theorem sc_Store_places_of : FnScope ["self", "door"] ["self", "door"] (defScope s_Store_places_of) := ⟨rfl, rfl, rfl, by decide +kernel, rfl, by decide +kernel, by decide +kernel⟩
end My

namespace My
open PySem L2 RZ Cc
structure Txt (K : Fg) (mg : Str → Option Value) : Prop where
  isinstance : mg "isinstance" = none
  int : mg "int" = none
  bool : mg "bool" = none
  str : mg "str" = none
  len : mg "len" = none
  all : mg "all" = none
  m_LETTERS : Cst mg "LETTERS" (.str "abcdefghijklmnopqrstuvwxyz")
  m_LONGEST_WORD : Cst mg "LONGEST_WORD" (.int 8)
/-! what numbers and words are -/
def isNum (d : D) (lo hi : Int) : Bool := match d with
  | .int i => decide (lo ≤ i) && decide (i ≤ hi)
  | _ => false
section
variable {P : Program} {w : World} {K : Fg} {mg : Str → Option Value} {base : Heap}
abbrev spIsNumber (K : Fg) : Sp := spOf (α := D × Int × Int) K (fun a => [a.1, .int a.2.1, .int a.2.2]) (fun a => a.1.noob = true) fun a => .bl (isNum a.1 a.2.1 a.2.2)
theorem ok_is_number {f : Addr} {fd : FuncData} (F : Fun K "is_number" "is_number" s_is_number f fd) (T : Txt K mg) : FnOk P w K mg base CX0 1 f fd ["value", "low", "high"] (spIsNumber K) := by
  refine F.ok sc_is_number (fun vs H Q E h => ?_) (fun cdv A outer s H vs Q E hr h => ?_)
  · obtain ⟨a, h, _⟩ := h
    exact h.length
  · obtain ⟨⟨d, lo, hi⟩, hv, hp, k⟩ := h
    refine ⟨_, (pss_one (ps_ret (pe_and (pe_callB (isiK K) (by rfl) T.isinstance (by decide +kernel) (pa_cons (pv 0) (pa_cons (pe_ty (T := "int") T.int) pa_nil))) (pe_and (pe_not (pe_callB (isiK K) (by rfl) T.isinstance (by decide +kernel) (pa_cons (pv 0) (pa_cons (pe_ty (T := "bool") T.bool) pa_nil)))) (pe_one (pe_chain op_le op_le (pv 1) (pv 0) (pv 2))))))), ?_⟩
    cases hv with
    | cons h0 hv =>
      cases hv with
      | cons h1 hv =>
        cases hv with
        | cons h2 hv =>
          cases hv
          cases d with
          | int i =>
            refine s_ret (d := .bl (isNum (.int i) lo hi)) (GD.is (gd_and (gd_isT (gd_var rfl h0) hp) fun _ => gd_and (gd_not (gd_isT (gd_var rfl h0) hp)) fun _ => gd_chain (gd_var rfl h1) (gd_var rfl h0) r_intB (gd_var rfl h2) r_intB) ?_) k
            simp [isNum, D.isT]
          | ob => cases hp
          | bl b => exact s_ret (d := .bl (isNum (.bl b) lo hi)) (GD.is (gd_and (gd_isT (gd_var rfl h0) hp) fun _ => gd_and (b := false) (gd_not (gd_isT (gd_var rfl h0) hp)) fun e => nomatch e) (by simp [isNum, D.isT])) k
          | _ => exact s_ret (d := .bl false) (GD.is (gd_and (b := false) (gd_isT (gd_var rfl h0) hp) fun e => by simp [D.isT] at e) (by simp [D.isT])) k
end
/-! words -/
abbrev letters : List Nat := (("abcdefghijklmnopqrstuvwxyz" : Str)).cps.toList
def isWordS (x : Str) : Bool := decide (1 ≤ x.length) && decide (x.length ≤ 8) && x.cps.toList.all fun c => decide (c ∈ letters)
def isWord : D → Bool
  | .str x => isWordS x
  | _ => false
def D.small : D → Bool
  | .str x => decide (x.length ≤ 50000)
  | .tup ds => decide (ds.length ≤ 50000)
  | .lst ds => decide (ds.length ≤ 50000)
  | _ => true
def signIn : D → D
  | .str z => .bl (match z.cps.toList with | [c] => decide (c ∈ letters) | _ => false)
  | _ => .non
/-! doors -/
def isDoor : D → Bool
  | .tup [w, p] => isNum w 1 99 && isNum p 1 4
  | _ => false
def doorPl : D → Int
  | .tup [_, .int p] => p
  | _ => 0
def isDoorOk : D → Bool
  | .tup ds => decide (ds.length ≤ 50000) && ds.all D.noob
  | .ptup _ => false
  | d => d.noob
def doorsFit : D → Bool
  | .tup ds => decide (1 ≤ ds.length) && decide (ds.length ≤ 4) && ds.all isDoor && decide ((ds.map doorPl).sum ≤ 6)
  | _ => false
def doorsOk : D → Bool
  | .tup ds => decide (ds.length ≤ 50000) && ds.all isDoorOk
  | .ptup _ => false
  | d => d.noob
structure Txt2 (K : Fg) (mg : Str → Option Value) : Prop extends Txt K mg where
  tuple : mg "tuple" = none
  sum : mg "sum" = none
  min : mg "min" = none
  zip : mg "zip" = none
  range : mg "range" = none
  m_MOST_DOORS : Cst mg "MOST_DOORS" (.int 4)
  m_MOST_WARMTH : Cst mg "MOST_WARMTH" (.int 99)
  m_MOST_BEHIND : Cst mg "MOST_BEHIND" (.int 4)
  m_MOST_PLACES : Cst mg "MOST_PLACES" (.int 6)
  m_MOST_CRATES : Cst mg "MOST_CRATES" (.int 5)
section
variable {P : Program} {w : World} {K : Fg} {mg : Str → Option Value} {base : Heap}
abbrev spIsWord (K : Fg) : Sp := spOf (α := D) K (fun a => [a]) (fun a => a.noob = true ∧ D.small a = true) fun a => .bl (isWord a)
theorem signs_map (x : Str) : (signs x).map signIn = (x.cps.toList.map fun c => decide (c ∈ letters)).map D.bl := by
  unfold signs
  rw [List.map_map, List.map_map]
  rfl
theorem ok_is_word {f : Addr} {fd : FuncData} (F : Fun K "is_word" "is_word" s_is_word f fd) (T : Txt K mg) : FnOk P w K mg base CX0 1 f fd ["value"] (spIsWord K) := by
  refine F.ok sc_is_word (fun vs H Q E h => ?_) (fun cdv A outer s H vs Q E hr h => ?_)
  · obtain ⟨a, h, _⟩ := h
    exact h.length
  · obtain ⟨d, hv, ⟨hp, hs⟩, k⟩ := h
    obtain ⟨v0, rfl, h0⟩ := hv.un1
    refine ⟨_, (pss_cons (ps_if (PW.pt (pw_or (pt_not (pt_val (pe_callB (isiK K) (by rfl) T.isinstance (by decide +kernel) (pa_cons (pv 0) (pa_cons (pe_ty (T := "str") T.str) pa_nil))))) (pw_or1 (pt_not (pt_chain op_le op_le pe_int (pe_callB (lenK K) (by rfl) T.len PySem.boot_len (pa_cons (pv 0) pa_nil)) (pe_gc T.m_LONGEST_WORD)))))) (pss_one (ps_ret pe_bl)) pss_nil)
      (pss_one (ps_ret (pe_callB (allK K) (by rfl) T.all (by decide +kernel) (pa_cons (pe_lc (own := [("letter", 1)]) (g := gName 1) rfl sc_is_word.nd (pi_str (pv 0)) (blkOk_by (own := [("letter", 1)]) (N := ["value", "letter"]) (sc := defScope s_is_word) (by decide +kernel)) (fun _ _ _ _ _ => (pg_name (i := 1) sc_is_word.nd rfl (Or.inl rfl))) (fun _ _ _ _ _ => pts_nil) (fun _ _ _ _ _ => (pe_cmpR op_in_sign (pv 1) (pe_gc T.m_LETTERS) rfl))) pa_nil))))), ?_⟩
    cases d with
    | str x =>
      have hl : x.length ≤ 50000 := by simpa [D.small] using hs
      refine s_when (gt_or (gt_not (gt_B (gd_isT (gd_var rfl h0) hp))) fun _ => gt_not (gt_test (gd_chain gd_i (gd_cb (ga1 (gd_var rfl h0)) (rc_len (n := x.length) rfl (by omega))) r_intB (gd_c (.int 8)) r_intB))) (fun e H1 e1 => ?_) fun e H1 e1 => ?_
      · refine s_ret (GD.is gd_b ?_) (k.up e1)
        simp [D.isT] at e
        simp only [isWord, isWordS]
        by_cases h1 : 1 ≤ x.length
        · have h2 : ¬ x.length ≤ 8 := by omega
          simp [h2]
        · simp [h1]
      · refine s_ret (d := .bl (isWord (.str x))) (GD.is (gd_cb (ga1 (GN.gd (GN.is (gn_map signIn (fun H2 e2 => gi_str (gd_var rfl ((h0.up e1).up e2))) (by simpa [signs] using (show x.cps.size ≤ 50000 from hl)) (fun _ => rfl) (fun d hd => ?_) (fun d y H2 hd e2 hy => ?_)) (signs_map x)))) rc_all) ?_) (k.up e1)
        · obtain ⟨c, _, rfl⟩ := List.mem_map.mp hd
          rfl
        · obtain ⟨c, _, rfl⟩ := List.mem_map.mp hd
          exact gd_op (gd_var rfl hy) (gd_c (.str _)) r_sign
        · simp [D.isT] at e
          simp only [isWord, isWordS, List.all_map]
          have h1 : 1 ≤ x.length := by omega
          have h2 : x.length ≤ 8 := by omega
          simp [h1, h2]
    | ob => cases hp
    | _ =>
      refine s_when (b := true) (GT.is (gt_or (b := true) (gt_not (gt_B (gd_isT (gd_var rfl h0) hp))) fun e => by simp [D.isT] at e) (by simp [D.isT])) (fun e H1 e1 => s_ret gd_b (k.up e1)) fun e => nomatch e
theorem all_bl {ds : List D} (f : D → Bool) : ds.map (fun d => D.bl (f d)) = (ds.map f).map D.bl := by rw [List.map_map]; rfl
theorem all_id {ds : List D} (f : D → Bool) : (ds.map f).all id = ds.all f := by rw [List.all_map]; rfl
theorem sum_int {ds : List D} (f : D → Int) : ds.map (fun d => D.int (f d)) = (ds.map f).map D.int := by rw [List.map_map]; rfl
theorem eqv_int (i j : Int) : (D.int i).eqv (.int j) = (i == j) := by unfold D.eqv; simp [D.py, PyData.eqv]
theorem r_neI {i j : Int} : R2D K (rNeD K) (.int i) (.int j) (.bl (!(i == j))) := by
  have h := r_ne (K := K) (d := .int i) (e := .int j) rfl rfl (by rfl) (by rfl)
  rw [eqv_int] at h
  exact h
theorem r_eqI {i j : Int} : R2D K (rEqD K) (.int i) (.int j) (.bl (i == j)) := by
  have h := r_eq (K := K) (d := .int i) (e := .int j) rfl rfl (by rfl) (by rfl)
  rw [eqv_int] at h
  exact h
abbrev spIsDoor (K : Fg) : Sp := spOf (α := D) K (fun a => [a]) (fun a => isDoorOk a = true) fun a => .bl (isDoor a)
theorem ok_is_door {f : Addr} {fd : FuncData} (F : Fun K "is_door" "is_door" s_is_door f fd) (T : Txt2 K mg) (C_is_number : Cal P w K mg base CX0 1 "is_number" ["value", "low", "high"] (spIsNumber K)) : FnOk P w K mg base CX0 2 f fd ["value"] (spIsDoor K) := by
  refine F.ok sc_is_door (fun vs H Q E h => ?_) (fun cdv A outer s H vs Q E hr h => ?_)
  · obtain ⟨a, h, _⟩ := h
    exact h.length
  · obtain ⟨d, hv, hp, k⟩ := h
    obtain ⟨v0, rfl, h0⟩ := hv.un1
    refine ⟨_, (pss_cons (ps_if (PW.pt (pw_or (pt_not (pt_val (pe_callB (isiK K) (by rfl) T.isinstance (by decide +kernel) (pa_cons (pv 0) (pa_cons (pe_ty (T := "tuple") T.tuple) pa_nil))))) (pw_or1 (pt_cmpR (neK K hr.units) (pe_callB (lenK K) (by rfl) T.len PySem.boot_len (pa_cons (pv 0) pa_nil)) pe_int (nomark _))))) (pss_one (ps_ret pe_bl)) pss_nil)
      (pss_one (ps_ret (pe_and (pe_cal C_is_number hr pass0 (pa_cons (pe_ix (ixT K) (pv 0) pe_int (fun _ _ => rfl)) (pa_cons pe_int (pa_cons (pe_gc T.m_MOST_WARMTH) pa_nil)))) (pe_one (pe_cal C_is_number hr pass0 (pa_cons (pe_ix (ixT K) (pv 0) pe_int (fun _ _ => rfl)) (pa_cons pe_int (pa_cons (pe_gc T.m_MOST_BEHIND) pa_nil))))))))), ?_⟩
    cases d with
    | ptup ds => cases hp
    | tup ds =>
      simp [isDoorOk] at hp
      obtain ⟨hl, hn⟩ := hp
      refine s_when (gt_or (gt_not (gt_B (gd_isT (gd_var rfl h0) rfl))) fun _ => gt_test (gd_op (gd_cb (ga1 (gd_var rfl h0)) (rc_len (n := ds.length) rfl (by omega))) gd_i r_neI)) (fun e H1 e1 => ?_) fun e H1 e1 => ?_
      · refine s_ret (GD.is gd_b ?_) (k.up e1)
        simp [D.isT] at e
        have : isDoor (.tup ds) = false := by
          match ds, e with
          | [], _ => rfl
          | [_], _ => rfl
          | [_, _], e => simp at e
          | _ :: _ :: _ :: _, _ => rfl
        simp [this]
      · simp [D.isT] at e
        match ds, e with
        | [a, b], _ =>
          dsimp only
          refine s_retK (k.up e1) ?_
          exact GD.is (gd_and (gd_call (a, 1, 99) (ga_cons (gd_op (gd_var rfl (h0.up e1)) gd_i (r_ixT (z := a) rfl)) (ga2 gd_i (gd_c (.int 99)))) (hn a (by simp))) fun _ => gd_call (b, 1, 4) (ga_cons (gd_op (gd_var rfl (h0.up e1)) gd_i (r_ixT (z := b) rfl)) (ga2 gd_i (gd_c (.int 4)))) (hn b (by simp))) rfl
        | [], e => simp at e
        | [_], e => simp at e
        | _ :: _ :: _ :: _, e => simp at e; omega
    | ob => cases hp
    | _ =>
      refine s_when (b := true) (GT.is (gt_or (b := true) (gt_not (gt_B (gd_isT (gd_var rfl h0) rfl))) fun e => by simp [D.isT] at e) (by simp [D.isT])) (fun e H1 e1 => s_ret gd_b (k.up e1)) fun e => nomatch e
abbrev spDoorsFit (K : Fg) : Sp := spOf (α := D) K (fun a => [a]) (fun a => doorsOk a = true) fun a => .bl (doorsFit a)
theorem ok_doors_fit {f : Addr} {fd : FuncData} (F : Fun K "doors_fit" "doors_fit" s_doors_fit f fd) (T : Txt2 K mg) (C_is_door : Cal P w K mg base CX0 2 "is_door" ["value"] (spIsDoor K)) : FnOk P w K mg base CX0 3 f fd ["doors"] (spDoorsFit K) := by
  refine F.ok sc_doors_fit (fun vs H Q E h => ?_) (fun cdv A outer s H vs Q E hr h => ?_)
  · obtain ⟨a, h, _⟩ := h
    exact h.length
  · obtain ⟨d, hv, hp, k⟩ := h
    obtain ⟨v0, rfl, h0⟩ := hv.un1
    refine ⟨_, (pss_cons (ps_if (PW.pt (pw_or (pt_not (pt_val (pe_callB (isiK K) (by rfl) T.isinstance (by decide +kernel) (pa_cons (pv 0) (pa_cons (pe_ty (T := "tuple") T.tuple) pa_nil))))) (pw_or1 (pt_not (pt_chain op_le op_le pe_int (pe_callB (lenK K) (by rfl) T.len PySem.boot_len (pa_cons (pv 0) pa_nil)) (pe_gc T.m_MOST_DOORS)))))) (pss_one (ps_ret pe_bl)) pss_nil)
      (pss_cons (ps_if (pt_not (pt_val (pe_callB (allK K) (by rfl) T.all (by decide +kernel) (pa_cons (pe_lc (own := [("door", 1)]) (g := gName 1) rfl sc_doors_fit.nd (pi_tK K (pv 0)) (blkOk_by (own := [("door", 1)]) (N := ["doors", "door"]) (sc := defScope s_doors_fit) (by decide +kernel)) (fun _ _ _ _ _ => (pg_name (i := 1) sc_doors_fit.nd rfl (Or.inl rfl))) (fun _ _ _ _ _ => pts_nil) (fun _ _ _ _ _ => (pe_cal C_is_door hr pass0 (pa_cons (pv 1) pa_nil)))) pa_nil)))) (pss_one (ps_ret pe_bl)) pss_nil)
      (pss_one (ps_ret (pe_cmpR op_le (pe_callB (sumK K) (by rfl) T.sum (by decide +kernel) (pa_cons (pe_lc (own := [("door", 1)]) (g := gName 1) rfl sc_doors_fit.nd (pi_tK K (pv 0)) (blkOk_by (own := [("door", 1)]) (N := ["doors", "door"]) (sc := defScope s_doors_fit) (by decide +kernel)) (fun _ _ _ _ _ => (pg_name (i := 1) sc_doors_fit.nd rfl (Or.inl rfl))) (fun _ _ _ _ _ => pts_nil) (fun _ _ _ _ _ => (pe_ix (ixT K) (pv 1) pe_int (fun _ _ => rfl)))) pa_nil)) (pe_gc T.m_MOST_PLACES) (nomark _)))))), ?_⟩
    cases d with
    | ptup ds => cases hp
    | tup ds =>
      simp [doorsOk] at hp
      obtain ⟨hl, hn⟩ := hp
      refine s_when (gt_or (gt_not (gt_B (gd_isT (gd_var rfl h0) rfl))) fun _ => gt_not (gt_test (gd_chain gd_i (gd_cb (ga1 (gd_var rfl h0)) (rc_len (n := ds.length) rfl (by omega))) r_intB (gd_c (.int 4)) r_intB))) (fun e H1 e1 => ?_) fun e H1 e1 => ?_
      · refine s_ret (GD.is gd_b ?_) (k.up e1)
        simp [D.isT] at e
        simp only [doorsFit]
        by_cases c : 1 ≤ ds.length
        · have : ¬ ds.length ≤ 4 := by omega
          simp [this]
        · simp [c]
      · simp [D.isT] at e
        refine s_when (gt_not (gt_B (gd_cb (ga1 (GN.gd (GN.is (gn_map (fun d => .bl (isDoor d)) (fun H2 e2 => gi_tupC (gd_var rfl ((h0.up e1).up e2))) hl (fun _ => rfl) (fun d hd => rfl) (fun d y H2 hd e2 hy => gd_call d (ga1 (gd_var rfl hy)) (hn d hd))) (all_bl isDoor)))) rc_all))) (fun e3 H2 e2 => ?_) fun e3 H2 e2 => ?_
        · refine s_ret (GD.is gd_b ?_) ((k.up e1).up e2)
          rw [all_id] at e3
          have : ds.all isDoor = false := by simpa using e3
          simp [doorsFit, this]
        · rw [all_id] at e3
          have had : ds.all isDoor = true := by simpa using e3
          refine s_ret (GD.is (gd_op (gd_cb (ga1 (GN.gd (GN.is (gn_map (fun d => .int (doorPl d)) (fun H3 e3 => gi_tupC (gd_var rfl (((h0.up e1).up e2).up e3))) hl (fun _ => rfl) (fun d hd => rfl) (fun d y H3 hd e3 hy => ?_)) (sum_int doorPl)))) rc_sum) (gd_c (.int 6)) r_intB) ?_) ((k.up e1).up e2)
          · have hd' := List.all_eq_true.mp had d hd
            unfold isDoor at hd'
            split at hd'
            · rename_i w p
              cases p with
              | int p => exact gd_op (gd_var rfl hy) gd_i (r_ixT (z := .int p) rfl)
              | _ => simp [isNum] at hd'
            · cases hd'
          · have h1 : 1 ≤ ds.length := by omega
            have h2 : ds.length ≤ 4 := by omega
            simp [doorsFit, h1, h2, had]
    | ob => cases hp
    | _ =>
      refine s_when (b := true) (GT.is (gt_or (b := true) (gt_not (gt_B (gd_isT (gd_var rfl h0) rfl))) fun e => by simp [D.isT] at e) (by simp [D.isT])) (fun e H1 e1 => s_ret gd_b (k.up e1)) fun e => nomatch e
end
end My

namespace My
open PySem L2 RZ Cc
/-! crates -/
def ltS (a b : D) : Bool := match a, b with
  | .str x, .str y => decide (x.cps.toList < y.cps.toList)
  | _, _ => false
def cratesFit (d : D) (n : Int) : Bool := match d with
  | .tup ds => decide (1 ≤ ds.length) && decide ((ds.length : Int) ≤ min 5 n) && ds.all isWord && (ds.zip (ds.drop 1)).all fun p => ltS p.1 p.2
  | _ => false
def wordOk (d : D) : Bool := d.noob && D.small d
def cratesOk : D → Bool
  | .tup ds => decide (ds.length ≤ 50000) && ds.all wordOk
  | .ptup _ => false
  | d => d.noob
/-- the places behind each door -/
def placesFrom : Int → List (Int × Int) → List D
  | _, [] => []
  | b, p :: r => .tup ((List.range p.2.toNat).map fun k => .int (b + (k : Nat))) :: placesFrom (b + p.2) r
def doorD (p : Int × Int) : D := .tup [.int p.1, .int p.2]
def doorsD (l : List (Int × Int)) : D := .tup (l.map doorD)
def sizeOf (l : List (Int × Int)) : Int := (l.map (·.2)).sum
structure GoodDoors (l : List (Int × Int)) : Prop where
  lo : 1 ≤ l.length
  hi : l.length ≤ 4
  each : ∀ p ∈ l, 1 ≤ p.1 ∧ p.1 ≤ 99 ∧ 1 ≤ p.2 ∧ p.2 ≤ 4
  size : sizeOf l ≤ 6
theorem isDoor_iff {d : D} (h : isDoor d = true) : ∃ p : Int × Int, d = doorD p ∧ 1 ≤ p.1 ∧ p.1 ≤ 99 ∧ 1 ≤ p.2 ∧ p.2 ≤ 4 := by
  unfold isDoor at h
  split at h
  · rename_i w p
    cases w <;> cases p <;> simp [isNum] at h
    rename_i i j
    exact ⟨(i, j), rfl, h.1.1, h.1.2, h.2.1, h.2.2⟩
  · cases h
theorem doors_iff {ds : List D} (h : ∀ d ∈ ds, isDoor d = true) : ∃ l : List (Int × Int), ds = l.map doorD ∧ ∀ p ∈ l, 1 ≤ p.1 ∧ p.1 ≤ 99 ∧ 1 ≤ p.2 ∧ p.2 ≤ 4 := by
  induction ds with
  | nil => exact ⟨[], rfl, fun p hp => absurd hp (by simp)⟩
  | cons d ds ih =>
    obtain ⟨l, rfl, hl⟩ := ih fun e he => h e (List.mem_cons_of_mem _ he)
    obtain ⟨p, rfl, hp⟩ := isDoor_iff (h d List.mem_cons_self)
    refine ⟨p :: l, rfl, fun q hq => ?_⟩
    rcases List.mem_cons.mp hq with e | hq
    · rw [e]; exact hp
    · exact hl q hq
theorem doorsFit_iff {d : D} (h : doorsFit d = true) : ∃ l, d = doorsD l ∧ GoodDoors l := by
  unfold doorsFit at h
  split at h
  · rename_i ds
    simp only [Bool.and_eq_true, decide_eq_true_eq, List.all_eq_true] at h
    obtain ⟨⟨⟨h1, h2⟩, h3⟩, h4⟩ := h
    obtain ⟨l, rfl, hl⟩ := doors_iff h3
    have e : (l.map doorD).map doorPl = l.map (·.2) := by rw [List.map_map]; rfl
    rw [e] at h4
    exact ⟨l, rfl, ⟨by simpa using h1, by simpa using h2, hl, h4⟩⟩
  · cases h
section
variable {P : Program} {w : World} {K : Fg} {mg : Str → Option Value} {base : Heap}
abbrev spCratesFit (K : Fg) : Sp := spOf (α := D × Int) K (fun a => [a.1, .int a.2]) (fun a => cratesOk a.1 = true) fun a => .bl (cratesFit a.1 a.2)
theorem r_ltS {x y : Str} {K : Fg} : R2D K (fun x y H Q => ∃ i j, x = .str i ∧ y = .str j ∧ Q (.bl (decide (i.cps.toList < j.cps.toList))) H) (.str x) (.str y) (.bl (ltS (.str x) (.str y))) := fun v w H Q hx hy q => by
  cases hx; cases hy
  exact ⟨x, y, rfl, rfl, q _ H (Same.refl _) (.bl _)⟩
theorem ok_crates_fit {f : Addr} {fd : FuncData} (F : Fun K "crates_fit" "crates_fit" s_crates_fit f fd) (T : Txt2 K mg) (C_is_word : Cal P w K mg base CX0 1 "is_word" ["value"] (spIsWord K)) : FnOk P w K mg base CX0 3 f fd ["crates", "size"] (spCratesFit K) := by
  refine F.ok sc_crates_fit (fun vs H Q E h => ?_) (fun cdv A outer s H vs Q E hr h => ?_)
  · obtain ⟨a, h, _⟩ := h
    exact h.length
  · obtain ⟨⟨d, n⟩, hv, hp, k⟩ := h
    obtain ⟨v0, v1, rfl, h0, h1⟩ := hv.un2
    refine ⟨_, (pss_cons (ps_if (PW.pt (pw_or (pt_not (pt_val (pe_callB (isiK K) (by rfl) T.isinstance (by decide +kernel) (pa_cons (pv 0) (pa_cons (pe_ty (T := "tuple") T.tuple) pa_nil))))) (pw_or1 (pt_not (pt_chain op_le op_le pe_int (pe_callB (lenK K) (by rfl) T.len PySem.boot_len (pa_cons (pv 0) pa_nil)) (pe_callB (call_min2 rfl) (by rfl) T.min (by decide +kernel) (pa_cons (pe_gc T.m_MOST_CRATES) (pa_cons (pv 1) pa_nil)))))))) (pss_one (ps_ret pe_bl)) pss_nil)
      (pss_cons (ps_if (pt_not (pt_val (pe_callB (allK K) (by rfl) T.all (by decide +kernel) (pa_cons (pe_lc (own := [("name", 4)]) (g := gName 4) rfl sc_crates_fit.nd (pi_tK K (pv 0)) (blkOk_by (own := [("name", 4)]) (N := ["crates", "size", "one", "other", "name"]) (sc := defScope s_crates_fit) (by decide +kernel)) (fun _ _ _ _ _ => (pg_name (i := 4) sc_crates_fit.nd rfl (Or.inl rfl))) (fun _ _ _ _ _ => pts_nil) (fun _ _ _ _ _ => (pe_cal C_is_word hr pass0 (pa_cons (pv 4) pa_nil)))) pa_nil)))) (pss_one (ps_ret pe_bl)) pss_nil)
      (pss_one (ps_ret (pe_callB (allK K) (by rfl) T.all (by decide +kernel) (pa_cons (pe_lc (own := [("one", 2), ("other", 3)]) rfl sc_crates_fit.nd (pi_zK K T.zip (pa_cons (pv 0) (pa_cons (pe_slice (slT K) (pv 0) (po_some pe_int) po_none) pa_nil))) (blkOk_by (own := [("one", 2), ("other", 3)]) (N := ["crates", "size", "one", "other", "name"]) (sc := defScope s_crates_fit) (by decide +kernel)) (fun _ _ _ _ _ => (pg_tK K (n := 2) rfl (pgs_cons (pg_name (i := 2) sc_crates_fit.nd rfl (Or.inl rfl)) (pgs_cons (pg_name (i := 3) sc_crates_fit.nd rfl (Or.inl rfl)) pgs_nil)))) (fun _ _ _ _ _ => pts_nil) (fun _ _ _ _ _ => (pe_cmpR op_lt_str (pv 2) (pv 3) (nomark _)))) pa_nil)))))), ?_⟩
    cases d with
    | ptup ds => cases hp
    | tup ds =>
      simp [cratesOk] at hp
      obtain ⟨hl, hn⟩ := hp
      refine s_when (gt_or (gt_not (gt_B (gd_isT (gd_var rfl h0) rfl))) fun _ => gt_not (gt_test (gd_chain gd_i (gd_cb (ga1 (gd_var rfl h0)) (rc_len (n := ds.length) rfl (by omega))) r_intB (gd_cb (ga2 (gd_c (.int 5)) (gd_var rfl h1)) rc_min2) r_intB))) (fun e H1 e1 => ?_) fun e H1 e1 => ?_
      · refine s_retK (k.up e1) (GD.is gd_b ?_)
        simp only [D.isT] at e
        simp only [cratesFit]
        by_cases c : (1 : Int) ≤ ds.length
        · have : ¬ (ds.length : Int) ≤ min 5 n := by
            intro h
            simp [c, h] at e
          simp [this]
        · have : ¬ 1 ≤ ds.length := by omega
          simp [this]
      · have hb : 1 ≤ ds.length ∧ (ds.length : Int) ≤ min 5 n := by
          simp [D.isT] at e
          omega
        refine s_when (gt_not (gt_B (gd_cb (ga1 (GN.gd (GN.is (gn_map (fun d => .bl (isWord d)) (fun H2 e2 => gi_tupC (gd_var rfl ((h0.up e1).up e2))) hl (fun _ => rfl) (fun d hd => rfl) (fun d y H2 hd e2 hy => gd_call d (ga1 (gd_var rfl hy)) ?_)) (all_bl isWord)))) rc_all))) (fun e3 H2 e2 => ?_) fun e3 H2 e2 => ?_
        · have := hn d hd
          simpa [wordOk] using this
        · refine s_retK ((k.up e1).up e2) (GD.is gd_b ?_)
          rw [all_id] at e3
          have : ds.all isWord = false := by simpa using e3
          simp [cratesFit, this]
        · rw [all_id] at e3
          have haw : ds.all isWord = true := by simpa using e3
          dsimp only
          refine s_retK ((k.up e1).up e2) (GD.is (gd_cb (ga1 (GN.gd (GN.is (gn_zipT (fun p => .bl (ltS p.1 p.2)) (ga2 (gd_var rfl ((h0.up e1).up e2)) (gd_slT (gd_var rfl ((h0.up e1).up e2)) (go_some (K := K) gd_i) go_none)) hl (fun _ _ => rfl) (fun p hp => rfl) (fun p x y H3 hp e3 hx hy => ?_)) (es := ((ds.zip (cutD ds (some 1) none)).map fun p => ltS p.1 p.2).map D.bl) ?_))) rc_all) ?_)
          · have hmem := List.of_mem_zip hp
            obtain ⟨c1, c2⟩ := p
            have w1 := List.all_eq_true.mp haw c1 hmem.1
            have w2 := List.all_eq_true.mp haw c2 (List.mem_of_mem_drop (List.mem_of_mem_take hmem.2))
            cases c1 <;> cases c2 <;> first | cases w1 | cases w2 | skip
            exact gd_op (gd_var rfl hx) (gd_var rfl hy) r_ltS
          · rw [List.map_map]; rfl
          · have hc : cutD ds (some 1) none = ds.drop 1 := by
              unfold cutD
              rw [HT.sIx_none, show HT.sIx ds.length 0 (some 1) = 1 from by
                rw [show (some (1 : Int)) = some ((1 : Nat) : Int) from rfl, HT.sIx_nat]; omega]
              rw [List.take_of_length_le (by rw [List.length_drop]; omega)]
            rw [hc, List.all_map]
            have h3 : 1 ≤ ds.length := hb.1
            have h4 := hb.2
            simp only [cratesFit, haw, h4, h3, decide_true, Bool.true_and]
            rfl
    | ob => cases hp
    | _ =>
      refine s_when (b := true) (GT.is (gt_or (b := true) (gt_not (gt_B (gd_isT (gd_var rfl h0) rfl))) fun e => by simp [D.isT] at e) (by simp [D.isT])) (fun e H1 e1 => s_ret gd_b (k.up e1)) fun e => nomatch e
theorem placesFrom_app (x : Int × Int) : ∀ (l : List (Int × Int)) (b : Int), placesFrom b (l ++ [x]) = placesFrom b l ++ [.tup ((List.range x.2.toNat).map fun k => .int (b + sizeOf l + (k : Nat)))]
  | [], b => by simp [placesFrom, sizeOf]
  | p :: r, b => by
    have ih := placesFrom_app x r (b + p.2)
    simp only [List.cons_append, placesFrom, ih]
    have e : b + p.2 + sizeOf r = b + sizeOf (p :: r) := by simp [sizeOf]; omega
    rw [e]
theorem sizeOf_app (l : List (Int × Int)) (x : Int × Int) : sizeOf (l ++ [x]) = sizeOf l + x.2 := by simp [sizeOf]
theorem fixs_places : ∀ (l : List (Int × Int)) (b : Int), D.fixs (placesFrom b l) = true
  | [], _ => rfl
  | p :: r, b => by
    have h : D.fixs ((List.range p.2.toNat).map fun k => D.int (b + (k : Nat))) = true := D.fixs_iff.mpr fun d hd => by
      obtain ⟨k, _, rfl⟩ := List.mem_map.mp hd
      rfl
    simp only [placesFrom, D.fixs, D.fix, fixs_places r, h, Bool.and_self]
theorem fixs_doors (l : List (Int × Int)) : D.fixs (l.map doorD) = true := D.fixs_iff.mpr fun d hd => by
  obtain ⟨k, _, rfl⟩ := List.mem_map.mp hd
  rfl
theorem sizeOf_bd {l : List (Int × Int)} (h : ∀ p ∈ l, 0 ≤ p.2 ∧ p.2 ≤ 100) (hl : l.length ≤ 100) (i : Nat) : 0 ≤ sizeOf (l.take i) ∧ sizeOf (l.take i) ≤ 10000 := by
  have key : ∀ m : List (Int × Int), (∀ p ∈ m, 0 ≤ p.2 ∧ p.2 ≤ 100) → 0 ≤ sizeOf m ∧ sizeOf m ≤ 100 * m.length := by
    intro m
    induction m with
    | nil => intro _; simp [sizeOf]
    | cons p m ih =>
      intro hm
      have h1 := hm p List.mem_cons_self
      have h2 := ih fun q hq => hm q (List.mem_cons_of_mem _ hq)
      simp only [sizeOf, List.map_cons, List.sum_cons, List.length_cons] at h2 ⊢
      omega
  have := key (l.take i) fun p hp => h p (List.mem_of_mem_take hp)
  have h2 : (l.take i).length ≤ 100 := by rw [List.length_take]; omega
  omega
abbrev spPlacesBehind (K : Fg) : Sp := spOf (α := List (Int × Int)) K (fun l => [doorsD l]) (fun l => l.length ≤ 100 ∧ ∀ p ∈ l, 0 ≤ p.2 ∧ p.2 ≤ 100) fun l => .tup (placesFrom 0 l)
theorem ok_places_behind {f : Addr} {fd : FuncData} (F : Fun K "places_behind" "places_behind" s_places_behind f fd) (T : Txt2 K mg) : FnOk P w K mg base CX0 1 f fd ["doors"] (spPlacesBehind K) := by
  refine F.ok sc_places_behind (fun vs H Q E h => ?_) (fun cdv A outer s H vs Q E hr h => ?_)
  · obtain ⟨a, h, _⟩ := h
    exact h.length
  · obtain ⟨l, hv, ⟨hl, hb⟩, k⟩ := h
    obtain ⟨v0, rfl, h0⟩ := hv.un1
    refine ⟨_, (pss_cons (ps_set (i := 1) sc_places_behind.nd rfl (Or.inl rfl) (pe_lst pa_nil))
      (pss_cons (ps_set (i := 2) sc_places_behind.nd rfl (Or.inl rfl) pe_int)
      (pss_cons (ps_for PassesOwn.never rfl (pi_tK K (pv 0)) (pg_name (i := 3) sc_places_behind.nd rfl (Or.inl rfl)) (pss_cons (ps_set (i := 4) sc_places_behind.nd rfl (Or.inl rfl) (pe_op op_add (pv 2) (pe_ix (ixT K) (pv 3) pe_int (fun _ _ => rfl))))
      (pss_cons (ps_expr (pe_bm PySem.F.plainAttrs_list PySem.F.slot_list_append PySem.F.type_list_append mt_append (pv 1) (pa_cons (pe_tupRg rfl (by rfl) T.tuple (prg_2 (by rfl) T.range (pv 2) (pv 4))) pa_nil)))
      (pss_one (ps_set (i := 2) sc_places_behind.nd rfl (Or.inl rfl) (pv 4))))))
      (pss_one (ps_ret (pe_callTy (tupK K) (by rfl) T.tuple (by decide +kernel) (pa_cons (pv 1) pa_nil))))))), ?_⟩
    refine s_asgN (K := K) (gn_lst ga_nil (by simp)) fun p xs H1 hp e1 hx hd => ?_
    cases hd
    dsimp only
    refine s_asg (K := K) gd_i fun v2 H2 e2 hv2 => ?_
    cases hv2
    have hx2 := e2 _ _ hx
    dsimp only
    refine s_for (M := [p]) (ds := l.map doorD) (gi_tup (gd_var rfl ((h0.up e1).up e2)) (ls_one hx2) (fixs_doors l)) fun H3 e3 =>
      ⟨fun i σ' H' => ∃ b ys v3 v4, σ' = [some v0, some (.ref p), some (.int b), v3, v4] ∧ b = sizeOf (l.take i) ∧ But [p] H3 H' ∧ H' p = some (.lst ys) ∧ Dns K H' ys (placesFrom 0 (l.take i)),
      ⟨0, [], none, none, rfl, by simp [sizeOf], But.refl _ _, e3 _ _ hx2, .nil⟩, fun i σ' H' ⟨_, _, _, _, _, _, q, _⟩ => q, ?_, ?_, ?_⟩
    · rintro i σ' H' H'' e ⟨b, ys, v3, v4, rfl, hbe, hbut, hp', hys⟩
      exact ⟨b, ys, v3, v4, rfl, hbe, hbut.trans (.of e), e _ _ hp', hys.up e⟩
    · rintro i d x σ' H' hd' hx' ⟨b, ys, v3, v4, rfl, hbe, hbut, hp', hys⟩
      rw [List.getElem?_map] at hd'
      obtain ⟨q, hq, rfl⟩ := Option.map_eq_some_iff.mp hd'
      have htk : l.take (i + 1) = l.take i ++ [q] := by rw [List.take_add_one, hq]; rfl
      have hbd := sizeOf_bd hb hl i
      have hqb := hb q (List.mem_of_getElem? hq)
      have hne : i ≤ 100 := by
        have := (List.getElem?_eq_some_iff.mp hq).1
        omega
      dsimp only [gName]
      refine s_asg (K := K) (gd_op (gd_var rfl (.int b)) (gd_op (gd_var rfl hx') gd_i (r_ixT (z := .int q.2) rfl)) r_int) fun w H4 e4 hw => ?_
      cases hw
      dsimp only
      refine s_app (K := K) (e4 _ _ hp') (at_var rfl) (gd_tupRg2 (gd_var rfl (.int b)) (gd_var rfl (.int (b + q.2))) (RgOk.of_le (by omega) (by omega) (by omega) (by omega))) ?_ fun w H5 e5 hw => ?_
      · have h1 := hys.length
        have h2 : (placesFrom 0 (l.take i)).length ≤ 100 := by
          have : ∀ (m : List (Int × Int)) (b : Int), (placesFrom b m).length = m.length := by
            intro m
            induction m with
            | nil => intro b; rfl
            | cons p m ih => intro b; simp [placesFrom, ih]
          rw [this, List.length_take]
          omega
        omega
      · have h45 := (e4.trans e5) _ _ hp'
        dsimp only
        refine s_asg (K := K) (gd_var rfl (.int (b + q.2))) fun w2 H6 e6 hw2 => ?_
        cases hw2
        refine ⟨b + q.2, _, _, _, rfl, by rw [htk, sizeOf_app, hbe], (hbut.trans (.of (e4.trans e5))).trans ((But.upd (by simp)).trans (.of e6)), e6 _ _ upd_same, ?_⟩
        rw [htk, placesFrom_app]
        have e : b + q.2 - b = q.2 := by omega
        rw [e, hbe] at hw
        have z : (0 : Int) + sizeOf (l.take i) = sizeOf (l.take i) := by omega
        rw [z]
        refine Dns.up (Dns.app ((hys.up (e4.trans e5)).keep (Kp.upd h45 rfl) (fixs_places _ _)) (.cons (hw.keep (Kp.upd h45 rfl) ?_) .nil)) e6
        exact D.fixs_iff.mpr fun d hd => by
          obtain ⟨k, _, rfl⟩ := List.mem_map.mp hd
          rfl
    · rintro σ' H' ⟨b, ys, v3, v4, rfl, hbe, hbut, hp', hys⟩
      rw [List.length_map, List.take_length] at hys
      have hs : Same H H' := But.fresh ((e1.trans e2).trans e3) hbut fun m hm => by rw [List.mem_singleton.mp hm]; exact hp
      dsimp only
      exact s_retK (k.up hs) (gd_cb (ga1 (gd_var rfl (.lst hp' hys))) (rc_tuple (.inl rfl) (fixs_places _ _)))
end
end My

namespace My
open PySem L2 RZ Cc
/-! the row of draws: the script, how many were taken, the generator's state, what is left of a great number -/
def Ind (K : Fg) (S : Addr × List Int) (r : Addr) : Prop := S.1 ≠ r ∨ ∀ H', SqL K H' S.1 (S.2.map V.int)
def Row (K : Fg) (S : Addr × List Int) (H : Hp) (r : Addr) : Prop := ∃ (pos rng rest : Int), H r = some (.lst [.ref S.1, .int pos, .int rng, .int rest]) ∧ SqL K H S.1 (S.2.map V.int) ∧ Ind K S r ∧ S.2.length ≤ 63 ∧ 0 ≤ pos
theorem ind_new {K : Fg} {S : Addr × List Int} {H : Hp} {p : Addr} (h : SqL K H S.1 (S.2.map V.int)) (hp : H p = none) : Ind K S p := by
  rcases h with (h | ⟨o, h⟩) | h
  · exact .inl (ne_of_none h hp)
  · exact .inl (ne_of_none h hp)
  · exact .inr fun H' => .inr h
theorem Row.up {K : Fg} {H H' : Hp} {r : Addr} {S : Addr × List Int} (h : Row K S H r) (e : Same H H') : Row K S H' r := by
  obtain ⟨pos, rng, rest, h1, h2, h3, h4⟩ := h
  exact ⟨pos, rng, rest, e _ _ h1, same_l e h2, h3, h4⟩
theorem Row.ls {K : Fg} {H : Hp} {r : Addr} {S : Addr × List Int} (h : Row K S H r) : Ls [r] H := by
  obtain ⟨pos, rng, rest, h1, _⟩ := h
  exact ls_one h1
/-- a draw: some number below the bound -/
def spTaken (K : Fg) : Sp := fun vs H Q _ => ∃ (S : Addr × List Int) (r : Addr) (n : Int), vs = [.ref r, .int n] ∧ Row K S H r ∧ 0 < n ∧ n < 1073741824 ∧ ∀ k H', 0 ≤ k → k < n → But [r] H H' → Row K S H' r → Q (.int k) H'
structure Txt3 (K : Fg) (mg : Str → Option Value) : Prop extends Txt2 K mg
theorem lkeep {K : Fg} {H : Hp} {S : Addr × List Int} {r : Addr} {ys : List V} (h : SqL K H S.1 (S.2.map V.int)) (hne : Ind K S r) : SqL K (upd H r (.lst ys)) S.1 (S.2.map V.int) := by
  rcases hne with hne | hne
  case inr => exact hne _
  rcases h with (h | ⟨o, h⟩) | h
  · exact .inl (.inl (by rw [upd_ne hne]; exact h))
  · exact .inl (.inr ⟨o, by rw [upd_ne hne]; exact h⟩)
  · exact .inr h
section
variable {P : Program} {w : World} {K : Fg} {mg : Str → Option Value} {base : Heap}
theorem ok_taken {f : Addr} {fd : FuncData} (F : Fun K "_law_taken" "_law_taken" s__law_taken f fd) (T : Txt2 K mg) : FnOk P w K mg base CX0 1 f fd ["_law_row", "_law_many"] (spTaken K) := by
  refine F.ok sc__law_taken (fun vs H Q E h => ?_) (fun cdv A outer s H vs Q E hr h => ?_)
  · obtain ⟨S, r, n, rfl, _⟩ := h
    rfl
  · obtain ⟨⟨a, ns⟩, r, n, rfl, ⟨pos, rng, rest, hr0, hs, hne, hl, hp⟩, hn, hn2, k⟩ := h
    dsimp only at hr0 hs hl
    refine ⟨_, (pss_cons (ps_if (pt_cmpR op_gt (pe_ix (ixL K) (pv 0) pe_int (fun _ _ => rfl)) pe_int (nomark _)) (pss_cons (ps_set (i := 2) sc__law_taken.nd rfl (Or.inl rfl) (pe_op op_mod (pe_callTy call_int1 (by rfl) T.int (by decide +kernel) (pa_cons (pe_ix (ixL K) (pv 0) pe_int (fun _ _ => rfl)) pa_nil)) (pv 1)))
      (pss_cons (ps_asg (pe_op op_fdiv (pe_ix (ixL K) (pv 0) pe_int (fun _ _ => rfl)) (pv 1)) (pg_sub (pv 0) pe_int set_list))
      (pss_one (ps_ret (pv 2))))) pss_nil)
      (pss_cons (ps_asg (pe_op op_add (pe_ix (ixL K) (pv 0) pe_int (fun _ _ => rfl)) pe_int) (pg_sub (pv 0) pe_int set_list))
      (pss_cons (ps_if (pt_cmpR op_gt (pe_ix (ixL K) (pv 0) pe_int (fun _ _ => rfl)) (pe_callB (lenK K) (by rfl) T.len PySem.boot_len (pa_cons (pe_ix (ixL K) (pv 0) pe_int (fun _ _ => rfl)) pa_nil)) (nomark _)) (pss_cons (ps_asg (pe_op op_mod (pe_callTy call_int1 (by rfl) T.int (by decide +kernel) (pa_cons (pe_op op_add (pe_op op_mul (pe_ix (ixL K) (pv 0) pe_int (fun _ _ => rfl)) pe_int) pe_int) pa_nil)) pe_int) (pg_sub (pv 0) pe_int set_list))
      (pss_one (ps_ret (pe_op op_mod (pe_callTy call_int1 (by rfl) T.int (by decide +kernel) (pa_cons (pe_op op_fdiv (pe_ix (ixL K) (pv 0) pe_int (fun _ _ => rfl)) pe_int) pa_nil)) (pv 1))))) pss_nil)
      (pss_cons (ps_set (i := 3) sc__law_taken.nd rfl (Or.inl rfl) (pe_ix (ixA K) (pe_ix (ixL K) (pv 0) pe_int (fun _ _ => rfl)) (pe_op op_sub (pe_ix (ixL K) (pv 0) pe_int (fun _ _ => rfl)) pe_int) (fun _ _ => rfl)))
      (pss_cons (ps_asg (pe_op op_mod (pe_callTy call_int1 (by rfl) T.int (by decide +kernel) (pa_cons (pe_op op_add (pe_op op_add (pe_op op_mul (pe_ix (ixL K) (pv 0) pe_int (fun _ _ => rfl)) pe_int) (pv 3)) pe_int) pa_nil)) pe_int) (pg_sub (pv 0) pe_int set_list))
      (pss_cons (ps_if (pt_cmpR op_ge (pv 3) (pe_op op_pow pe_int pe_int) (nomark _)) (pss_one (ps_asg (pe_op op_fdiv (pv 3) (pv 1)) (pg_sub (pv 0) pe_int set_list))) pss_nil)
      (pss_one (ps_ret (pe_op op_mod (pe_callTy call_int1 (by rfl) T.int (by decide +kernel) (pa_cons (pv 3) pa_nil)) (pv 1)))))))))), ?_⟩
    refine s_when (gt_test (gd_op (gd_ixV (j := 3) (i := 0) rfl hr0 rfl (.int rest)) gd_i r_intB)) (fun e H1 e1 => ?_) fun e H1 e1 => ?_
    · -- what is left of a great number
      have h1 := e1 _ _ hr0
      refine s_asg (K := K) (gd_op (gd_cb (ga1 (gd_ixV (j := 3) (i := 0) rfl h1 rfl (.int rest))) rc_int) (gd_var rfl (.int n)) (r_intC (by omega))) fun v H2 e2 hv => ?_
      cases hv
      have h2 := e2 _ _ h1
      dsimp only
      refine s_setL (K := K) (j := 3) h2 (at_var rfl) gd_i (by simp) (gd_op (gd_ixV (j := 3) (i := 0) rfl h2 rfl (.int rest)) (gd_var rfl (.int n)) (r_intC ⟨hn, hn2⟩)) fun v H3 e3 hv => ?_
      cases hv
      dsimp only
      refine s_ret (K := K) (gd_var rfl (.int _)) fun v H4 e4 hv => ?_
      cases hv
      have e13 := (e1.trans e2).trans e3
      refine k _ H4 (Int.emod_nonneg _ (by omega)) (Int.emod_lt_of_pos _ hn) (((But.of e13).trans (But.upd (by simp))).trans (.of e4)) ⟨pos, rng, _, e4 _ _ upd_same, same_l e4 (lkeep (S := (a, ns)) (same_l e13 hs) hne), hne, hl, hp⟩
    · dsimp only
      have h1 := e1 _ _ hr0
      refine s_setL (K := K) (j := 1) h1 (at_var rfl) gd_i (by simp) (gd_op (gd_ixV (j := 1) (i := 0) rfl h1 rfl (.int pos)) gd_i r_int) fun v H2 e2 hv => ?_
      cases hv
      have e12 := e1.trans e2
      generalize hG : upd H2 r _ = G
      have hGr : G r = some (.lst [.ref a, .int (pos + 1), .int rng, .int rest]) := by rw [← hG]; exact upd_same
      have hGs : SqL K G a (ns.map V.int) := by rw [← hG]; exact lkeep (S := (a, ns)) (same_l e12 hs) hne
      have hGb : But [r] H G := by rw [← hG]; exact (But.of e12).trans (But.upd (by simp))
      dsimp only
      have hlen : GD K (tCB (rLen K) (tCons (tOp (rIxL K) (tVar 0) (tC (.int 0))) tNil)) [some (.ref r), some (.int n), none, none] G (.int (ns.length : Nat)) := fun H3 e Q q =>
        ⟨.ref r, rfl, r, _, 0, .ref a, rfl, rfl, SqL.of (e _ _ hGr), rfl, .ref a, ns.length, rfl, .inl ⟨_, same_l e hGs, by simp⟩, q _ H3 (Same.refl _) (.int _)⟩
      refine s_when (gt_test (gd_op (gd_ixV (j := 1) (i := 0) rfl hGr rfl (.int (pos + 1))) hlen r_intB)) (fun e H3 e3 => ?_) fun e H3 e3 => ?_
      · -- behind the script's end
        have h3 := e3 _ _ hGr
        refine s_setL (K := K) (j := 2) h3 (at_var rfl) gd_i (by simp) (gd_op (gd_cb (ga1 (gd_op (gd_op (gd_ixV (j := 2) (i := 0) rfl h3 rfl (.int rng)) gd_i (r_intC (.inr (by decide)))) gd_i r_int)) rc_int) gd_i (r_intC (by decide))) fun v H4 e4 hv => ?_
        cases hv
        dsimp only
        generalize hR : (rng * 48271 + 11) % 2147483647 = R
        refine s_ret (K := K) (gd_op (gd_cb (ga1 (gd_op (gd_ixV (xs := [.ref a, .int (pos + 1), .int R, .int rest]) (j := 2) (i := 0) rfl upd_same rfl (.int R)) gd_i (r_intC ⟨by decide, by decide⟩))) rc_int) (gd_var rfl (.int n)) (r_intC hn)) fun v H5 e5 hv => ?_
        cases hv
        refine k _ H5 (Int.emod_nonneg _ (by omega)) (Int.emod_lt_of_pos _ hn) ((hGb.trans (.of (e3.trans e4))).trans ((But.upd (by simp)).trans (.of e5))) ⟨pos + 1, R, rest, e5 _ _ upd_same, same_l e5 (lkeep (S := (a, ns)) (same_l (e3.trans e4) hGs) hne), hne, hl, by omega⟩
      · have hlt : pos < ns.length := by
          simp at e
          omega
        obtain ⟨j, rfl⟩ : ∃ j : Nat, pos = j := ⟨pos.toNat, by omega⟩
        obtain ⟨c, hc⟩ : ∃ c, ns[j]? = some c := ⟨ns[j]'(by omega), by simp⟩
        have h3 := e3 _ _ hGr
        have hcell : GD K (tOp (rIx K) (tOp (rIxL K) (tVar 0) (tC (.int 0))) (tOp (rI0 fun i j => .int (i - j)) (tOp (rIxL K) (tVar 0) (tC (.int 1))) (tC (.int 1)))) [some (.ref r), some (.int n), none, none] H3 (.int c) := fun H4 e Q q =>
          ⟨.ref r, rfl, r, _, 0, .ref a, rfl, rfl, SqL.of (e _ _ h3), rfl, .ref r, rfl, r, _, 1, .int ((j : Nat) + 1), rfl, rfl, SqL.of (e _ _ h3), rfl, (j : Nat) + 1, 1, rfl, rfl, .inl ⟨a, _, (j : Nat) + 1 - 1, .int c, rfl, rfl, same_l (e3.trans e) hGs, by
            rw [show ((j : Nat) : Int) + 1 - 1 = (j : Nat) by omega]
            exact atI_nat (by rw [List.getElem?_map, hc]; rfl), q _ H4 (Same.refl _) (.int _)⟩⟩
        dsimp only
        refine s_asg (K := K) hcell fun v H4 e4 hv => ?_
        cases hv
        have h4 := e4 _ _ h3
        dsimp only
        refine s_setL (K := K) (j := 2) h4 (at_var rfl) gd_i (by simp) (gd_op (gd_cb (ga1 (gd_op (gd_op (gd_op (gd_ixV (j := 2) (i := 0) rfl h4 rfl (.int rng)) gd_i (r_intC (.inr (by decide)))) (gd_var rfl (.int c)) r_int) gd_i r_int)) rc_int) gd_i (r_intC (by decide))) fun v H5 e5 hv => ?_
        cases hv
        generalize hR : (rng * 48271 + c + 11) % 2147483647 = R
        dsimp only
        have hu : upd H5 r (.lst ([.ref a, .int ((j : Nat) + 1), .int rng, .int rest].set 2 (.int R))) r = some (.lst [.ref a, .int ((j : Nat) + 1), .int R, .int rest]) := upd_same
        generalize hV : upd H5 r (.lst ([.ref a, .int ((j : Nat) + 1), .int rng, .int rest].set 2 (.int R))) = W at hu
        have hWb : But [r] H W := by rw [← hV]; exact (hGb.trans (.of ((e3.trans e4).trans e5))).trans (But.upd (by simp))
        have hWs : SqL K W a (ns.map V.int) := by rw [← hV]; exact lkeep (S := (a, ns)) (same_l ((e3.trans e4).trans e5) hGs) hne
        have big : GT (tTest (tOp (rI0 fun i j => .bl (decide (j ≤ i))) (tVar 3) (tOp (rI CPow fun i j => .int (i ^ j.toNat)) (tC (.int 10)) (tC (.int 18))))) [some (.ref r), some (.int n), none, some (.int c)] W (decide ((10 : Int) ^ ((18 : Int).toNat) ≤ c)) := gt_test (K := K) (gd_op (gd_var rfl (.int c)) (gd_op gd_i gd_i (r_intC ⟨by decide, by decide, by decide⟩)) r_intB)
        refine s_if big (fun _ H6 e6 => ?_) (fun _ H6 e6 => ?_)
        · have hu6 := e6 _ _ hu
          refine s_setL (K := K) (j := 3) hu6 (at_var rfl) gd_i (by simp) (gd_op (gd_var rfl (.int c)) (gd_var rfl (.int n)) (r_intC ⟨hn, hn2⟩)) fun v H7 e7 hv => ?_
          cases hv
          dsimp only
          refine s_ret (K := K) (gd_op (gd_cb (ga1 (gd_var rfl (.int c))) rc_int) (gd_var rfl (.int n)) (r_intC hn)) fun v H8 e8 hv => ?_
          cases hv
          exact k _ H8 (Int.emod_nonneg _ (by omega)) (Int.emod_lt_of_pos _ hn) ((hWb.trans (.of (e6.trans e7))).trans ((But.upd (by simp)).trans (.of e8))) ⟨(j : Nat) + 1, R, c / n, e8 _ _ upd_same, same_l e8 (lkeep (S := (a, ns)) (same_l (e6.trans e7) hWs) hne), hne, hl, by omega⟩
        · dsimp only
          refine s_ret (K := K) (gd_op (gd_cb (ga1 (gd_var rfl (.int c))) rc_int) (gd_var rfl (.int n)) (r_intC hn)) fun v H7 e7 hv => ?_
          cases hv
          exact k _ H7 (Int.emod_nonneg _ (by omega)) (Int.emod_lt_of_pos _ hn) (hWb.trans (.of (e6.trans e7))) ⟨(j : Nat) + 1, R, rest, (e6.trans e7) _ _ hu, same_l (e6.trans e7) hWs, hne, hl, by omega⟩
end
end My

namespace My
open PySem L2 RZ Cc
theorem dn_but {K : Fg} {H H' : Hp} {r : Addr} {v : V} {d : D} (h : Dn K H v d) (hr : ∃ xs, H r = some (.lst xs)) (b : But [r] H H') (f : d.fix = true) : Dn K H' v d := by
  obtain ⟨xs, hr⟩ := hr
  exact h.keep (kp_one b hr) f
theorem Row.at {K : Fg} {H : Hp} {r : Addr} {S : Addr × List Int} (h : Row K S H r) : ∃ xs, H r = some (.lst xs) := by
  obtain ⟨pos, rng, rest, h1, _⟩ := h
  exact ⟨_, h1⟩
section
variable {P : Program} {w : World} {K : Fg} {mg : Str → Option Value} {base : Heap}
theorem taken_run {σ : L2.St} {H : Hp} {r : Addr} {n : Int} {tn : TE} {X : XK} {S : Addr × List Int} (h0 : σ[0]? = some (some (.ref r))) (hR : Row K S H r) (hn : GD K tn σ H (.int n)) (h1 : 0 < n) (h2 : n < 1073741824) {Q : VK}
    (k : ∀ k H', 0 ≤ k → k < n → But [r] H H' → Row K S H' r → Q (.int k) H') : tCall (spTaken K) [] X (tCons (tVar 0) (tCons tn tNil)) σ H Q :=
  ⟨.ref r, h0, hn H (Same.refl _) _ fun w H1 e1 hw => by
    cases hw
    exact ⟨S, r, n, rfl, hR.up e1, h1, h2, fun k' H2 a b c d => k k' H2 a b ((But.of e1).trans c) d⟩⟩
end
end My

/-! own errors whose __init__ hands a text on by super() and keeps its one argument in a field -/
namespace CcX
open PySem PySem.W PySem.Calls PyProof.Rows PySem.HandSPX
/-- what may be shown in such a text -/
def Shown (v : Value) : Prop := (∃ z t, v = .str z t ∧ z.length ≤ 1000) ∨ ∃ i t, v = .int i t ∧ i.natAbs.log2 < 1920
structure SupC (prog : Program) (K : Frag) (C fI : Addr) (qual fld : Str) (body : List Stmt) (params : Arguments) (scope : Scope) : Prop where
  cls : ∃ nm q N bs bm sn sub ab col dd k0 k1 k2 k3 k5, K.lookup C = some (excClassObj nm q C N bs bm true sn sub ab col dd k0 k1 k2 k3 k5 "ValueError.__new__") ∧ refsVE bm = true
  sa : findIn K (.ref C) "__setattr__" = some (some (.builtin "object.__setattr__"))
  noN : findIn K (.ref C) fld = some none
  iC : findIn K (.ref C) "__init__" = some (some (.ref fI))
  tC : typeIn K (.ref fI) = some (.type "function")
  kC : keepIn K (.ref C) = true
  exC : subIn K (.ref C) (.type "BaseException") = some true
  veC : subIn K (.ref C) (.type "ValueError") = some true
  slfC : mroIn K C (.ref C) = some true
  tyC : typeIn K (.ref C) = some (.type "type")
  opq : nsIn K cStatics "thirdparty.any" = some none
  alg : ks_superIn K C C "__init__" = some (some (.builtin "ValueError.__init__"))
  top : (prog.main.scope.names.lookup ("super" : Str)).isSome = false
  fn : ∃ (oc : Value) (od : Option Addr) (doc pm : Value) (an : Option Addr) (cda cc : Addr) (ct : Value) (osl : Array (Option Value)) (ccl cl : Value) (cdd cld : Option Addr) (ccs csl : Array (Option Value)) (vs : Array Value) (file : Str) (tf : Tok),
    K.lookup fI = some ⟨oc, od, .func (ksFn "__init__" qual params body scope .none .none doc pm an (.ref cda) ct cc), osl⟩ ∧ codeIn K (.ref cda) qual = true ∧
    K.lookup cda = some ⟨ccl, cdd, .fields vs, ccs⟩ ∧ vs[2]? = some (.str file tf) ∧ ((prog.main.file : Str) == file) = true ∧
    K.lookup cc = some ⟨cl, cld, .cell (some (.ref C)), csl⟩
section
variable {prog : Program} {w : World} {A : Around} {E : Value → Shared → Prop} {R : Result → Shared → Prop} {s : Shared} {K : Frag} {mg mb : Str → Option Value} {C fI : Addr}
/-- the built-in __init__ bound to the new object, called: only the object's own record is laid anew -/
theorem mw_call {nm q : Str} {N : Addr} {bs bm : List Value} {sn : List Str} {sub : List Value} {ab : Bool} {col : Option Bool} {dd : Option Addr} {k0 k1 k2 k3 k5 : Option Value} {u x t0 : Addr} {rest : List Value} {Q : Value → Shared → Prop}
    (hC : s.heap.get? C = some (excClassObj nm q C N bs bm true sn sub ab col dd k0 k1 k2 k3 k5 "ValueError.__new__")) (hx : s.heap.get? x = some (excO C t0)) (hu : s.heap.get? u = some (kxs_mw "ValueError.__init__" x)) (hz : rest.length ≤ sizeLine)
    (h : ∀ h' t1, (∀ b o, b ≠ x → s.heap.get? b = some o → h'.get? b = some o) → h'.get? x = some (excO C t1) → Q .none { s with heap := h' }) : wpAny (model prog w) A (call (.ref u) rest) Q E s := by
  have FB := F.excBase_ValueError
  obtain ⟨hh, g, d, tk, os⟩ := s
  refine wpAny_call (codeAny_of_tree ?_)
  show wpAny _ A.in1 (callAny (.ref u) ⟨rest, []⟩) _ _ _
  simp only [callAny]
  refine wpAny_bind (wpAny_load hu ?_)
  have a1 : (Value.type "method-wrapper" == Value.type "method" || Value.type "method-wrapper" == Value.type "builtin_function_or_method" || Value.type "method-wrapper" == Value.type "method-wrapper") = true := by decide
  simp only [kxs_mw, a1, if_true]
  refine KFB.if_so (by decide) ?_
  refine wpAny_bind (check_bound_init (FB.toExcCallFacts) hC hx rfl ?_)
  refine wpAny_bind (wpAny_pure (wpAny_pure ?_))
  refine ⟨plainId_quiet FB.init.plain _, codeAny_builtin FB.initEntry ?_⟩
  exact exc_init_tree (cls := Value.ref C) (t0 := t0) (dv := Option.none) (c2 := Value.none) (c3 := Value.none) (b4 := Value.bool false) hx hz fun h' k' e' _ => h h' _ k' e'
/-- a part of the text that is shown -/
def PartOk (ar : Str) (e : Expr) : Prop := (∃ z j p, e = .Constant (.str z) j p ∧ z.length ≤ 100) ∨ ∃ p p2, e = .FormattedValue (.Name ar p) (-1) none p2
theorem parts_join {env : Env} {m : Str → Option Value} {hp : Heap} {ar : Str} {v : Value} (hn : hp.Ns env.locals m) (hk : env.scope.kind = .function) (hl : env.kindOf ar = some .local) (hd : (ar == ("__debug__" : Str)) = false) (hv : m ar = some v) (hs : Shown v) {R : Str → Shared → Prop} : ∀ (es : List Expr) (acc : Str) (s : Shared), s.heap = hp → (∀ e ∈ es, PartOk ar e) →
    acc.length + 4000 * es.length ≤ 100000 → (∀ out tk, out.length ≤ 100000 → R out { s with toks := tk }) → Joins (model prog w) A E (evalEach es env) acc R s
  | [], acc, s, e, _, hz, k => by
    rw [show evalEach [] env = [] from by first | rfl | simp [evalEach]]
    exact k acc s.toks (by simpa using hz)
  | p :: es, acc, s, e, hp', hz, k => by
    rw [show evalEach (p :: es) env = eval p env :: evalEach es env from by first | rfl | simp [evalEach]]
    have line : sizeLine = 16777216 := sizeLine_eq
    have hz' : acc.length + 4000 * (es.length + 1) ≤ 100000 := by simpa using hz
    have go : ∀ (y : Str) (t : Tok) (tk : Nat), y.length ≤ 4000 → ∃ z t', (Value.str y t) = .str z t' ∧ (acc ++ z).length ≤ sizeLine ∧ Joins (model prog w) A E (evalEach es env) (acc ++ z) R { s with toks := tk } := fun y t tk hy => by
      have hl2 : (acc ++ y).length = acc.length + y.length := PySem.Str.length_append ..
      exact ⟨y, t, rfl, by omega, parts_join hn hk hl hd hv hs es (acc ++ y) { s with toks := tk } e (fun q hq => hp' q (List.mem_cons_of_mem _ hq)) (by omega) fun out tk' hz => k out tk' hz⟩
    rcases hp' p List.mem_cons_self with ⟨z, j, q, rfl, hz1⟩ | ⟨q, q2, rfl⟩
    · exact Calls.Constant_str (go z _ _ (by omega))
    · refine wpAny_FormattedValue_plain (wpAny_Name (wpAny_loadName_local hk hl (by rw [e]; exact hn) hv ?_) hd)
      rcases hs with ⟨z, t, rfl, hz1⟩ | ⟨i, t, rfl, hi⟩
      · exact wpAny_formatField_str (go z _ s.toks (by omega)) (go z _ _ (by omega)) (by omega)
      · exact wpAny_formatField_int hi (go _ _ _ (by have := int_text_length_le (k := 1920) (by decide) hi; rw [PySem.ofString_length]; omega))

/-! ### the text of such an __init__ -/
abbrev supA (ar : Str) (p1 p2 : Pos) : Arguments := { posonlyargs := [], args := [{ arg := "self", annotation := none, pos := p1 }, { arg := ar, annotation := none, pos := p2 }], vararg := none, kwonlyargs := [], kw_defaults := [], kwarg := none, defaults := [] }
abbrev supS (ar : Str) : Scope := { kind := .function, names := [(PySem.Str.ofString "self", .local), (ar, .local), (PySem.Str.ofString "__class__", .free), (PySem.Str.ofString "super", .globalImplicit)], isGenerator := false, isCoroutine := false, more := [] }
abbrev supB (ar fld : Str) (v1 v2 : Expr) (rest : List Expr) (q0 q1 q2 q3 q4 q5 q6 q7 q8 q9 : Pos) : List Stmt :=
  [.Expr (.Call (.Attribute (.Call (.Name "super" q0) [] [] q1) "__init__" q2) [.JoinedStr (v1 :: v2 :: rest) q3] [] q4) q5, .Assign [.Attribute (.Name "self" q6) fld q7] (.Name ar q8) q9]
/-- what __init__ leaves of a fresh exception at x -/
structure InitEnd (h h' : Heap) (x C dx t1 : Addr) (fld : Str) (v : Value) : Prop where
  keep : ∀ b o, b ≠ x → h.get? b = some o → h'.get? b = some o
  obj : h'.get? x = some { cls := .ref C, dict := some dx, data := .fields #[.ref t1, .none, .none, .none, .bool false, .none] }
  dbig : h.objs.size ≤ dx
  dne : dx ≠ x
  ns : h'.Ns1 dx (fun y => if y = fld then some v else none)
theorem me_call {env : Env} {c : Code} {o : Expr} {name : Str} {apos pos : Pos} {args : List Expr} {Q : Value → Shared → Prop} (hline : (apos.endLine == pos.line) = true)
    (hform : methodCallForm (args.length + ([] : List Keyword).length) (backTo pos (starEach args env)) (backToKw pos (keywordEach [] env)) = true)
    (h : PySem.wpAt (model prog w) A c (attributeBase o name env (eval o env)) (fun ov s₁ => ∀ pl, wpAny (model prog w) A (getMethod ov name pl) (fun fx s₂ => wpAny (model prog w) A (callWith pos fx.1 fx.2 (backTo pos (starEach args env)) []) Q E s₂) E s₁) E s) :
    PySem.wpAt (model prog w) A c (eval (.Call (.Attribute o name apos) args [] pos) env) Q E s := by
  rw [arm_eval_Call]
  refine PySem.wpAt_bind (PySem.wpAt_mono h (fun ov s₁ h₁ => PySem.wpAt_of_wpAny (wpAny_bind (wpAny_standAt ?_))) fun _ _ x => x)
  have hpos : methodCallPos true o env apos pos = pure pos := by unfold methodCallPos; simp [hline]
  unfold methodCall
  rw [hform]
  refine wpAny_bind (wpAny_holding (wpAny_mono (h₁ _) (fun fx s₂ h₂ => ?_) fun _ _ x => x))
  exact wpAny_bind (wpAny_of_eq hpos h₂)
theorem Heap.Ns.over {L x : Addr} {h h' : Heap} {m : Str → Option Value} (hn : h.Ns L m) (hx : L ≠ x) (k : ∀ b o, b ≠ x → h.get? b = some o → h'.get? b = some o) : h'.Ns L m := by
  obtain ⟨oL, es, ep, hL, r⟩ := hn
  exact ⟨oL, es, ep, k _ _ hx hL, r⟩
theorem kept_but {K : Frag} {h h' : Heap} {x : Addr} (X : K.In h) (hx : K.lookup x = none) (k : ∀ b o, b ≠ x → h.get? b = some o → h'.get? b = some o) : K.In h' := fun a o e =>
  k a o (fun z => by subst z; rw [show List.lookup a K = some o from e] at hx; cases hx) (X a o e)
theorem sup_init {qual ar fld : Str} {v1 v2 : Expr} {rest : List Expr} {p1 p2 q0 q1 q2 q3 q4 q5 q6 q7 q8 q9 : Pos} (T : SupC prog K C fI qual fld (supB ar fld v1 v2 rest q0 q1 q2 q3 q4 q5 q6 q7 q8 q9) (supA ar p1 p2) (supS ar))
    (ha : ar = "part" ∨ ar = "index" ∨ ar = "name" ∨ ar = "row" ∨ ar = "offset") (hparts : ∀ e ∈ v1 :: v2 :: rest, PartOk ar e) (hlen : rest.length ≤ 8) (hline : (q2.endLine == q4.line) = true) {x t0 : Addr} {v : Value} (hv : Shown v)
    (X : K.In s.heap) (hlim : s.heap.NoLimit) (hg : s.heap.Ns mainGlobals mg) (hb : s.heap.Ns builtinsNs mb) (hms : mg "super" = none) (hbs : mb "super" = some (.type "super")) (hx : s.heap.get? x = some (excO C t0)) (hnx : K.lookup x = none) (hroom : A.depth < recursionLimit)
    (hq : ∀ h' tk dx t1, InitEnd s.heap h' x C dx t1 fld v → R (.ok (.ret .none)) { s with heap := h', toks := tk }) :
    codeAny (model prog w) A (.call (.ref fI) ⟨[.ref x, v], []⟩) R s := by
  obtain ⟨oc, od, doc, pm, an, cda, cc, ct, osl, ccl, cl, cdd, cld, ccs, csl, vs, file, tf, ho, hcd, hcda, hvs, hfile, hcell⟩ := T.fn
  obtain ⟨nm, q, N, bs, bm, sn, sub, ab, col, dd, k0, k1, k2, k3, k5, hC, hbm⟩ := T.cls
  have hcl : clsIn K C = some { name := nm, bases := bs, mro := .ref C :: bm, ns := N, qualname := q, hasDict := true, slotNames := sn, subclasses := sub, abstract := ab, collection := col, hasDel := false } := by unfold clsIn; rw [hC] <;> rfl
  refine ks_codeAny_call_defAt (binds := [("self", .ref x), (ar, v)]) hroom (X _ _ ho) rfl hlim ?_ rfl (BindsTo.of_eq ?_) ?_ ?_ (fun h₁ hn k => ?_)
  · exact codeRec_of X hcd
  · rcases ha with rfl | rfl | rfl | rfl | rfl <;> first | rfl | with_unfolding_all rfl
  · intro y hy
    simp at hy
    rcases hy with rfl | rfl | rfl | rfl <;> exact fun e => by cases e
  · intro y hy
    rcases List.mem_cons.mp hy with rfl | hy
    · rfl
    · rcases List.mem_cons.mp hy with rfl | hy
      · rcases ha with rfl | rfl | rfl | rfl | rfl <;> rfl
      · cases hy
  have hxL : s.heap.objs.size ≠ x := Nat.ne_of_gt (Heap.lt_size hx)
  have X₁ : K.In h₁ := X.keeps k
  have hx₁ := k _ _ hx
  have hC₁ := X₁ _ _ hC
  have hz₁ : s.heap.objs.size < h₁.objs.size := hn.lt
  generalize eF : ksFn "__init__" qual (supA ar p1 p2) (supB ar fld v1 v2 rest q0 q1 q2 q3 q4 q5 q6 q7 q8 q9) (supS ar) Value.none Value.none doc pm an (Value.ref cda) ct cc = fd
  have eE : callEnv fd s.heap.objs.size fI = ksEnv qual (supS ar) s.heap.objs.size fI (.ref cda) cc := by rw [← eF]; rfl
  rw [eE]
  have nec : (ar == ("__class__" : Str)) = false ∧ (ar == ("super" : Str)) = false ∧ (ar == ("self" : Str)) = false ∧ (ar == ("__debug__" : Str)) = false := by rcases ha with rfl | rfl | rfl | rfl | rfl <;> decide
  have kS : (ksEnv qual (supS ar) s.heap.objs.size fI (.ref cda) cc).kindOf "super" = some .globalImplicit := by rcases ha with rfl | rfl | rfl | rfl | rfl <;> rfl
  have kC : (ksEnv qual (supS ar) s.heap.objs.size fI (.ref cda) cc).kindOf "__class__" = some .free := by rcases ha with rfl | rfl | rfl | rfl | rfl <;> rfl
  have kA : (ksEnv qual (supS ar) s.heap.objs.size fI (.ref cda) cc).kindOf ar = some .local := by rcases ha with rfl | rfl | rfl | rfl | rfl <;> rfl
  have kX : (ksEnv qual (supS ar) s.heap.objs.size fI (.ref cda) cc).kindOf "self" = some .local := rfl
  have mA : (List.reverse [(("self" : Str), Value.ref x), (ar, v)]).lookup ar = some v := by simp [List.lookup]
  have mX : (List.reverse [(("self" : Str), Value.ref x), (ar, v)]).lookup ("self" : Str) = some (.ref x) := by rcases ha with rfl | rfl | rfl | rfl | rfl <;> rfl
  refine ks_wpAt_execs_cons (ks_wpAt_Expr_any (me_call hline (by rfl) ?_) (by rfl) (by rfl))
  · refine ks_wpAt_super_base (env := ksEnv qual (supS ar) s.heap.objs.size fI (.ref cda) cc) (fd := fd) (ar := { arg := "self", annotation := none, pos := p1 }) kS kC (by decide) rfl (k _ _ (X _ _ ho)) (by rw [← eF]) (by rw [← eF]; rfl) rfl (X₁ _ _ hcda) rfl hvs hfile T.top ?_
    refine ks_loadName_global rfl kS (loadGlobal_builtin (hg.keeps k) hms (hb.keeps k) hbs ⟨rfl, ?_⟩)
    refine wpAny_loadName_free rfl kC rfl ⟨_, X₁ _ _ hcell, rfl⟩ ?_
    refine wpAny_loadName_local rfl kX hn mX ?_
    refine ks_wpAny_isType_cls hC₁ rfl ⟨rfl, ?_⟩
    refine ks_wpAny_call_super hC₁ rfl hx₁ rfl (fun c e => by cases e) (looks_mroIn X₁ T.slfC) (fun h₂ hso k₂ => ?_)
    have X₂ : K.In h₂ := X₁.keeps k₂
    have hx₂ := k₂ _ _ hx₁
    have hn₂ := hn.keeps k₂
    intro pl
    refine kxs_getMethod kxs_ValueError hso (looks_opaque X₂ T.opq) (l₀ := .ref C :: bm) (fun A Q E s' k q => wpAny_bind ((looks_clsIn X₂ hcl) A _ E s' k (wpAny_pure q))) rfl X₂ ?_ ?_ ?_ (by decide) ?_
    · have := T.alg
      unfold ks_superIn at this
      rw [hcl] at this
      exact this
    · exact InstAt.type (od := none) ⟨hx₂, rfl, rfl, trivial⟩ |>.andThen (looks_subIn X₂ T.veC)
    · intro z
      rw [z] at hnx
      have : K.lookup C = some _ := hC
      rw [this] at hnx; cases hnx
    have k₃ : ∀ b o, h₂.get? b = some o → (h₂.push (kxs_mw "ValueError.__init__" x)).get? b = some o := fun b o e => Heap.get?_push_of_some _ e
    have hn₃ := hn₂.keeps k₃
    have hu₃ : (h₂.push (kxs_mw "ValueError.__init__" x)).get? h₂.objs.size = some (kxs_mw "ValueError.__init__" x) := Heap.get?_push_at rfl rfl
    have hC₃ := k₃ _ _ (k₂ _ _ hC₁)
    have hx₃ := k₃ _ _ hx₂
    generalize eh : h₂.push (kxs_mw "ValueError.__init__" x) = h₃ at hn₃ hu₃ hC₃ hx₃ k₃ ⊢
    refine kxs_callWith (i := "ValueError.__init__") (x := x) rfl (evalArgs_plain (spliced_cons (wpAny_JoinedStr (pos := q3) ?_)))
    refine parts_join (hp := h₃) hn₃ rfl kA nec.2.2.2 mA hv (v1 :: v2 :: rest) Str.empty _ rfl hparts (by simp only [List.length_cons]; have : Str.empty.length = 0 := rfl; omega) (fun out tk hz => ?_)
    refine ⟨by rw [sizeLine_eq]; omega, spliced_nil ⟨hu₃, ?_⟩⟩
    refine mw_call hC₃ hx₃ hu₃ (by simp [sizeLine_eq]) (fun h₄ t1 k₄ hx₄ => ?_)
    have kk : ∀ b o, b ≠ x → s.heap.get? b = some o → h₄.get? b = some o := fun b o hb e => k₄ b o hb (k₃ _ _ (k₂ _ _ (k _ _ e)))
    have X₄ : K.In h₄ := kept_but X hnx kk
    refine PySem.wpAt_of_wpAny (wpAny_execs_cons (plainObj_wpAny_Assign_Attribute ?_))
    have hn₄ := Heap.Ns.over hn₃ (x := x) (h' := h₄) hxL k₄
    refine wpAny_Name (wpAny_loadName_local rfl kA hn₄ mA ?_) nec.2.2.2
    refine wpAny_Name (wpAny_loadName_local rfl kX hn₄ mX ?_) (by decide)
    refine set_plain X₄ (ox := excO C t1) (od := none) ⟨hx₄, rfl, rfl, trivial⟩ T.sa ?_
    refine exc_osa X₄ hx₄ hcl (show refsVE (.ref C :: bm) = true from hbm) rfl T.noN (fun h₅ tk₅ dx k₅ dn dne hx₅ hn₅ => ?_)
    refine wpAny_execs_nil (hq h₅ tk₅ dx t1 ⟨fun b o hb e => k₅ b o hb (kk b o hb e), hx₅, ?_, dne, hn₅⟩)
    exact Nat.le_of_lt (Nat.lt_of_lt_of_le hn₄.lt dn)
/-- one made -/
structure Made1 (h h' : Heap) (e C d : Addr) (fld : Str) (v : Value) : Prop where
  keep : ∀ b o, h.get? b = some o → h'.get? b = some o
  new : h.objs.size ≤ e
  obj : ∃ oe vs, h'.get? e = some oe ∧ oe.cls = .ref C ∧ oe.dict = some d ∧ oe.data = .fields vs ∧ vs[1]? = some .none
  dbig : h.objs.size ≤ d
  dne : d ≠ e
  ns : h'.Ns1 d (fun y => if y = fld then some v else none)
/-- an own error with one field, its __init__ shown -/
structure SupI (prog : Program) (w : World) (K : Frag) (mg : Str → Option Value) (C fI : Addr) (fld : Str) : Prop where
  cls : ∃ nm q N bs bm sn sub ab col dd k0 k1 k2 k3 k5, K.lookup C = some (excClassObj nm q C N bs bm true sn sub ab col dd k0 k1 k2 k3 k5 "ValueError.__new__") ∧ refsVE bm = true
  iC : findIn K (.ref C) "__init__" = some (some (.ref fI))
  tC : typeIn K (.ref fI) = some (.type "function")
  kC : keepIn K (.ref C) = true
  exC : subIn K (.ref C) (.type "BaseException") = some true
  tyC : typeIn K (.ref C) = some (.type "type")
  init : ∀ {A : Around} {R : Result → Shared → Prop} {s : Shared} {x t0 : Addr} {v : Value} {mb : Str → Option Value}, Shown v → K.In s.heap → s.heap.NoLimit → s.heap.Ns mainGlobals mg → s.heap.Ns builtinsNs mb → mb "super" = some (.type "super") → s.heap.get? x = some (excO C t0) → K.lookup x = none → A.depth < recursionLimit →
    (∀ h' tk dx t1, InitEnd s.heap h' x C dx t1 fld v → R (.ok (.ret .none)) { s with heap := h', toks := tk }) → codeAny (model prog w) A (.call (.ref fI) ⟨[.ref x, v], []⟩) R s
theorem sup_of {qual ar fld : Str} {v1 v2 : Expr} {rest : List Expr} {p1 p2 q0 q1 q2 q3 q4 q5 q6 q7 q8 q9 : Pos} (T : SupC prog K C fI qual fld (supB ar fld v1 v2 rest q0 q1 q2 q3 q4 q5 q6 q7 q8 q9) (supA ar p1 p2) (supS ar))
    (ha : ar = "part" ∨ ar = "index" ∨ ar = "name" ∨ ar = "row" ∨ ar = "offset") (hparts : ∀ e ∈ v1 :: v2 :: rest, PartOk ar e) (hlen : rest.length ≤ 8) (hline : (q2.endLine == q4.line) = true) (hms : mg "super" = none) : SupI prog w K mg C fI fld :=
  ⟨T.cls, T.iC, T.tC, T.kC, T.exC, T.tyC, fun hv X hlim hg hb hbs hx hnx hroom hq => sup_init T ha hparts hlen hline hv X hlim hg hb hms hbs hx hnx hroom hq⟩
theorem sup_made {fld : Str} (T : SupI prog w K mg C fI fld) {v : Value} (hv : Shown v) (X : K.In s.heap) (hlim : s.heap.NoLimit) (hg : s.heap.Ns mainGlobals mg) (hb : s.heap.Ns builtinsNs mb) (hbs : mb "super" = some (.type "super")) (hroom : A.depth + 1 < recursionLimit)
    (hq : ∀ h' tk e d, Made1 s.heap h' e C d fld v → R (.ok (.ret (.ref e))) { s with heap := h', toks := tk }) : codeAny (model prog w) A (.call (.ref C) ⟨[v], []⟩) R s := by
  obtain ⟨nm, q, N, bs, bm, sn, sub, ab, col, dd, k0, k1, k2, k3, k5, hC, hbm⟩ := T.cls
  obtain ⟨hp, g, dr, tk, os⟩ := s
  have old1 : ∀ b o, hp.get? b = some o → ((hp.push (kdv_tup [v])).push (excO C hp.objs.size)).get? b = some o := fun b o e => Heap.get?_push_of_some _ (Heap.get?_push_of_some _ e)
  have at1 : ((hp.push (kdv_tup [v])).push (excO C hp.objs.size)).get? (hp.objs.size + 1) = some (excO C hp.objs.size) := by heap_get
  have free : K.lookup (hp.objs.size + 1) = none := by
    rcases e : K.lookup (hp.objs.size + 1) with _ | o
    · rfl
    · exact absurd (Nat.lt_of_succ_lt (Heap.lt_size (X _ _ e))) (Nat.lt_irrefl _)
  refine call_own F.excBase_ValueError (fun X => refsVE_contains X bm hbm) (X _ _ hC) (looks_findIn X T.iC) (fun self => bind_fn X self T.tC) (by simp [sizeLine_eq]) ?_
  refine T.init (s := ⟨(hp.push (kdv_tup [v])).push (excO C hp.objs.size), g, dr, tk, os⟩) hv (X.keeps old1) (hlim.keeps old1) (hg.keeps old1) (hb.keeps old1) hbs at1 free hroom fun h' tk' dx t1 I => ?_
  have z : hp.objs.size + 1 + 1 ≤ dx := by
    have q := I.dbig
    first | exact q | (rw [Heap.size_push, Heap.size_push] at q; exact q) | simpa only [Heap.size_push] using q
  exact ⟨rfl, hq h' tk' (hp.objs.size + 1) dx ⟨fun b o e => I.keep b o (Nat.ne_of_lt (Nat.lt_succ_of_lt (Heap.lt_size e))) (old1 b o e), Nat.le_succ _, ⟨_, _, I.obj, rfl, rfl, rfl, rfl⟩, (by show hp.objs.size ≤ dx; omega), I.dne, I.ns⟩⟩
end
end CcX

namespace Cc
open PySem L2
/-- an own error, made with a text -/
structure ErrT (K : Fg) (mg : Str → Option Value) (x : Str) (C : Addr) : Prop where
  gC : mg x = some (.ref C)
  q : PySem.W.excIn K C [.type "ValueError", .type "Exception", .type "BaseException", .type "object"] "ValueError.__new__" = true
  kC : PySem.W.keepIn K (.ref C) = true
  exC : PySem.W.subIn K (.ref C) (.type "BaseException") = some true
  tyC : PySem.W.typeIn K (.ref C) = some (.type "type")
/-- an own error with one field -/
structure ErrF (P : Program) (w : World) (K : Fg) (mg : Str → Option Value) (x : Str) (C fI : Addr) (fld : Str) : Prop where
  gC : mg x = some (.ref C)
  sup : CcX.SupI P w K mg C fI fld
section
variable {X : Cx} {x : Str} {C : Addr} {p p2 pos pos2 : Pos} {m : Str} {j : Nat}
def tRaiseT (C : Addr) (W : WX) : TS := fun _ σ H => W (.ref C) none σ H
theorem ps_raiseT {W : WX} (hc : X.calm = true) (tk : Takes X W) (T : ErrT X.K X.mg x C) (hg : Gl X x := by rfl) (hdb : (x == ("__debug__" : Str)) = false := by decide) :
    PS X (.Raise (some (.Call (.Name x p) [.Constant (.str m) j p2] [] pos)) none pos2) (tRaiseT C W) :=
  ps_raise hc tk (pmk_own F.excBase_ValueError T.q T.gC T.kC (raises_own T.exC T.tyC) hg hdb)
def ShownV (v : V) : Prop := (∃ z : Str, v = .str z ∧ z.length ≤ 1000) ∨ ∃ i : Int, v = .int i ∧ i.natAbs.log2 < 1920
def tRaiseF (C : Addr) (fld : Str) (W : WX) (ta : TA) : TS := fun _ σ H => ta σ H fun vs H1 => ∃ v, vs = [v] ∧ ShownV v ∧ ∀ d, H1 d = none → W (.ref C) (some d) σ (upd H1 d (.xd [(fld, v)]))
theorem relO_one {v : V} {v' : Value} (r : RelV v v') (fld f : Str) : RelO (List.lookup f [(fld, v)]) (if f = fld then some v' else none) := by
  by_cases h : f = fld
  · subst h
    simpa [List.lookup, RelO] using r
  · have e : (f == fld) = false := by simpa using h
    simp [List.lookup, e, h, RelO]
theorem ps_raiseF {W : WX} {a : Expr} {ta : TA} {fI : Addr} {fld : Str} {k : Nat} (hc : X.calm = true) (tk : Takes X W) (T : ErrF X.prog X.w X.K X.mg x C fI fld) (hr : Room k X.A) (hk : 1 ≤ k) (ha : PA X [a] ta) (hg : Gl X x := by rfl) (hdb : (x == ("__debug__" : Str)) = false := by decide)
    (he : starEach (a :: []) X.env = (false, eval a X.env) :: starEach [] X.env := by rfl) (hpl : (backTo pos (starEach [] X.env)).any (·.1) = false := by rfl) :
    PS X (.Raise (some (.Call (.Name x p) [a] [] pos)) none pos2) (tRaiseF C fld W ta) := by
  refine ps_raise (t := fun σ H Q => ta σ H fun vs H1 => ∃ v, vs = [v] ∧ ShownV v ∧ ∀ d, H1 d = none → Q (.ref C) (some d) (upd H1 d (.xd [(fld, v)]))) hc tk ?_
  intro pins s σ H Q I h
  refine wpAny_Call_Name_kw (ld_glob I hg T.gC ?_ hdb)
  refine PySem.W.callWith_K (h₀ := X.base) I.ok.mod.kin T.sup.kC (thn (ha.run pos pins s σ H _ I h) fun us s1 hh => ?_) he hpl
  obtain ⟨vs, H1, I1, r1, v, ev, hsh, q1⟩ := hh
  subst ev
  refine ⟨I1.kIn, ?_⟩
  cases r1 with
  | @cons _ v' _ us' rv rn =>
    cases rn
    show wpAny _ _ (call (.ref C) [v']) _ _ _
    have hlim := I1.nolimit
    obtain ⟨mb, hB0, hB1⟩ := I1.mod.blt
    have hB : s1.heap.Ns builtinsNs mb := hB0.keeps I1.bk
    have hbs : mb "super" = some (.type "super") := (hB1 "super" (by decide)).trans (by decide +kernel)
    have hG : s1.heap.Ns mainGlobals X.mg := I1.mod.glob.keeps I1.bk
    have hsv : CcX.Shown v' := by
      rcases hsh with ⟨z, rfl, hz⟩ | ⟨i, rfl, hi⟩
      · obtain ⟨t, rfl⟩ := rv
        exact .inl ⟨z, t, rfl, hz⟩
      · obtain ⟨t, rfl⟩ := rv
        exact .inr ⟨i, t, rfl, hi⟩
    obtain ⟨hp, g, dr, tk', os⟩ := s1
    refine wpAny_call (CcX.sup_made T.sup hsv I1.kIn hlim hG hB hbs (by have := hr.dp; omega) fun h' tk2 e d M => ?_)
    show MkP X pins σ Q (.ref e) ⟨h', g, dr, tk2, os⟩
    obtain ⟨oe, fv, hoe, hcl, hd, hdat, h1⟩ := M.obj
    have hns := M.ns
    obtain ⟨G, g1, g2⟩ := restrict h' fun b => decide (b ≠ e)
    have gne : ∀ b, b ≠ e → G.get? b = h'.get? b := fun b hb => g1 b (decide_eq_true hb)
    have ge : G.get? e = none := g2 e (by simp)
    have old : ∀ b o, hp.get? b = some o → G.get? b = some o := fun b o q => (gne b (Nat.ne_of_lt (Nat.lt_of_lt_of_le (Heap.lt_size q) M.new))).trans (M.keep b o q)
    have ob : ObjOk X.prog X.w (upd H1 d (.xd [(fld, v)])) G d (.xd [(fld, v)]) := ⟨_, hns.at (fun o q => (gne d M.dne).trans q), fun f => relO_one rv fld f⟩
    have J : Inv X pins σ (upd H1 d (.xd [(fld, v)])) ⟨G, g, dr, tk2, os⟩ := I1.laid (t' := tk2) old M.dbig ob
    refine ⟨e, oe, fv, ⟨G, g, dr, tk2, os⟩, _, .ref C, some d, rfl, J, fun b o q => ?_, ge, hoe, ⟨hcl, hd⟩, hdat, h1, ?_, rfl, I1.bare, raises_own T.sup.exC T.sup.tyC, q1 d (I1.hok.fresh M.dbig)⟩
    · have q' : G.get? b = some o := q
      by_cases hb : b = e
      · rw [hb, ge] at q'; cases q'
      · exact (gne b hb).symm.trans q'
    · rw [upd_ne (Ne.symm M.dne)]
      exact I1.hok.fresh M.new
end
end Cc

/-! own classes: made, methods, properties, len, != -/
namespace Cc
open PySem L2 PyProof.Rows
/-- the class under the name x is called -/
def CMk (P : Program) (w : World) (K : Fg) (mg : Str → Option Value) (base : Heap) (CX : CXT) (n : Nat) (x : Str) (C : Addr) (ps : List Str) (sp : Sp) : Prop :=
  ∃ (f : Addr) (fd : FuncData), Mk K C f ∧ FnOk P w K mg base CX n f fd ps sp ∧ mg x = some (.ref C) ∧ L2.Binds K fd ps []
def CMet (P : Program) (w : World) (K : Fg) (mg : Str → Option Value) (base : Heap) (CX : CXT) (n : Nat) (C : Addr) (m : Str) (ps : List Str) (sp : Sp) : Prop :=
  ∃ (f : Addr) (fd : FuncData), Cls K C ∧ Meth K C m f ∧ FnOk P w K mg base CX n f fd ps sp ∧ L2.Binds K fd ps []
def CPrp (P : Program) (w : World) (K : Fg) (mg : Str → Option Value) (base : Heap) (CX : CXT) (n : Nat) (C : Addr) (f : Str) (sp : Sp) : Prop :=
  ∃ (p g : Addr) (fd : FuncData), Cls K C ∧ PropOf K C f p g ∧ FnOk P w K mg base CX n g fd ["self"] sp ∧ L2.Binds K fd ["self"] []
/-- nothing leaves -/
abbrev E0 : XK := fun _ _ _ => False
theorem passN {X : Cx} : Passes (L2.CX X.prog X.w) X E0 := passes_call LamX.takes0 fun _ _ _ _ h => h
section
variable {X : Cx} {CX : CXT} {n m : Nat} {x f mt : Str} {C : Addr} {ps : List Str} {sp : Sp} {E : XK} {e o : Expr} {es : List Expr} {t : TA} {ta : TE} {p pos apos : Pos}
theorem pe_mk (M : CMk X.prog X.w X.K X.mg X.base CX n x C ps sp) (hr : Room m X.A) (hx : Passes CX X E) (ha : PA X (e :: es) t) (hg : Gl X x := by rfl) (hn : n + 1 ≤ m := by decide)
    (hdb : (x == ("__debug__" : Str)) = false := by decide) (he : starEach (e :: es) X.env = (false, eval e X.env) :: starEach es X.env := by rfl) (hpl : (backTo pos (starEach es X.env)).any (·.1) = false := by rfl) : PE X (.Call (.Name x p) (e :: es) [] pos) (tMake C sp [] E t) := by
  obtain ⟨f, fd, M, F, hm, hb⟩ := M
  exact pe_make M F (hr.mono hn) hg hm hb .nil hx ha hdb he hpl
theorem pe_met {pl : Sem Bool} (M : CMet X.prog X.w X.K X.mg X.base CX n C mt ps sp) (hr : Room m X.A) (hx : Passes CX X E) (ho : PE X o ta) (ha : PA X (e :: es) t) (hn : n ≤ m := by decide)
    (hst : starEach (e :: es) X.env = (false, eval e X.env) :: starEach es X.env := by rfl) (hpl : (backTo pos (starEach es X.env)).any (·.1) = false := by rfl)
    (ht : eval (.Call (.Attribute o mt apos) (e :: es) [] pos) X.env = (do
      let ov ← eval o X.env
      standAt apos.atName
      let (f, first) ← holding [ov] (getMethod ov mt pl)
      callWith pos f first (backTo pos (starEach (e :: es) X.env)) (backToKw pos (keywordEach [] X.env))) := by rfl) : PE X (.Call (.Attribute o mt apos) (e :: es) [] pos) (tMeth C mt sp [] E ta t) := by
  obtain ⟨f, fd, c, hm, F, hb⟩ := M
  exact pe_meth ho c hm F (hr.mono hn) hb .nil hx ha hst hpl ht
theorem pe_prp (M : CPrp X.prog X.w X.K X.mg X.base CX n C f sp) (hr : Room m X.A) (hx : Passes CX X.nox E) (he : PE X e ta) (hn : n + 1 ≤ m := by decide) (hab : attributeBase e f X.env (eval e X.env) = eval e X.env := by rfl) : PE X (.Attribute e f pos) (tProp C sp [] E ta) := by
  obtain ⟨q, g, fd, c, hp, F, hb⟩ := M
  exact pe_prop he c hp F (hr.mono hn) hb .nil hx hab
/-- a call of a def that may raise -/
theorem pe_calS {W : WX} (K0 : Cal X.prog X.w X.K X.mg X.base (L2.CX X.prog X.w) n x ps sp) (hr : Room m X.A) (tk : Takes X W) (ha : PA X (e :: es) t) (hg : Gl X x := by rfl) (hn : n ≤ m := by decide)
    (hdb : (x == ("__debug__" : Str)) = false := by decide) (he : starEach (e :: es) X.env = (false, eval e X.env) :: starEach es X.env := by rfl) (hpl : (backTo pos (starEach es X.env)).any (·.1) = false := by rfl) : PE X (.Call (.Name x p) (e :: es) [] pos) (tCallS sp (WE W) t) := by
  obtain ⟨f, fd, F, hm, hk, hb⟩ := K0
  exact pe_callS F (hr.mono hn) hg hm hk hb (fun σ => passAt tk σ) ha hdb he hpl
/-! len(o) by an own __len__ -/
structure LenC (P : Program) (w : World) (K : Fg) (mg : Str → Option Value) (base : Heap) (n : Nat) (C : Addr) (sp : Sp) : Prop where
  run : ∃ (f : Addr) (fd : FuncData), FnOk P w K mg base CX0 n f fd ["self"] sp ∧ L2.Binds K fd ["self"] [] ∧ PySem.W.findIn K (.ref C) "__len__" = some (some (.ref f)) ∧ PySem.W.isFn K (.ref f) = true
def rLenI (C : Addr) (sp : Sp) : List V → Hp → VK → Prop := fun xs H Q => ∃ (a dx : Addr) (fs : List (Str × V)), xs = [.ref a] ∧ H a = some (.ins C dx fs) ∧ sp [.ref a] H (fun v H' => ∃ k : Int, v = .int k ∧ 0 ≤ k ∧ k < 2 ^ 63 ∧ Q v H') E0
theorem call_lenI (L : LenC X.prog X.w X.K X.mg X.base n C sp) (hr : Room m X.A) (hn : n + 1 ≤ m := by decide) : CallR X (.builtin "len") (rLenI C sp) := by
  intro pins s σ H xs us Q I r h
  obtain ⟨a, dx, fs, rfl, ea, h⟩ := h
  obtain ⟨f, fd, F, hb, hs, hf⟩ := L.run
  cases r with
  | cons rv rn =>
    cases rn
    cases rv
    obtain ⟨mA, O, _⟩ := ins_get I.hok ea
    obtain ⟨od, J, _⟩ := O.look
    obtain ⟨m', hF⟩ := I.fr
    refine PySem.W.len_K hF I.ok.mod.kin J hs hf ?_
    have hr1 : Room n X.A.in1 := (hr.mono hn).in1
    refine wpAny_call (codeAny_mono (F.run X.A.in1 X.stack s H ⟨[.ref a], []⟩ [.ref a] [.ref a] _ _ hr1 I.env0.in1 (by have := hb s [.ref a] I.kIn rfl; simpa using this) (.cons rfl .nil) h) fun r s' hq => ?_)
    cases r with
    | error e => exact (show False from hq).elim
    | ok fl =>
      cases fl with
      | ret u =>
        obtain ⟨v, H', I', rv, k, rfl, k0, k1, q⟩ := I.after hq
        obtain ⟨t, rfl⟩ := rv
        exact ⟨⟨k0, k1⟩, .int k, H', I'.tok _, ⟨_, rfl⟩, q⟩
      | next => exact False.elim hq
      | brk => exact False.elim hq
      | cont => exact False.elim hq
theorem ns_at {K : Fg} {h : Heap} {N : Addr} {mN : Str → Option Value} {y : Str} {v : Value} (kin : K.In h) (hns : h.Ns N mN) (e : PySem.W.nsIn K N y = some (some v)) : mN y = some v := by
  obtain ⟨o, es, ep, ho, hd, _, hf⟩ := hns
  unfold PySem.W.nsIn at e
  split at e
  · rename_i q
    have z := kin _ _ q
    rw [ho] at z
    cases z
    cases hd
    split at e
    · rename_i he
      cases e
      rw [← hf]
      unfold nsFind findBy
      rw [← Array.find?_toList, he]
      rfl
    · split at e <;> cases e
  · cases e
/-! o != u by an own __eq__ -/
structure NeC (P : Program) (w : World) (K : Fg) (mg : Str → Option Value) (base : Heap) (n : Nat) (C : Addr) (sp : Sp) : Prop where
  run : ∃ (f : Addr) (fd : FuncData), FnOk P w K mg base CX0 n f fd ["self", "other"] sp ∧ L2.Binds K fd ["self", "other"] [] ∧ PySem.W.typeIn K (.ref f) = some (.type "function") ∧
    ∃ nm q N bs hdct sn sub ab col dd k0 k1 k2 k3 k5 newId, K.lookup C = some (excClassObj nm q C N bs [.type "object"] hdct sn sub ab col dd k0 k1 k2 k3 k5 newId) ∧ PySem.W.nsOkIn K N = true ∧ PySem.W.nsIn K N "__eq__" = some (some (.ref f)) ∧ PySem.W.nsIn K N "__ne__" = some none
def rNeI (C : Addr) (sp : Sp) : R2 := fun x y H Q => ∃ (a b dx dy : Addr) (fs gs : List (Str × V)), x = .ref a ∧ y = .ref b ∧ H a = some (.ins C dx fs) ∧ H b = some (.ins C dy gs) ∧ sp [.ref a, .ref b] H (fun v H' => ∃ k : Bool, v = .bl k ∧ Q (.bl (!k)) H') E0
theorem op_neI (L : NeC X.prog X.w X.K X.mg X.base n C sp) (hr : Room m X.A) (hn : n + 1 ≤ m := by decide) : OpR X (compareOp .NotEq) (rNeI C sp) := by
  intro pins s σ H x y v u Q I rx ry h
  obtain ⟨a, b, dx, dy, fs, gs, rfl, rfl, ea, eb, h⟩ := h
  obtain ⟨f, fd, F, hb, hty, nm, q, N, bs, hdct, sn, sub, ab, col, dd, k0, k1, k2, k3, k5, newId, hC, hok, heq, hne⟩ := L.run
  cases rx
  cases ry
  obtain ⟨mA, O, _⟩ := ins_get I.hok ea
  obtain ⟨od, J, _⟩ := O.look
  obtain ⟨mB, O', _⟩ := ins_get I.hok eb
  obtain ⟨od', J', _⟩ := O'.look
  have XK := I.kIn
  have hns : s.heap.Ns N (s.heap.nsMap N) := Heap.Ns.of_isNs (PySem.W.isNs_of_in XK hok)
  have h1 : s.heap.nsMap N "__eq__" = some (.ref f) := ns_at XK hns heq
  have h2 : s.heap.nsMap N "__ne__" = none := PySem.W.ns_none_of XK hns hne
  obtain ⟨fo, hfo, hfc⟩ : ∃ fo, s.heap.get? f = some fo ∧ fo.cls = Value.type "function" := by
    have z : (List.lookup f X.K).map (·.cls) = some (Value.type "function") := hty
    rcases e : List.lookup f X.K with _ | fo
    · rw [e] at z; cases z
    · rw [e] at z; exact ⟨fo, XK _ _ e, Option.some.inj z⟩
  have ow : s.heap.OwnEqNoNe a C f "object" [.type "object"] :=
    ⟨_, fo, nm, q, N, bs, hdct, sn, sub, ab, col, dd, k0, k1, k2, k3, k5, newId, _, some (.builtin "object.__eq__"), J.at_, J.cls, XK _ _ hC, hns, h1, hfo, hfc, PySem.F.mro_object, by rw [typeLookup_type, builtinLookup_eq_fast]; kernel_rfl, h2⟩
  have hr1 : Room n X.A.in1 := (hr.mono hn).in1
  obtain ⟨hp, g, dr, tk, os⟩ := s
  refine compareOp_ne_ownEq PySem.F.cmp_object ow J'.at_ J'.cls (by have := hr.un; omega) ?_
  refine wpAny_call (codeAny_mono (F.run X.A.in1 X.stack _ H ⟨[.ref a, .ref b], []⟩ [.ref a, .ref b] [.ref a, .ref b] _ _ hr1 I.env0.in1 (by have := hb ⟨hp, g, dr, tk, os⟩ [.ref a, .ref b] I.kIn rfl; simpa using this) (.cons rfl (.cons rfl .nil)) h) fun r s' hq => ?_)
  cases r with
  | error e => exact (show False from hq).elim
  | ok fl =>
    cases fl with
    | ret u =>
      obtain ⟨v, H', I', rv, k, rfl, q⟩ := I.after hq
      cases rv
      exact ⟨k, rfl, .bl (!k), H', I', rfl, q⟩
    | next => exact False.elim hq
    | brk => exact False.elim hq
    | cont => exact False.elim hq
end
section
variable {K : Fg} {σ : L2.St} {H H' : Hp} {ta : TE} {t : TA} {d : D} {C : Addr} {ns : List Str} {ds es : List D} {f m : Str} {sp : Sp} {E : XK}
theorem lookup_none {fs : List (Str × V)} (hn : fs.map (·.1) = ns) (h : m ∉ ns) : fs.lookup m = none := by
  subst hn
  induction fs with
  | nil => rfl
  | cons p fs ih =>
    simp only [List.map_cons, List.mem_cons, not_or] at h
    have e : (m == p.1) = false := by simpa using h.1
    simp only [List.lookup, e]
    exact ih h.2
theorem lookup_at {fs : List (Str × V)} {w : V} : ∀ {i : Nat}, (fs.map (·.1)).Nodup → (fs.map (·.1))[i]? = some f → (fs.map (·.2))[i]? = some w → fs.lookup f = some w := by
  induction fs with
  | nil => intro i _ h1; simp at h1
  | cons p fs ih =>
    intro i hnd h1 h2
    cases i with
    | zero =>
      simp at h1 h2
      simp [List.lookup, h1, h2]
    | succ i =>
      have hnd' : p.1 ∉ fs.map (·.1) ∧ (fs.map (·.1)).Nodup := List.nodup_cons.mp hnd
      have hm : f ∈ fs.map (·.1) := List.mem_of_getElem? (by simpa using h1)
      have ne : (f == p.1) = false := by
        rw [beq_eq_false_iff_ne]
        rintro rfl
        exact hnd'.1 hm
      simp only [List.lookup, ne]
      exact ih hnd'.2 (by simpa using h1) (by simpa using h2)
/-- a property that hands a field out -/
theorem gd_prp {g : Str} {i : Nat} (h : GD K ta σ H (.ob C ns ds)) (hi : ns[i]? = some g) (hn : ns.Nodup) (hd : ds[i]? = some d) : GD K (tProp C (getSp C g) [] E ta) σ H d := fun H1 e Q q =>
  h H1 e _ fun v H2 e2 hv => by
    cases hv with
    | @ob a C dx fs ns ds ho hm ha =>
      subst hm
      obtain ⟨w, hw, hwd⟩ := ha.getD hd
      exact ⟨a, dx, fs, rfl, ho, a, dx, fs, w, rfl, ho, lookup_at hn hi hw, q w H2 e2 hwd⟩
theorem gd_meth (h : GD K ta σ H (.ob C ns ds)) (hm : m ∉ ns) (ha : GA K t σ H es) (hs : ∀ vs H1 Q, Same H H1 → Dns K H1 vs (.ob C ns ds :: es) → (∀ v H2, Same H1 H2 → Dn K H2 v d → Q v H2) → sp vs H1 Q E) : GD K (tMeth C m sp [] E ta t) σ H d := fun H1 e Q q =>
  h H1 e _ fun v H2 e2 hv => by
    have hv' := hv
    cases hv with
    | @ob a _ dx fs _ _ ho hnm hx =>
      refine ⟨a, dx, fs, rfl, ho, lookup_none hnm hm, ha H2 (e.trans e2) _ fun vs H3 e3 hvs => ?_⟩
      rw [List.append_nil]
      exact hs _ H3 Q ((e.trans e2).trans e3) (.cons (hv'.up e3) hvs) fun v H4 e4 hd => q v H4 ((e2.trans e3).trans e4) hd
theorem rc_lenI {k : Int} (h0 : 0 ≤ k) (h1 : k < 2 ^ 63) {α : Type} {args : α → List D} {pre : α → Prop} {res : α → D} (a : α) (ha : args a = [.ob C ns ds]) (hp : pre a) (hr : res a = .int k) : RCD K (rLenI C (spOf K args pre res)) [.ob C ns ds] (.int k) := fun vs H Q hv q => by
  obtain ⟨v, rfl, hw⟩ := hv.un1
  clear hv
  have hv' := hw
  cases hw with
  | @ob a' _ dx fs _ _ ho hnm hx =>
    refine ⟨a', dx, fs, rfl, ho, a, by rw [ha]; exact .cons hv' .nil, hp, fun v H2 e2 hd => ?_⟩
    rw [hr] at hd
    cases hd
    exact ⟨k, rfl, h0, h1, q _ H2 e2 (.int k)⟩
theorem r_neIns {b : Bool} {ns' : List Str} {es : List D} {α : Type} {args : α → List D} {pre : α → Prop} {res : α → D} (a : α) (ha : args a = [.ob C ns ds, .ob C ns' es]) (hp : pre a) (hr : res a = .bl b) : R2D K (rNeI C (spOf K args pre res)) (.ob C ns ds) (.ob C ns' es) (.bl (!b)) := fun x y H Q hx hy q => by
  have hx' := hx
  have hy' := hy
  cases hx with
  | @ob a1 _ dx fs _ _ ho hnm hfs =>
    cases hy with
    | @ob a2 _ dy gs _ _ ho2 hnm2 hgs =>
      refine ⟨a1, a2, dx, dy, fs, gs, rfl, rfl, ho, ho2, a, by rw [ha]; exact .cons hx' (.cons hy' .nil), hp, fun v H2 e2 hd => ?_⟩
      rw [hr] at hd
      cases hd
      exact ⟨b, rfl, q _ H2 e2 (.bl _)⟩
/-- C(..): what the new object becomes -/
theorem gd_make (ha : GA K t σ H es) (hs : ∀ vs H1 x dx Q, Same H H1 → Dns K H1 vs es → H1 x = none → H1 dx = none → dx ≠ x → (∀ H2 fs, Same H1 H2 → H2 x = some (.ins C dx fs) → fs.map (·.1) = ns → Dns K H2 (fs.map (·.2)) ds → Q .non H2) →
    sp (.ref x :: vs) (upd (upd H1 dx (.own x)) x (.ins C dx [])) Q E) : GD K (tMake C sp [] E t) σ H (.ob C ns ds) := fun H1 e Q q =>
  ha H1 e _ fun vs H2 e2 hv x dx hx hdx hne => by
    rw [List.append_nil]
    exact hs vs H2 x dx _ (e.trans e2) hv hx hdx hne fun H3 fs e3 ho hm hd => ⟨rfl, q _ H3 (e2.trans e3) (.ob ho hm hd)⟩
theorem gd_calS {W : WX} (ha : GA K t σ H es) (hs : ∀ vs H1 Q, Same H H1 → Dns K H1 vs es → (∀ v H2, Same H1 H2 → Dn K H2 v d → Q v H2) → sp vs H1 Q (WE W σ)) : GD K (tCallS sp (WE W) t) σ H d := fun H1 e Q q =>
  ha H1 e _ fun vs H2 e2 hv => hs vs H2 Q (e.trans e2) hv fun v H3 e3 hd => q v H3 (e2.trans e3) hd
end
end Cc

namespace My
open PySem L2 RZ Cc
abbrev storeNs : List Str := ["_places", "_size", "_doors", "_crates"]
def storeDs (l : List (Int × Int)) (e : D) : List D := [.tup (placesFrom 0 l), .int (sizeOf l), doorsD l, e]
def storeD (C : Addr) (l : List (Int × Int)) (e : D) : D := .ob C storeNs (storeDs l e)
/-- what the top says of the class Store and its errors -/
structure TxtS (P : Program) (w : World) (K : Fg) (mg : Str → Option Value) (C CI fI CP CD : Addr) : Prop extends Txt2 K mg where
  cls : Cls K C
  nPl : NoAttr K C "_places"
  nSz : NoAttr K C "_size"
  nDo : NoAttr K C "_doors"
  nCr : NoAttr K C "_crates"
  g_Store : Cst mg "Store" (.ref C)
  x_InvalidStore : ErrF P w K mg "InvalidStore" CI fI "part"
section
variable {P : Program} {w : World} {K : Fg} {mg : Str → Option Value} {base : Heap} {C CI fI CP CD : Addr}
/-! Store.__len__ -/
abbrev spLenS (K : Fg) (C : Addr) : Sp := spOf (α := List (Int × Int) × D) K (fun a => [storeD C a.1 a.2]) (fun a => a.1.length ≤ 100000) fun a => .int (a.1.length : Nat)
theorem ok_len {f : Addr} {fd : FuncData} (F : Fun K "__len__" "Store.__len__" s_Store___len__ f fd) (T : TxtS P w K mg C CI fI CP CD) : FnOk P w K mg base CX0 1 f fd ["self"] (spLenS K C) := by
  refine F.ok sc_Store___len__ (fun vs H Q E h => ?_) (fun cdv A outer s H vs Q E hr h => ?_)
  · obtain ⟨a, h, _⟩ := h
    exact h.length
  · obtain ⟨⟨l, e⟩, hv, hp, k⟩ := h
    obtain ⟨v, rfl, hv1⟩ := hv.un1
    refine ⟨_, (pss_one (ps_ret (pe_callB (lenK K) (by rfl) T.len PySem.boot_len (pa_cons (pe_fK K (pv 0)) pa_nil)))), ?_⟩
    refine s_retK (k.up (.refl _)) (gd_cb (ga1 (gd_fld (C := C) (ns := storeNs) (gd_var rfl hv1) T.cls T.nDo (i := 2) rfl (by decide) rfl)) (rc_len (d := doorsD l) (n := l.length) ?_ (by simpa using hp)))
    simp [doorsD, D.len]
/-! has_door, check_door -/
def isDoorNum (d : D) (n : Nat) : Bool := isNum d 0 ((n : Int) - 1)
abbrev spHasDoor (K : Fg) (C : Addr) : Sp := spOf (α := List (Int × Int) × D × D) K (fun a => [storeD C a.1 a.2.1, a.2.2]) (fun a => a.1.length ≤ 100000 ∧ a.2.2.noob = true) fun a => .bl (isDoorNum a.2.2 a.1.length)
theorem ok_has_door {f : Addr} {fd : FuncData} (F : Fun K "has_door" "has_door" s_has_door f fd) (T : TxtS P w K mg C CI fI CP CD) (C_is_number : Cal P w K mg base CX0 1 "is_number" ["value", "low", "high"] (spIsNumber K)) (L_Store : LenC P w K mg base 1 C (spLenS K C)) : FnOk P w K mg base CX0 3 f fd ["store", "door"] (spHasDoor K C) := by
  refine F.ok sc_has_door (fun vs H Q E h => ?_) (fun cdv A outer s H vs Q E hr h => ?_)
  · obtain ⟨a, h, _⟩ := h
    exact h.length
  · obtain ⟨⟨l, e, d⟩, hv, ⟨hp, hp2⟩, k⟩ := h
    obtain ⟨v, x, rfl, hv, hx⟩ := hv.un2
    refine ⟨_, (pss_one (ps_ret (pe_cal C_is_number hr pass0 (pa_cons (pv 1) (pa_cons pe_int (pa_cons (pe_op op_sub (pe_callB (call_lenI L_Store hr) (by rfl) T.len PySem.boot_len (pa_cons (pv 0) pa_nil)) pe_int) pa_nil)))))), ?_⟩
    refine s_retK (k.up (.refl _)) (gd_call (d, 0, (l.length : Int) - 1) (ga_cons (gd_var rfl hx) (ga2 gd_i (gd_op (gd_cb (ga1 (gd_var rfl hv)) (rc_lenI (k := (l.length : Nat)) (by omega) (by have : l.length ≤ 100000 := hp; omega) (l, e) rfl hp rfl)) gd_i r_int))) hp2)
end
end My

/-! fields of a new instance, stored one by one -/
namespace Cc
open PySem L2
mutual
/-- only plain values and tuples -/
def D.imm : D → Bool
  | .lst _ => false
  | .tup ds => D.imms ds
  | .ob _ _ _ => false
  | .ptup _ => false
  | _ => true
def D.imms : List D → Bool
  | [] => true
  | d :: ds => d.imm && D.imms ds
end
theorem D.imms_iff {ds : List D} : D.imms ds = true ↔ ∀ d ∈ ds, d.imm = true := by
  induction ds with
  | nil => simp [D.imms]
  | cons d ds ih => simp [D.imms, ih]
section
variable {K : Fg} {H H' : Hp}
mutual
theorem Dn.byT (e : ∀ a xs, SqT K H a xs → SqT K H' a xs) : ∀ (d : D) (v : V), d.imm = true → Dn K H v d → Dn K H' v d
  | .non, _, _, h => by cases h; exact .non
  | .bl b, _, _, h => by cases h; exact .bl b
  | .int i, _, _, h => by cases h; exact .int i
  | .str x, _, _, h => by cases h; exact .str x
  | .lst _, _, f, _ => by cases f
  | .ob _ _ _, _, f, _ => by cases f
  | .ptup _, _, f, _ => by cases f
  | .tup ds, _, f, h => by
    cases h with
    | tup hs ha => exact .tup (e _ _ hs) (Dns.byT e ds _ f ha)
theorem Dns.byT (e : ∀ a xs, SqT K H a xs → SqT K H' a xs) : ∀ (ds : List D) (vs : List V), D.imms ds = true → Dns K H vs ds → Dns K H' vs ds
  | [], _, _, h => by cases h; exact .nil
  | d :: ds, _, f, h => by
    cases h with
    | cons h1 h2 =>
      have f' : d.imm = true ∧ D.imms ds = true := by simpa [D.imms] using f
      exact .cons (Dn.byT e d _ f'.1 h1) (Dns.byT e ds _ f'.2 h2)
end
theorem sqT_upd {x C dx : Addr} {fs : List (Str × V)} {o : HO} (hx : H x = some (.ins C dx fs)) : ∀ a xs, SqT K H a xs → SqT K (upd H x o) a xs := fun a xs h => by
  have ne : ∀ u, H a = some u → (∀ C dx fs, u ≠ .ins C dx fs) → a ≠ x := fun u hu n z => by
    subst z
    rw [hx] at hu
    exact n _ _ _ (Option.some.inj hu).symm
  rcases h with (h | ⟨q, h⟩) | h
  · exact .inl (.inl (by rw [upd_ne (ne _ h fun _ _ _ z => by cases z)]; exact h))
  · exact .inl (.inr ⟨q, by rw [upd_ne (ne _ h fun _ _ _ z => by cases z)]; exact h⟩)
  · exact .inr h
theorem putF_new {f : Str} {v : V} : ∀ {fs : List (Str × V)}, f ∉ fs.map (·.1) → putF f v fs = fs ++ [(f, v)]
  | [], _ => rfl
  | (g, x) :: r, h => by
    simp only [List.map_cons, List.mem_cons, not_or] at h
    have e : ¬ g = f := fun z => h.1 z.symm
    simp only [putF, if_neg e, List.cons_append]
    rw [putF_new h.2]
variable {σ : L2.St} {to te : TE} {d : D} {ds : List D} {ns : List Str} {f : Str} {E : Ends}
theorem s_fldN {x C dx : Addr} {fs : List (Str × V)} (ho : ∀ H1, Same H H1 → ∀ Q : VK, Q (.ref x) H1 → to σ H1 Q) (he : GD K te σ H d) (hx : H x = some (.ins C dx fs)) (hm : fs.map (·.1) = ns) (hd : Dns K H (fs.map (·.2)) ds) (hi : D.imms ds = true) (hi2 : d.imm = true) (hf : f ∉ ns) (hl : ns.length < 900)
    (c : Cls K C) (n : NoAttr K C f) (k : ∀ H2 fs', But [x] H H2 → H2 x = some (.ins C dx fs') → fs'.map (·.1) = ns ++ [f] → Dns K H2 (fs'.map (·.2)) (ds ++ [d]) → E.nx σ H2) : sFld K to te f E σ H :=
  he H (Same.refl _) _ fun v H1 e1 hv => ho H1 e1 _ (by
    have hx1 := e1 _ _ hx
    have hle : fs.length < 1000 := by
      have : fs.length = ns.length := by rw [← hm]; simp
      omega
    refine ⟨x, C, dx, fs, rfl, hx1, c, n, hle, ?_⟩
    rw [putF_new (by rw [hm]; exact hf)]
    refine k _ _ ((But.of e1).trans (But.upd (by simp))) upd_same (by simp [hm]) ?_
    rw [List.map_append]
    exact Dns.app (Dns.byT (sqT_upd hx1) ds _ hi (hd.up e1)) (.one (Dn.byT (sqT_upd hx1) d v hi2 hv)))
theorem s_raiseS {C : Addr} {fld z : Str} {W : WX} {j : TA} (hz : z.length ≤ 1000) (k : ∀ dd, H dd = none → W (.ref C) (some dd) σ (upd H dd (.xd [(fld, .str z)]))) : tRaiseF C fld W (tCons (tC (.str z)) tNil) E σ H :=
  ⟨.str z, rfl, .inl ⟨z, rfl, hz⟩, k⟩
end
end Cc

namespace My
open PySem L2 RZ Cc
theorem imms_places : ∀ (l : List (Int × Int)) (b : Int), D.imms (placesFrom b l) = true
  | [], _ => rfl
  | p :: r, b => by
    have h : D.imms ((List.range p.2.toNat).map fun k => D.int (b + (k : Nat))) = true := D.imms_iff.mpr fun d hd => by
      obtain ⟨k, _, rfl⟩ := List.mem_map.mp hd
      rfl
    simp only [placesFrom, D.imms, D.imm, imms_places r, h, Bool.and_self]
theorem imm_doors (l : List (Int × Int)) : (doorsD l).imm = true := D.imms_iff.mpr fun d hd => by
  obtain ⟨k, _, rfl⟩ := List.mem_map.mp hd
  rfl
theorem imm_crates {e : D} {n : Int} (h : cratesFit e n = true) : e.imm = true := by
  cases e with
  | tup ds =>
    simp only [cratesFit, Bool.and_eq_true, List.all_eq_true] at h
    refine D.imms_iff.mpr fun d hd => ?_
    have := h.1.2 d hd
    cases d <;> first | rfl | cases this
  | _ => cases h
theorem lens_places : ∀ (l : List (Int × Int)) (b : Int), (∀ p ∈ l, 0 ≤ p.2) → (placesFrom b l).map (fun d => D.int (match d with | .tup ds => ds.length | _ => 0 : Nat)) = (l.map (·.2)).map D.int
  | [], _, _ => rfl
  | p :: r, b, h => by
    have h0 := h p List.mem_cons_self
    have e : ((p.2.toNat : Nat) : Int) = p.2 := by omega
    simp only [placesFrom, List.map_cons, lens_places r (b + p.2) fun q hq => h q (List.mem_cons_of_mem _ hq), List.length_map, List.length_range, e]
theorem len_places : ∀ (l : List (Int × Int)) (b : Int), (placesFrom b l).length = l.length
  | [], _ => rfl
  | p :: r, b => by simp [placesFrom, len_places r]
theorem mem_places {d : D} : ∀ (l : List (Int × Int)) (b : Int), (∀ p ∈ l, p.2 ≤ 100) → d ∈ placesFrom b l → ∃ ds, d = .tup ds ∧ ds.length ≤ 100
  | [], _, _, h => by cases h
  | p :: r, b, hb, h => by
    rcases List.mem_cons.mp h with rfl | h
    · exact ⟨_, rfl, by have := hb p List.mem_cons_self; simp; omega⟩
    · exact mem_places r _ (fun q hq => hb q (List.mem_cons_of_mem _ hq)) h
section
variable {P : Program} {w : World} {K : Fg} {mg : Str → Option Value} {base : Heap} {C CI fI CP CD : Addr}
def spInit (K : Fg) (C CI : Addr) : Sp := fun vs H Q E => ∃ (H1 : Hp) (x dx : Addr) (vd ve : V) (d e : D), vs = [.ref x, vd, ve] ∧ H1 x = none ∧ H1 dx = none ∧ dx ≠ x ∧ H = upd (upd H1 dx (.own x)) x (.ins C dx []) ∧ Dn K H1 vd d ∧ Dn K H1 ve e ∧ doorsOk d = true ∧ cratesOk e = true ∧
  (doorsFit d = false → ∀ H2 dd, Same H1 H2 → H2 dd = some (.xd [("part", .str "doors")]) → E (.ref CI) (some dd) H2) ∧
  (∀ l, d = doorsD l → GoodDoors l → cratesFit e (sizeOf l) = false → ∀ H2 dd, Same H1 H2 → H2 dd = some (.xd [("part", .str "crates")]) → E (.ref CI) (some dd) H2) ∧
  (∀ l, d = doorsD l → GoodDoors l → cratesFit e (sizeOf l) = true → ∀ H2 fs, Same H1 H2 → H2 x = some (.ins C dx fs) → fs.map (·.1) = storeNs → Dns K H2 (fs.map (·.2)) (storeDs l e) → Q .non H2)
theorem ok_init {f : Addr} {fd : FuncData} (F : Fun K "__init__" "Store.__init__" s_Store___init__ f fd) (T : TxtS P w K mg C CI fI CP CD) (C_doors_fit : Cal P w K mg base CX0 3 "doors_fit" ["doors"] (spDoorsFit K)) (C_places_behind : Cal P w K mg base CX0 1 "places_behind" ["doors"] (spPlacesBehind K))
    (C_crates_fit : Cal P w K mg base CX0 3 "crates_fit" ["crates", "size"] (spCratesFit K)) : FnOk P w K mg base (L2.CX P w) 4 f fd ["self", "doors", "crates"] (spInit K C CI) := by
  refine F.okX sc_Store___init__ (fun vs H Q E h => ?_) (fun cdv A outer s H vs Q E hr h => ?_)
  · obtain ⟨_, _, _, _, _, _, _, rfl, _⟩ := h
    rfl
  · obtain ⟨H0, x, dx, vd, ve, d, e, rfl, hx0, hdx0, hne, rfl, hd, he, ok1, ok2, k1, k2, k3⟩ := h
    refine ⟨_, (pss_cons (ps_if (pt_not (pt_val (pe_cal C_doors_fit hr pass0 (pa_cons (pv 1) pa_nil)))) (pss_one (ps_raiseF rfl (takes_of rfl rfl rfl rfl) T.x_InvalidStore hr (by decide) (pa_cons pe_str pa_nil))) pss_nil)
      (pss_cons (ps_fld (pv 0) (pe_cal C_places_behind hr pass0 (pa_cons (pv 1) pa_nil)) rfl)
      (pss_cons (ps_fld (pv 0) (pe_callB (sumK K) (by rfl) T.sum (by decide +kernel) (pa_cons (pe_lc (own := [("places", 3)]) (g := gName 3) rfl sc_Store___init__.nd (pi_tK K (pe_fK K (pv 0))) (blkOk_by (own := [("places", 3)]) (N := ["self", "doors", "crates", "places"]) (sc := defScope s_Store___init__) (by decide +kernel)) (fun _ _ _ _ _ => (pg_name (i := 3) sc_Store___init__.nd rfl (Or.inl rfl))) (fun _ _ _ _ _ => pts_nil) (fun _ _ _ _ _ => (pe_callB (lenK K) (by rfl) T.len PySem.boot_len (pa_cons (pv 3) pa_nil)))) pa_nil)) rfl)
      (pss_cons (ps_if (pt_not (pt_val (pe_cal C_crates_fit hr pass0 (pa_cons (pv 2) (pa_cons (pe_fK K (pv 0)) pa_nil))))) (pss_one (ps_raiseF rfl (takes_of rfl rfl rfl rfl) T.x_InvalidStore hr (by decide) (pa_cons pe_str pa_nil))) pss_nil)
      (pss_cons (ps_fld (pv 0) (pv 1) rfl)
      (pss_one (ps_fld (pv 0) (pv 2) rfl))))))), ?_⟩
    have e0 : Same H0 (upd (upd H0 dx (.own x)) x (.ins C dx [])) := (Same.new hdx0).trans (Same.new (by rw [upd_ne hne.symm]; exact hx0))
    have hx1 : (upd (upd H0 dx (.own x)) x (.ins C dx [])) x = some (.ins C dx []) := upd_same
    generalize upd (upd H0 dx (.own x)) x (.ins C dx []) = H1 at e0 hx1 ⊢
    refine s_when (b := !doorsFit d) (gt_not (gt_B (gd_call d (ga1 (gd_var rfl (hd.up e0))) ok1))) (fun h H2 e2 => ?_) (fun h H2 e2 => ?_)
    · refine s_raiseS (j := tNil) (by decide) fun dd hdd => k1 (by simpa using h) _ dd (((e0.trans e2)).trans (Same.new hdd)) upd_same
    · obtain ⟨l, rfl, G⟩ := doorsFit_iff (by simpa using h : doorsFit d = true)
      have g1 : ∀ p ∈ l, 0 ≤ p.2 ∧ p.2 ≤ 100 := fun p hp => by have := G.each p hp; omega
      have sx : ∀ {Ha Hb : Hp}, Same H0 Ha → But [x] Ha Hb → Same H0 Hb := fun {Ha Hb} a b => But.fresh a b fun m hm => by rw [List.mem_singleton.mp hm]; exact hx0
      dsimp only
      refine s_fldN (K := K) (x := x) (d := .tup (placesFrom 0 l)) (at_var rfl) (gd_call l (ga1 (gd_var rfl (hd.up (e0.trans e2)))) ⟨by have := G.hi; omega, g1⟩) (e2 _ _ hx1) rfl .nil rfl (imms_places l 0) (by decide) (by decide) T.cls T.nPl fun H3 fs3 b3 hx3 hn3 hd3 => ?_
      have e3 := sx (e0.trans e2) b3
      dsimp only
      have self3 : ∀ {Hc : Hp}, Same H3 Hc → Dn K Hc (.ref x) (.ob C ["_places"] [.tup (placesFrom 0 l)]) := fun {Hc} q => (Dn.ob hx3 hn3 hd3).up q
      have hin : ∀ p ∈ l, 0 ≤ p.2 := fun p hp => (g1 p hp).1
      refine s_fldN (K := K) (x := x) (d := .int (sizeOf l)) (at_var rfl) ?_ hx3 hn3 hd3 (imms_places l 0 |> fun q => by simp [D.imms, D.imm, q]) rfl (by decide) (by decide) T.cls T.nSz fun H4 fs4 b4 hx4 hn4 hd4 => ?_
      · refine gd_cb (ga1 (GN.gd (gn_map (K := K) (ds := placesFrom 0 l) (fun d => D.int (match d with | .tup ds => ds.length | _ => 0 : Nat)) (fun Hc c => gi_tupC (gd_fld (C := C) (ns := ["_places"]) (gd_var rfl (self3 c)) T.cls T.nPl (i := 0) rfl (by decide) rfl)) (by rw [len_places]; have := G.hi; omega) (fun _ => rfl) (fun _ _ => rfl) ?_) |>.is (by rw [lens_places l 0 hin]))) rc_sum
        intro d y Hc hd c hy
        obtain ⟨ds, rfl, hl⟩ := mem_places l 0 (fun p hp => (g1 p hp).2) hd
        exact gd_cb (ga1 (gd_var rfl hy)) (rc_len (d := .tup ds) (n := ds.length) rfl (by omega))
      have e4 := sx e3 b4
      dsimp only
      refine s_when (b := !cratesFit e (sizeOf l)) (gt_not (gt_B (gd_call (e, sizeOf l) (ga2 (gd_var rfl (he.up e4)) (gd_fld (C := C) (ns := ["_places", "_size"]) (gd_var rfl (Dn.ob hx4 hn4 hd4)) T.cls T.nSz (i := 1) rfl (by decide) rfl)) ok2))) (fun h H5 e5 => ?_) (fun h H5 e5 => ?_)
      · refine s_raiseS (j := tNil) (by decide) fun dd hdd => k2 l rfl G (by simpa using h) _ dd (((e4.trans e5)).trans (Same.new hdd)) upd_same
      · have hce : cratesFit e (sizeOf l) = true := by simpa using h
        have e45 := e4.trans e5
        dsimp only
        refine s_fldN (K := K) (x := x) (d := doorsD l) (at_var rfl) (gd_var rfl (hd.up e45)) (e5 _ _ hx4) hn4 (hd4.up e5) (by simp [D.imms, D.imm, imms_places l 0]) (imm_doors l) (by decide) (by decide) T.cls T.nDo fun H6 fs6 b6 hx6 hn6 hd6 => ?_
        have e6 := sx e45 b6
        dsimp only
        refine s_fldN (K := K) (x := x) (d := e) (at_var rfl) (gd_var rfl (he.up e6)) hx6 hn6 hd6 (by simp [D.imms, D.imm, imms_places l 0, imm_doors l]) (imm_crates hce) (by decide) (by decide) T.cls T.nCr fun H7 fs7 b7 hx7 hn7 hd7 => ?_
        exact k3 l rfl G hce H7 fs7 (sx e6 b7) hx7 hn7 hd7
end
end My

/-! an error that is held in an except suite: isinstance, its field; counting in a list -/
namespace Cc
open PySem L2 PyProof.Rows
/-- what isinstance of such an error gives: with a dict or without one -/
def rIsX (K : Fg) (a : Addr) (cls : Value) (d : Option Addr) : List V → Hp → VK → Prop := fun xs H Q => ∃ (D : Addr) (c : V) (cv : Value) (b : Bool), cls = .ref D ∧ ExcC K D ∧ (d = none ∨ ∃ dd fs, d = some dd ∧ H dd = some (.xd fs)) ∧ xs = [.ref a, c] ∧ ClsV c cv ∧ PySem.W.kitOne K (.ref D) cv = some b ∧ Q (.bl b) H
section
variable {X : Cx} {a : Addr} {oe : Obj} {cls : Value} {d : Option Addr} {pn : List (Addr × Obj)}
theorem clsV_rel {c : V} {cv u : Value} (h : ClsV c cv) (r : RelV c u) : u = cv := by cases h <;> exact r
theorem isX (hz : Zc cls d oe) (hf : ∃ vs, oe.data = .fields vs) {K : Fg} (hK : X.K = K := by rfl) : CallR (X.suite a ((a, oe) :: pn)) (.builtin "isinstance") (rIsX K a cls d) := by
  subst hK
  intro pins s σ H xs us Q I r h
  obtain ⟨D, c, cv, b, rfl, hD, hd, rfl, hc, hk, q⟩ := h
  cases r with
  | cons rx rr =>
    cases rr with
    | cons rt rr =>
      cases rr
      cases rx
      have ec := clsV_rel hc rt
      subst ec
      obtain ⟨hget, _⟩ := I.pin (a, oe) (List.mem_append.mpr (.inl List.mem_cons_self))
      obtain ⟨vs, hv⟩ := hf
      have hcl : (PySem.W.clsIn X.K D).isSome = true := by
        obtain ⟨cd, e, _⟩ := PySem.W.any_some hD.hd
        rw [e]; rfl
      have nc : PySem.W.notCls oe = true := by unfold PySem.W.notCls; rw [hv]
      have fin : ∀ tk, EP (X.suite a ((a, oe) :: pn)) pins σ Q (.bool b) { s with toks := tk } := fun tk => ⟨.bl b, H, I.kept (t' := tk) fun _ _ z => z, rfl, q⟩
      rcases hd with rfl | ⟨dd, fs, rfl, hx⟩
      · have J : PySem.W.InstAt s.heap a oe D none := ⟨hget, hz.1, nc, by rw [hz.2]; trivial⟩
        exact PySem.W.kia_one (PySem.W.kitx_exc hcl hD.hg hD.hk hD.hs hD.ha hD.hn hD.ht hD.hm) I.kIn J hk (fun z => nomatch z) fin
      · have ho : ObjOk X.prog X.w H s.heap dd (.xd fs) := I.hok dd _ hx
        obtain ⟨mA, ⟨od, _, _, hod, _⟩, _⟩ := ho
        have J : PySem.W.InstAt s.heap a oe D (some od) := ⟨hget, hz.1, nc, by rw [hz.2]; exact hod⟩
        exact PySem.W.kia_one (PySem.W.kitx_exc hcl hD.hg hD.hk hD.hs hD.ha hD.hn hD.ht hD.hm) I.kIn J hk (fun z => nomatch z) fin
/-- a field of the held error, its class told when it is read -/
def tXg (K : Fg) (a : Addr) (cls : Value) (d : Option Addr) (f : Str) (te : TE) : TE := fun σ H Q => te σ H fun x H1 => x = .ref a ∧ ∃ (C dd : Addr) (fs : List (Str × V)) (v : V), cls = .ref C ∧ XfC K C ∧ PySem.W.findIn K (.ref C) f = some none ∧ d = some dd ∧ H1 dd = some (.xd fs) ∧ fs.lookup f = some v ∧ Q v H1
theorem pe_xg {e : Expr} {te : TE} {pos : Pos} {n : Str} (hz : Zc cls d oe) (hf : ∃ vs, oe.data = .fields vs) (he : PE (X.suite a ((a, oe) :: pn)) e te) (hb : attributeBase e n X.env (eval e X.env) = eval e X.env := by rfl) {K : Fg} (hK : X.K = K := by rfl) : PE (X.suite a ((a, oe) :: pn)) (.Attribute e n pos) (tXg K a cls d n te) := by
  subst hK
  refine ⟨fun pins s σ H Q I h => attr_of hb (thn (he.run pins s σ H _ I h) fun u s1 hh => ?_)⟩
  obtain ⟨x, H1, I1, rx, rfl, C, dd, fs, v, rfl, XC, hno, rfl, ea, l, q⟩ := hh
  obtain rfl : u = Value.ref a := rx
  obtain ⟨hat, _⟩ := I1.pin (a, oe) (List.mem_append_left _ List.mem_cons_self)
  obtain ⟨vs, hdat⟩ := hf
  have hxd : ObjOk X.prog X.w H1 s1.heap dd (.xd fs) := I1.hok dd _ ea
  obtain ⟨mA, hns, hr⟩ := hxd
  obtain ⟨od, ho, hl⟩ := lookIn_ns hns
  obtain ⟨u, hu, ru⟩ := RelO.some_of (v := v) (o := mA n) (by rw [← l]; exact hr n)
  have nc : PySem.W.notCls oe = true := by unfold PySem.W.notCls; rw [hdat]
  have J : PySem.W.InstAt s1.heap a oe C (some od) := ⟨hat, hz.1, nc, by rw [hz.2]; exact ho⟩
  exact HandSPX.exc_get I1.kIn J XC.ga XC.gg XC.exC (PySem.W.findObj_own XC.hdC hno rfl (by rw [hl, hu])) (handed_of ru) ⟨v, H1, I1.tok _, ru, q⟩
/-- xs.count(y), all plain -/
def rCntF (K : Fg) : V → List V → Hp → VK → Prop := fun x xs H Q => ∃ (p : Addr) (ys : List V) (y : V), x = .ref p ∧ xs = [y] ∧ SqL K H p ys ∧ flatV y = true ∧ ys.all flatV = true ∧ Q (.int (ys.countP fun z => eqV z y : Nat)) H
theorem count_eqU {x : V} : ∀ {xs : List V} {us : List Value}, Vals xs us → xs.all flatV = true → us.countP (eqU x) = xs.countP fun y => eqV y x
  | _, _, .nil, _ => rfl
  | y :: xs, u :: us, .cons r t, f => by
    simp only [List.all_cons, Bool.and_eq_true] at f
    simp only [List.countP_cons, eqU_of r f.1, count_eqU t f.2]
theorem mt_cntF {K : Fg} (hK : X.K = K := by rfl) : MtR X "list.count" (rCntF K) := by
  subst hK
  intro pins s σ H x xs v us Q I rx rxs h
  obtain ⟨p, ys, y, rfl, rfl, hs, fy, fys, q⟩ := h
  cases rx
  obtain ⟨uy, rfl, ry⟩ := rxs.one
  obtain ⟨its, rv, ⟨⟨cl, dd, data, sl⟩, n, ho, hc, hdn, hdt⟩, hlen⟩ := I.list hs
  simp only at hc hdt
  subst hc hdt
  refine call_meets PySem.F.slot_list_count ⟨_, ho, rfl⟩ PySem.F.entry_list_count (PySem.F.args_list_count_2 _ _) (SeqAt.list_countAt p its.toArray n dd sl uy (eqU y)) ⟨ho, fun u' hu' => mem_eqAt ry fy rv fys u' (by simpa using hu'), ?_⟩
  have ec : its.toArray.toList.countP (eqU y) = ys.countP fun z => eqV z y := by simpa using count_eqU rv fys
  refine ⟨.int (ys.countP (fun z => eqV z y) : Nat), H, I.tok _, ⟨s.toks, ?_⟩, q⟩
  rw [← ec]
theorem mt_idxK {K : Fg} (hK : X.K = K := by rfl) : MtR X "list.index" (rIndex K) := hK ▸ mt_index
theorem pe_bmK {K : Fg} {T id : String} {name : Str} {o e : Expr} {es : List Expr} {to : TE} {t : TA} {apos cpos : Pos} {r : V → List V → Hp → VK → Prop} (pa : PlainAttrs T) (slot : Slot T name id) (hty : typeOf (.builtin id) = pure (.type "method_descriptor")) (hm : MtR X id r) (ho : PE X o to) (ha : PA X (e :: es) t)
    (hK : X.K = K := by rfl) (hbase : attributeBase o name X.env (eval o X.env) = eval o X.env := by rfl) (hline : (apos.endLine == cpos.line) = true := by rfl)
    (hfew : ((backTo cpos (starEach (e :: es) X.env)).all (fun x => !x.1) && (backToKw cpos (keywordEach [] X.env)).all (fun x => x.1.isSome) && decide ((e :: es).length + ([] : List Keyword).length + (if ([] : List Keyword).isEmpty then 0 else 1) < 30)) = true := by rfl)
    (he : starEach (e :: es) X.env = (false, eval e X.env) :: starEach es X.env := by rfl) (hpl : (backTo cpos (starEach es X.env)).any (·.1) = false := by rfl) : PE X (.Call (.Attribute o name apos) (e :: es) [] cpos) (tBM K T r to t) := by
  subst hK
  exact pe_bm pa slot hty hm ho ha hbase hfew hline he hpl
end
end Cc

/-! what a law's own body wants more -/
namespace Cc
open PySem L2 PyProof.Rows
def rRepS : R2 := fun x y H Q => ∃ (z : Str) (n : Int), x = .str z ∧ y = .int n ∧ MulOk z n ∧ Q (.str (Txt.mul z n)) H
theorem op_repS {X : Cx} : OpR X (binaryOp .Mult) rRepS := by
  intro pins s σ H x y v u Q I rx ry h
  obtain ⟨z, n, rfl, rfl, ok, q⟩ := h
  obtain ⟨t, rfl⟩ := rx
  obtain ⟨t', rfl⟩ := ry
  exact SB.mul ok fun t2 k => ⟨.str (Txt.mul z n), H, I.tok _, ⟨_, rfl⟩, q⟩
theorem repT {X : Cx} {K : Fg} (h : X.K = K := by rfl) : OpR X (binaryOp .Mult) (rRepT K) := h ▸ op_repT
section
variable {K : Fg} {σ : L2.St} {H H' : Hp} {ta tb te : TE} {d e z : D} {E : Ends}
theorem r_neg {i : Int} : R1D K (rU fun i => .int (-i)) (.int i) (.int (-i)) := fun x H Q hx q => by
  cases hx
  exact ⟨i, rfl, q _ H (Same.refl _) (.int _)⟩
theorem r_repS {z y : Str} {n : Int} (ok : MulOk z n) (h : Txt.mul z n = y) : R2D K rRepS (.str z) (.int n) (.str y) := fun v w H Q hv hw q => by
  cases hv; cases hw
  subst h
  exact ⟨z, n, rfl, rfl, ok, q _ H (Same.refl _) (.str _)⟩
theorem r_repT {ds : List D} {k : Int} (h0 : ds ≠ []) (h1 : 2 ≤ k) (h2 : k ≤ 1000) (h3 : ds.length ≤ 1000) : R2D K (rRepT K) (.tup ds) (.int k) (.tup (List.replicate k.toNat ds).flatten) := fun v w H Q hv hw q => by
  cases hw
  cases hv with
  | @tup a xs _ hs hd =>
    have hl := hd.length
    refine ⟨a, k, xs, rfl, rfl, hs, fun z => ?_, h1, h2, by omega, fun p hp => q _ _ (Same.new hp) (.tup (.inl (.inl upd_same)) ((Dns.rep hd k.toNat).up (Same.new hp)))⟩
    subst z
    have : ds.length = 0 := by simpa using hl.symm
    exact h0 (List.eq_nil_of_length_eq_zero this)
/-- a, b = e by way of a tuple -/
theorem s_asgT {i j : Nat} (h : GD K te σ H (.tup [d, e])) (k : ∀ v w H1, Same H H1 → Dn K H1 v d → Dn K H1 w e → E.nx ((σ.set i (some v)).set j (some w)) H1) : tAsg te (gTup K 2 (gCons (gName i) (gCons (gName j) gNil))) E σ H := h H (Same.refl _) _ fun v H1 e1 hv => by
  cases hv with
  | @tup a xs _ hs hd =>
    obtain ⟨x, y, rfl, hx, hy⟩ := hd.un2
    exact ⟨a, _, rfl, hs, rfl, _, _, rfl, _, _, rfl, rfl, k x y H1 e1 hx hy⟩
theorem ext_kp (e : LamX.ExtN H H') : Kp H H' := fun b o h i => e b o h fun ps z => by subst z; cases i
theorem ext_lst (e : LamX.ExtN H H') {a : Addr} {xs : List V} (h : H a = some (.lst xs)) : H' a = some (.lst xs) := e a _ h fun ps z => by cases z
theorem tabs_but {T : List (Addr × Str)} {r : Addr} {xs : List V} (h : LamX.Tabs T H) (hr : H r = some (.lst xs)) (b : But [r] H H') : LamX.Tabs T H' := fun p hp => by
  obtain ⟨ps, h1, h2, h3⟩ := h p hp
  have nr : ∀ c o, H c = some o → (∀ ys, o ≠ .lst ys) → c ∉ [r] := fun c o hc hn hm => by
    rw [List.mem_singleton.mp hm, hr] at hc
    exact hn xs (Option.some.inj hc).symm
  refine ⟨ps, b _ _ h1 (nr _ _ h1 fun ys z => by cases z), h2, fun pos cv hcv => ?_⟩
  obtain ⟨c, e1, e2⟩ := h3 pos cv hcv
  exact ⟨c, e1, b _ _ e2 (nr _ _ e2 fun ys z => by unfold LamX.CodeO at z; cases z)⟩
end
end Cc

/-! counting in a tuple -/
namespace Cc
open PySem L2 PyProof.Rows
def rCntT (K : Fg) : V → List V → Hp → VK → Prop := fun x xs H Q => ∃ (p : Addr) (ys : List V) (y : V), x = .ref p ∧ xs = [y] ∧ SqT K H p ys ∧ flatV y = true ∧ ys.all flatV = true ∧ Q (.int (ys.countP fun z => eqV z y : Nat)) H
theorem mt_cntT {X : Cx} {K : Fg} (hK : X.K = K := by rfl) : MtR X "tuple.count" (rCntT K) := by
  subst hK
  intro pins s σ H x xs v us Q I rx rxs h
  obtain ⟨p, ys, y, rfl, rfl, hs, fy, fys, q⟩ := h
  cases rx
  obtain ⟨uy, rfl, ry⟩ := rxs.one
  obtain ⟨its, rv, ⟨⟨cl, dd, data, sl⟩, ho, hc, n, hdt⟩, hlen⟩ := I.tuple hs
  simp only at hc hdt
  subst hc hdt
  refine call_meets PySem.F.slot_tuple_count ⟨_, ho, rfl⟩ PySem.F.entry_tuple_count (PySem.F.args_tuple_count_2 _ _) (SeqAt.tuple_countAt p its.toArray n dd sl uy (eqU y)) ⟨ho, fun u' hu' => mem_eqAt ry fy rv fys u' (by simpa using hu'), ?_⟩
  have ec : its.toArray.toList.countP (eqU y) = ys.countP fun z => eqV z y := by simpa using count_eqU rv fys
  refine ⟨.int (ys.countP (fun z => eqV z y) : Nat), H, I.tok _, ⟨s.toks, ?_⟩, q⟩
  rw [← ec]
end Cc

/-! tuples of exact type made at run time: made by a literal and by +, a method called on them -/
namespace Cc
open PySem L2 PyProof.Rows
section
variable {X : Cx}
def tTupP (t : TA) : TE := fun σ H Q => t σ H fun xs H1 => xs.length ≤ sizeLine ∧ ∀ p o, H1 p = none → PlO o → Q (.ref p) (upd H1 p (.frz o (.tup xs)))
theorem pe_tupP {es : List Expr} {t : TA} {pos : Pos} {x1} (h : PA X es t) : PE X (.Tuple es x1 pos) (tTupP t) := by
  refine ⟨fun pins s σ H Q I hq => ?_⟩
  refine wpAny_Tuple_spliced (thn (h.run pos pins s σ H _ I hq) fun us s1 ⟨xs, H1, I1, r, z, q⟩ => ⟨by rw [← r.length]; exact z, ?_⟩)
  have hf : H1 s1.heap.objs.size = none := I1.hok.fresh (Nat.le_refl _)
  have hg := Heap.get?_push_size (h := s1.heap) (o := { cls := .type "tuple", data := .seq us.toArray }) rfl
  refine ⟨.ref s1.heap.objs.size, upd H1 s1.heap.objs.size (.frz _ (.tup xs)), I1.laid (t' := s1.toks) (fun b u e => Heap.get?_push_of_some _ e) (Nat.le_refl _) ⟨hg, z, us, r, ⟨_, hg, rfl, _, rfl⟩⟩, rfl, q _ _ hf ⟨rfl, rfl⟩⟩
/-- t + u, both of exact type -/
def rCatP : R2 := fun x y H Q => ∃ a b xs ys, x = .ref a ∧ y = .ref b ∧ PlT H a xs ∧ PlT H b ys ∧ xs.length + ys.length ≤ sizeLine ∧
  (xs = [] → Q (.ref b) H) ∧ (xs ≠ [] → ys = [] → Q (.ref a) H) ∧ (xs ≠ [] → ys ≠ [] → ∀ p o, H p = none → PlO o → Q (.ref p) (upd H p (.frz o (.tup (xs ++ ys)))))
theorem op_catP : OpR X (binaryOp .Add) rCatP := by
  intro pins s σ H x y v u Q I rx ry h
  obtain ⟨a, b, xs, ys, rfl, rfl, ha, hb, hz, q0, q1, q2⟩ := h
  cases rx
  cases ry
  obtain ⟨its, r1, p1, _⟩ := I.tuple (ha.sq (K := X.K))
  obtain ⟨its2, r2, p2, _⟩ := I.tuple (hb.sq (K := X.K))
  by_cases hx : xs = []
  · subst hx
    cases r1
    exact cat_tup0 p1 p2 ⟨.ref b, H, I, rfl, q0 rfl⟩
  refine HT.cat_tup p1 p2 (fun z => hx (r1.nil_iff.mp z)) (fun z => ⟨.ref a, H, I, rfl, q1 hx (r2.nil_iff.mp z)⟩) (fun z => ?_) (by rw [← r1.length, ← r2.length]; exact hz)
  have hg := Heap.get?_push_size (h := s.heap) (o := { cls := .type "tuple", data := .seq (its ++ its2).toArray }) rfl
  refine ⟨.ref s.heap.objs.size, upd H s.heap.objs.size (.frz { cls := .type "tuple", data := .seq (its ++ its2).toArray } (.tup (xs ++ ys))), I.laid (t' := s.toks) (fun b ob q => Heap.get?_push_of_some _ q) (Nat.le_refl _) ⟨?_, by rw [List.length_append]; exact hz, its ++ its2, r1.append r2, ?_⟩, rfl, q2 hx (fun w => z (r2.nil_iff.mpr w)) _ _ (I.hok.fresh (Nat.le_refl _)) ⟨rfl, rfl⟩⟩
  · simpa using hg
  · simpa using IsTup.new _ _
/-- a method called on a tuple of exact type -/
def tBMP (r : V → List V → Hp → VK → Prop) (to : TE) (t : TA) : TE := fun σ H Q => to σ H fun x H1 => (∃ p xs, x = .ref p ∧ PlT H1 p xs) ∧ t σ H1 fun xs H2 => r x xs H2 Q
theorem pe_bmP {id : String} {name : Str} {o e : Expr} {es : List Expr} {to : TE} {t : TA} {apos cpos : Pos} {r : V → List V → Hp → VK → Prop} (slot : Slot "tuple" name id) (hty : typeOf (.builtin id) = pure (.type "method_descriptor")) (hm : MtR X id r) (ho : PE X o to) (ha : PA X (e :: es) t)
    (hbase : attributeBase o name X.env (eval o X.env) = eval o X.env := by rfl)
    (hfew : ((backTo cpos (starEach (e :: es) X.env)).all (fun x => !x.1) && (backToKw cpos (keywordEach [] X.env)).all (fun x => x.1.isSome) && decide ((e :: es).length + ([] : List Keyword).length + (if ([] : List Keyword).isEmpty then 0 else 1) < 30)) = true := by rfl)
    (hline : (apos.endLine == cpos.line) = true := by rfl) (hs : starEach (e :: es) X.env = (false, eval e X.env) :: starEach es X.env := by rfl) (hpl : (backTo cpos (starEach es X.env)).any (·.1) = false := by rfl) : PE X (.Call (.Attribute o name apos) (e :: es) [] cpos) (tBMP r to t) := by
  refine ⟨fun pins s σ H Q I h => ?_⟩
  refine wpAny_Call_method_late hbase hfew hline rfl (thn (ho.run pins s σ H _ I h) fun v s1 ⟨x, H1, I1, rx, ⟨p, ws, ex, po, pc, pe⟩, q1⟩ => ?_)
  subst ex
  cases rx
  obtain ⟨hg, _⟩ := (show ObjOk X.prog X.w H1 s1.heap p (.frz po (.tup ws)) from I1.hok p _ pe)
  refine ⟨"tuple", id, PySem.F.plainAttrs_tuple, slot, hty, ⟨po, hg, pc.1⟩, fun a' e' => ?_, ?_⟩
  · cases e'
    exact ⟨po, hg, pc.2⟩
  have hA := ha.run cpos pins s1 σ H1 _ I1 q1
  rw [hs] at hA ⊢
  refine Calls.callWith_builtin (by show (false || (backTo cpos (starEach es X.env)).any (·.1)) = false; rw [hpl] <;> rfl) (Calls.evalArgs_plain ?_)
  exact thn hA fun us s2 ⟨vs, H2, I2, r2, q2⟩ => hm pins s2 σ H2 (.ref p) vs (.ref p) us Q I2 rfl r2 q2
end
section
variable {K : Fg} {σ : L2.St} {H : Hp}
theorem gd_tupP {ta : TA} {ds : List D} (ha : GA K ta σ H ds) (hl : ds.length ≤ 100000) : GD K (tTupP ta) σ H (.ptup ds) := fun H1 a Q q =>
  ha H1 a _ fun x H2 a2 hx => ⟨by rw [hx.length, sizeLine_eq]; omega, fun p o hp ho => q _ _ (a2.trans (Same.new hp)) (.ptup ⟨o, ho, upd_same⟩ (hx.up (Same.new hp)))⟩
theorem r_catP {ds es : List D} (h : ds.length + es.length ≤ 100000) : R2D K rCatP (.ptup ds) (.ptup es) (.ptup (ds ++ es)) := fun x y H Q hx hy q => by
  cases hx with
  | @ptup a xs _ hs ha =>
    cases hy with
    | @ptup b ys _ hs2 hb =>
      refine ⟨a, b, xs, ys, rfl, rfl, hs, hs2, by rw [ha.length, hb.length, sizeLine_eq]; omega, fun e => ?_, fun _ e => ?_, fun _ _ p o hp ho => q _ _ (Same.new hp) (.ptup ⟨o, ho, upd_same⟩ ((ha.app hb).up (Same.new hp)))⟩
      · subst e
        cases ha
        exact q _ H (Same.refl _) (.ptup hs2 hb)
      · subst e
        cases hb
        rw [List.append_nil] at q
        exact q _ H (Same.refl _) (.ptup hs ha)
/-- what is known of tuples may be forgotten -/
theorem Dns.ofP {f g : α → D} (h : ∀ a, ∃ ds, f a = .ptup ds ∧ g a = .tup ds) : ∀ {l : List α} {xs : List V}, Dns K H xs (l.map f) → Dns K H xs (l.map g)
  | [], _, hx => by cases hx; exact .nil
  | a :: l, _, hx => by
    cases hx with
    | cons h1 h2 =>
      refine .cons ?_ (Dns.ofP h h2)
      obtain ⟨ds, e1, e2⟩ := h a
      rw [e1] at h1
      show Dn K H _ (g a)
      rw [e2]
      cases h1 with
      | ptup hs hd => exact .tup hs.sq hd
end
end Cc

/-! divmod, xs[j] += e, xs[a::n], the least of a list, t * n -/
namespace Cc
open PySem PySem.Spec L2 PyProof.Rows
theorem _root_.L2.Room.units65 {k : Nat} {A : Around} (r : Room k A) : A.units + 65 < cLine := by have := r.un; omega
/-! t * n -/
theorem tuple_mul1 (l : Addr) (items : Array Value) (n : Nat) (dd : Option Addr) (sl : Array (Option Value)) (u : Tok) :
    Meets (Builtin.«tuple.__mul__» ⟨[.ref l, .int 1 u], []⟩) (fun _ R s => s.heap.get? l = some { cls := .type "tuple", dict := dd, data := .seq items n, slots := sl } ∧ R (.ok (.ret (Value.ref l))) s) :=
  .of_wp fun prog w A R s h => by
    obtain ⟨hp, g, d, tk, os⟩ := s
    obtain ⟨hl, h⟩ := h
    have f1 := AutoSeq1.idx_int
    have c0 : (decide ((1 : Int) < -(2 ^ 63)) || decide ((1 : Int) ≥ 2 ^ 63)) = false := by decide
    have c1 : (items.isEmpty || (1 : Int) == 1) = true := by simp
    wp_walk using wpAny_loadPart' hl
    repeat (first
      | (refine wpAny_ite_false (decide_eq_false (by rw [c0]; exact Bool.false_ne_true)) ?_; wp_walk using wpAny_loadPart' hl)
      | (refine wpAny_ite_true (decide_eq_true (by rw [c1])) ?_; wp_walk using wpAny_loadPart' hl))
    first
      | exact ⟨_, rfl, h⟩
      | exact h
def rRepTA (K : PySem.W.Frag) : R2 := fun x y H Q => ∃ l k xs, x = .ref l ∧ y = .int k ∧ SqT K H l xs ∧ xs ≠ [] ∧ 1 ≤ k ∧ k ≤ 1000 ∧ xs.length ≤ 1000 ∧ (k = 1 → Q (.ref l) H) ∧ (2 ≤ k → ∀ p, H p = none → Q (.ref p) (upd H p (.tup (List.replicate k.toNat xs).flatten)))
theorem op_repTA {X : Cx} : OpR X (binaryOp .Mult) (rRepTA X.K) := by
  intro pins s σ H x y v u Q I rx ry h
  obtain ⟨l, k, xs, rfl, rfl, hT, hne, h1, h2, hz, q1, q2⟩ := h
  by_cases hk : k = 1
  · subst hk
    cases rx
    obtain ⟨t, rfl⟩ := ry
    obtain ⟨its, r, ⟨⟨cls, dd, data, sl⟩, ho, hc, n, hd⟩, hs⟩ := I.tuple hT
    simp only at hc hd
    subst hc hd
    exact wpAny_binaryOp_repeat_ref (T := "tuple") (U := "int") (by decide) ⟨_, ho, rfl⟩ (fun s' => typeIs_int s' 1 t) noFill_tuple_mul F.fills_int_mul F.slot_int_rmul repeat_tuple F.slot_int_index.lookup
      (call_meets F.slot_int_rmul (typeIs_int s 1 t) F.entry_int_rmul (F.args_int_rmul_2 _ _) (int_rmul_tuple 1 t l its.toArray n dd sl)
        ⟨ho, rfl, ⟨_, ho, rfl⟩, call_meets F.slot_tuple_mul ⟨_, ho, rfl⟩ F.entry_tuple_mul (F.args_tuple_mul_2 _ _) (tuple_mul1 l its.toArray n dd sl t) ⟨ho, .ref l, H, I, rfl, q1 rfl⟩⟩)
  · exact op_repT pins s σ H (.ref l) (.int k) v u Q I rx ry ⟨l, k, xs, rfl, rfl, hT, hne, by omega, h2, hz, q2 (by omega)⟩
theorem repTA {X : Cx} {K : Fg} (h : X.K = K := by rfl) : OpR X (binaryOp .Mult) (rRepTA K) := h ▸ op_repTA
/-! xs[j] += e -/
theorem get_list {X : Cx} : PGet X (rIxL X.K) := by
  intro pins s σ H o i ov iv Q I ro ri h
  obtain ⟨p, xs, k, v, rfl, rfl, hx, hv, q⟩ := h
  cases ro
  obtain ⟨t, rfl⟩ := ri
  obtain ⟨its, r, hl, hz⟩ := I.list hx
  have hlen := r.length
  obtain ⟨j, h1, h2, h3, h4, h5⟩ := atI_get hv
  obtain ⟨w, ew, rw'⟩ := r.get h2
  have hn := line63
  by_cases h0 : 0 ≤ k
  · have hj : k.toNat = j := by
      rw [seqIndex_of h0 h5] at h1
      exact Option.some.inj h1
    exact wpAny_getItem_list hl.isList h0 (by omega) (by rw [hj]; simpa using ew) ⟨v, H, I, rw', q⟩
  · have hj : (k + (its.toArray.size : Int)).toNat = j := by
      rw [seqIndex_neg (by omega) h4] at h1
      rw [List.size_toArray, ← hlen]
      exact Option.some.inj h1
    exact wpAny_getItem_list_neg hl.isList (by omega) (by rw [List.size_toArray]; omega) (by omega) (by rw [hj]; simpa using ew) ⟨v, H, I, rw', q⟩
theorem getL {X : Cx} {K : Fg} (h : X.K = K := by rfl) : PGet X (rIxL K) := h ▸ get_list
/-! a, b, c = xs, a list -/
theorem pg_unK {X : Cx} (K : Fg) {es : List Expr} {k : Nat} {t : TGs} {n : Nat} {pos : Pos} (hc : X.calm = true) (h : PGs X es t) (hk : X.K = K := by rfl)
    (hn : (assignEach es X.env).length = n := by rfl) (hst : (assignEach es X.env).findIdx? (·.1) = none := by rfl) : PG X (.Tuple es k pos) (gUnl K n t) := hk ▸ pg_unl hc h hn hst
/-! xs[a::n] -/
def idxStep (lo st : Int) (n : Nat) : List Nat := sliceRange (max 0 (min lo n)) n st
def stepV {α : Type} (xs : List α) (lo st : Int) : List α := (idxStep lo st xs.length).filterMap (xs[·]?)
theorem pick_step {items : Array Value} {lo st : Int} (h0 : 0 ≤ lo) (h1 : 0 < st) : slicePick items (some lo) none (some st) = (stepV items.toList lo st).toArray := by
  unfold slicePick stepV idxStep
  have e : sliceBounds (some lo) none (some st) items.size = (max 0 (min lo items.size), (items.size : Int), st) := by
    have a : ¬ lo < 0 := by omega
    simp only [sliceBounds, Option.getD_some, gt_iff_lt, h1, if_true, a, if_false]
  rw [e]
  simp
theorem vals_step {vs : List V} {us : List Value} (r : Vals vs us) : ∀ idx : List Nat, Vals (idx.filterMap (vs[·]?)) (idx.filterMap (us[·]?))
  | [] => .nil
  | i :: idx => by
    have hl := r.length
    by_cases hi : i < vs.length
    · have hu : i < us.length := by omega
      obtain ⟨u, e, ru⟩ := r.get (List.getElem?_eq_getElem hi)
      rw [List.filterMap_cons, List.filterMap_cons, List.getElem?_eq_getElem hi, e]
      exact .cons ru (vals_step r idx)
    · rw [List.filterMap_cons, List.filterMap_cons, List.getElem?_eq_none (by omega), List.getElem?_eq_none (by omega)]
      exact vals_step r idx
/-- the list's items from lo on, each st-th -/
def rStep (K : PySem.W.Frag) (x : V) (lo st : Int) (H : Hp) (Q : VK) : Prop := ∃ a xs, x = .ref a ∧ SqL K H a xs ∧ 0 ≤ lo ∧ 0 < st ∧ (stepV xs lo st).length ≤ sizeLine ∧ ∀ p, H p = none → Q (.ref p) (upd H p (.lst (stepV xs lo st)))
def tStepL (K : PySem.W.Frag) (te tl ts : TE) : TE := fun σ H Q => te σ H fun x H1 => tl σ H1 fun l H2 => ∃ lo, l = .int lo ∧ ts σ H2 fun t H3 => ∃ st, t = .int st ∧ rStep K x lo st H3 Q
theorem pe_stepL {X : Cx} {e el es : Expr} {te tl ts : TE} {p3 pos : Pos} (he : PE X e te) (hl : PE X el tl) (hs : PE X es ts) {K : Fg} (hK : X.K = K := by rfl) : PE X (.Subscript e (.Slice (some el) none (some es) p3) pos) (tStepL K te tl ts) := by
  subst hK
  refine ⟨fun pins s σ H Q I h => ?_⟩
  refine Subscript_ (thn (he.run pins s σ H _ I h) fun v s1 ⟨x, H1, I1, r1, q1⟩ => ?_)
  refine wpAny_Slice (thn ((po_some hl).run pins s1 σ H1 (fun o H2 => match o with | some lo => ts σ H2 fun t H3 => ∃ st, t = .int st ∧ rStep X.K x lo st H3 Q | none => False) I1 q1) fun vl s2 ⟨l, H2, I2, pl, q2⟩ => ?_)
  cases l with
  | none => exact q2.elim
  | some lo =>
  refine thn (po_none.run pins s2 σ H2 (fun o H3 => o = none ∧ H3 = H2) I2 ⟨rfl, rfl⟩) fun vu s3 ⟨u, H3, I3, pu, eu, e3⟩ => ?_
  subst eu e3
  refine thn ((po_some hs).run pins s3 σ H3 (fun o H4 => match o with | some st => rStep X.K x lo st H4 Q | none => False) I3 q2) fun vs s4 ⟨o, H4, I4, ps, q4⟩ => ?_
  cases o with
  | none => exact q4.elim
  | some st =>
  obtain ⟨a, xs, ex, hx, h0, h1, hz0, q⟩ := q4
  subst ex
  cases r1
  have I5 : Inv X pins σ H4 { s4 with heap := s4.heap.push { cls := .type "slice", data := .fields #[vl, vu, vs] } } := I4.kept (t' := s4.toks) fun b ob q => Heap.get?_push_of_some _ q
  obtain ⟨its, r, ht, hz⟩ := I5.list hx
  have hlen := r.length
  show wpAny (model X.prog X.w) X.A (subscriptTail e (.Slice (some el) none (some es) p3) (.ref a) (.ref s4.heap.objs.size)) (EP X pins σ Q) X.xe { s4 with heap := s4.heap.push { cls := .type "slice", data := .fields #[vl, vu, vs] } }
  refine tail_any (ops := [.ref a, .ref s4.heap.objs.size]) ht.isList.typeIs (PySem.slot_list_getitem.lookup) ?_ (by with_unfolding_all rfl)
  refine wpAny_getItem_list_slice ht.isList (Heap.IsSliceOf.new _ vl vu vs) pl pu ps (by simp; omega) ?_ (by rw [List.size_toArray]; omega)
  rw [pick_step h0 h1]
  have rv : Vals (stepV xs lo st) (stepV its lo st) := by
    unfold stepV
    rw [← hlen]
    exact vals_step r _
  refine ⟨.ref _, _, I5.laid (t' := s4.toks) (o := .lst (stepV xs lo st)) (fun b ob q => Heap.get?_push_of_some _ q) (Nat.le_refl _) ?_, rfl, q _ (I5.hok.fresh (Nat.le_refl _))⟩
  exact ⟨hz0, _, 0, rv, Heap.get?_push_size _ rfl⟩
/-! the least of a list of data -/
/-- an item of a list, seen through both heaps -/
theorem dps_at {K : Fg} {H : Hp} : ∀ {vs : List V} {ds : List PyData} {i : Nat} {v : V}, DpAll K H vs ds → vs[i]? = some v → ∃ d, ds[i]? = some d ∧ Dp K H v d
  | _, _, _, _, .nil, e => by simp at e
  | _, _, 0, _, .cons r _, e => by simp at e; subst e; exact ⟨_, rfl, r⟩
  | _, _, i + 1, x, .cons _ t, e => by
    obtain ⟨d, h1, h2⟩ := dps_at (i := i) (v := x) t (by simpa using e)
    exact ⟨d, by simpa using h1, h2⟩
end Cc
namespace Cc
open PySem PySem.Spec L2 PyProof.Rows PySem.W
/-- the least of a list of alike data: the item that is it -/
def rMinL (K : PySem.W.Frag) : List V → Hp → VK → Prop := fun vs H Q => ∃ (a : Addr) (xs : List V) (y : PyData) (ys : List PyData), vs = [.ref a] ∧ SqL K H a xs ∧ DpAll K H xs (y :: ys) ∧ AlikeAll (y :: ys) ∧ PyData.depthAll (y :: ys) ≤ 60 ∧
  ∀ (i : Nat) (x : V), xs[i]? = some x → (y :: ys)[i]? = some (minD y ys) → Q x H
def rMinLD (K : PySem.W.Frag) : List V → List V → Hp → VK → Prop := fun vs zs H Q => ∃ (a : Addr) (xs : List V) (ds : List PyData) (z : V), vs = [.ref a] ∧ zs = [z] ∧ SqL K H a xs ∧ DpAll K H xs ds ∧ AlikeAll ds ∧ PyData.depthAll ds ≤ 60 ∧ (ds = [] → Q z H) ∧
  ∀ (y : PyData) (ys : List PyData) (i : Nat) (x : V), ds = y :: ys → xs[i]? = some x → ds[i]? = some (minD y ys) → Q x H
theorem reads_all_at {h : Heap} : ∀ {vs : List Value} {ds : List PyData} {as : List Addr} {i : Nat} {v : Value}, ReadsAll h vs ds as → vs[i]? = some v → ∃ d bs, ds[i]? = some d ∧ Reads h v d bs
  | _, _, _, _, _, .nil, e => by simp at e
  | _, _, _, 0, _, .cons r _, e => by simp at e; subst e; exact ⟨_, _, rfl, r⟩
  | _, _, _, i + 1, x, .cons _ t, e => by
    obtain ⟨d, bs, h1, h2⟩ := reads_all_at (i := i) (v := x) t (by simpa using e)
    exact ⟨d, bs, by simpa using h1, h2⟩
theorem vals_back {vs : List V} {us : List Value} (r : Vals vs us) {i : Nat} {u : Value} (h : us[i]? = some u) : ∃ v, vs[i]? = some v ∧ RelV v u := by
  have hl := r.length
  have hi : i < vs.length := by
    have := (List.getElem?_eq_some_iff.mp h).1
    omega
  obtain ⟨u', e, ru⟩ := r.get (List.getElem?_eq_getElem hi)
  rw [h] at e
  cases e
  exact ⟨_, List.getElem?_eq_getElem hi, ru⟩
section
variable {X : Cx}
theorem call_minL (hc : X.calm = true) (hu : X.A.units + 65 < cLine) : CallR X (.builtin "min") (rMinL X.K) := by
  intro pins s σ H vs us Q I r h
  obtain ⟨a, xs, y, ys, rfl, hs, hd, ha, hz, q⟩ := h
  obtain rfl := Vals.ref1 r
  obtain ⟨its, rv, hl, hlen⟩ := I.list hs
  obtain ⟨as, hr⟩ := Dp.readsAll I (y :: ys) xs its hd rv
  refine min_list_data (I.ok.hd hc) hl.isList (x := y) (xs := ys) (as := as) (by simpa using hr) ha (by omega) fun i v h' tk bs hv hm hk => ?_
  have hv' : its[i]? = some v := by simpa using hv
  obtain ⟨d, bs', hdi, hrd⟩ := reads_all_at hr hv'
  have ed := (PySem.Reads.unique (reads_keeps hk hrd) _ _ hm).1
  obtain ⟨x, hx, rx⟩ := vals_back rv hv'
  exact ⟨x, H, I.kept (t' := tk) hk, rx, q i x hx (by rw [hdi, ed])⟩
theorem call_minLD (hc : X.calm = true) (hu : X.A.units + 65 < cLine) : CallRK X (.builtin "min") ["default"] (rMinLD X.K) := by
  intro pins s σ H vs zs us ws Q I r rz h
  obtain ⟨a, xs, ds, z, rfl, rfl, hs, hd, ha, hz, q0, q⟩ := h
  obtain rfl := Vals.ref1 r
  obtain ⟨w1, rfl, e1⟩ := vals1 rz
  obtain ⟨its, rv, hl, hlen⟩ := I.list hs
  obtain ⟨as, hr⟩ := Dp.readsAll I ds xs its hd rv
  refine min_list_default (I.ok.hd hc) hl.isList (xs := ds) (as := as) (by simpa using hr) ha (by omega) (fun he h' tk hk => ?_) fun y ys i v h' tk bs he hv hm hk => ?_
  · exact ⟨z, H, I.kept (t' := tk) hk, e1, q0 he⟩
  · have hv' : its[i]? = some v := by simpa using hv
    obtain ⟨d, bs', hdi, hrd⟩ := reads_all_at hr hv'
    have ed := (PySem.Reads.unique (reads_keeps hk hrd) _ _ hm).1
    obtain ⟨x, hx, rx⟩ := vals_back rv hv'
    exact ⟨x, H, I.kept (t' := tk) hk, rx, q y ys i x he hx (by rw [hdi, ed])⟩
theorem minL {K : Fg} (hu : X.A.units + 65 < cLine) (hc : X.calm = true := by rfl) (h : X.K = K := by rfl) : CallR X (.builtin "min") (rMinL K) := h ▸ call_minL hc hu
theorem minLD {K : Fg} (hu : X.A.units + 65 < cLine) (hc : X.calm = true := by rfl) (h : X.K = K := by rfl) : CallRK X (.builtin "min") ["default"] (rMinLD K) := h ▸ call_minLD hc hu
end
/-! pairs of numbers -/
def pairD (p : Int × Int) : D := .tup [.int p.1, .int p.2]
def ltP (p q : Int × Int) : Bool := decide (p.1 < q.1 ∨ (p.1 = q.1 ∧ p.2 < q.2))
theorem dataLt_pair (p q : Int × Int) : dataLt (pairD p).py (pairD q).py = ltP p q := by
  obtain ⟨a, b⟩ := p
  obtain ⟨c, d⟩ := q
  have e : dataLt (pairD (a, b)).py (pairD (c, d)).py = (decide ((1 : Int) < 1) || (!decide ((1 : Int) < 1) && (decide (a < c) || (!decide (c < a) && (decide ((1 : Int) < 1) || (!decide ((1 : Int) < 1) && (decide (b < d) || (!decide (d < b) && (decide ((0 : Int) < 0) || (!decide ((0 : Int) < 0) && false)))))))))) := rfl
  rw [e]
  unfold ltP
  by_cases h1 : a < c
  · have h2 : ¬ c < a := by omega
    simp [h1]
  · by_cases h2 : c < a
    · have h3 : ¬ a = c := by omega
      simp [h1, h2, h3]
    · have h3 : a = c := by omega
      subst h3
      by_cases h4 : b < d
      · simp [h4]
      · by_cases h5 : d < b <;> simp [h4, h5]
def minP (p : Int × Int) (ps : List (Int × Int)) : Int × Int := ps.foldl (fun a y => if ltP y a then y else a) p
theorem minD_pairs : ∀ (ps : List (Int × Int)) (p : Int × Int), minD (pairD p).py (ps.map fun q => (pairD q).py) = (pairD (minP p ps)).py
  | [], _ => rfl
  | q :: ps, p => by
    have ih := minD_pairs ps
    unfold minD minP at ih ⊢
    rw [List.map_cons, List.foldl_cons, List.foldl_cons, ← ih, dataLt_pair]
    congr 1
    by_cases h : ltP q p = true <;> simp [h]
theorem alike_pairs (ps : List (Int × Int)) : AlikeAll (ps.map fun q => (pairD q).py) := by
  refine ⟨fun x hx y hy => ?_, fun x hx => ?_⟩
  · obtain ⟨p, _, rfl⟩ := List.mem_map.mp hx
    obtain ⟨q, _, rfl⟩ := List.mem_map.mp hy
    rfl
  · obtain ⟨p, _, rfl⟩ := List.mem_map.mp hx
    exact fun h => nomatch h
theorem depth_pairs : ∀ ps : List (Int × Int), PyData.depthAll (ps.map fun q => (pairD q).py) ≤ 1
  | [] => Nat.zero_le _
  | p :: ps => by
    have := depth_pairs ps
    simp only [List.map_cons, PyData.depthAll, pairD, D.py, D.pys, PyData.depth] at this ⊢
    omega
theorem pairD_inj {p q : Int × Int} (h : (pairD p).py = (pairD q).py) : p = q := by
  simp only [pairD, D.py, D.pys, PyData.tuple.injEq, List.cons.injEq, PyData.int.injEq, and_true] at h
  exact Prod.ext h.1 h.2
section
variable {K : Fg} {σ : L2.St} {H : Hp} {te tz : TE}
theorem pys_pairs (ps : List (Int × Int)) : D.pys (ps.map pairD) = ps.map fun q => (pairD q).py := by rw [D.pys_map, List.map_map]; rfl
theorem pls_pairs (ps : List (Int × Int)) : D.pls (ps.map pairD) = true := D.pls_iff.mpr fun d hd => by
  obtain ⟨p, _, rfl⟩ := List.mem_map.mp hd
  rfl
theorem rc_minP {p : Int × Int} {ps : List (Int × Int)} : RCD K (rMinL K) [.lst ((p :: ps).map pairD)] (pairD (minP p ps)) := fun vs H Q hv q => by
  obtain ⟨v, rfl, hw⟩ := hv.un1
  cases hw with
  | @lst a xs ds hs ha =>
    refine ⟨a, xs, (pairD p).py, ps.map fun q => (pairD q).py, rfl, SqL.of hs, ?_, ?_, ?_, fun i x hx hm => ?_⟩
    · have := ha.dps _ _ (pls_pairs (p :: ps))
      rwa [pys_pairs] at this
    · exact alike_pairs (p :: ps)
    · have := depth_pairs (p :: ps)
      exact Nat.le_trans this (by decide)
    · obtain ⟨d, hd, hdx⟩ := ha.get hx
      rw [minD_pairs] at hm
      have e : ((p :: ps).map fun q => (pairD q).py)[i]? = some (pairD (minP p ps)).py := hm
      rw [List.getElem?_map] at e hd
      cases hi : (p :: ps)[i]? with
      | none => rw [hi] at e; cases e
      | some z =>
        rw [hi] at e hd
        have e' := pairD_inj (Option.some.inj e)
        subst e'
        cases hd
        exact q x H (Same.refl _) hdx
def minPD (d0 : D) : List (Int × Int) → D
  | [] => d0
  | p :: r => pairD (minP p r)
/-- min(pairs, default=..) -/
theorem gd_minLD {ps : List (Int × Int)} {d0 : D} (h : GD K te σ H (.lst (ps.map pairD))) (h0 : GD K tz σ H d0) : GD K (tCKw (rMinLD K) (tCons te tNil) (tCons tz tNil)) σ H (minPD d0 ps) := fun H1 e Q q =>
  h H1 e _ fun v H2 e2 hv => h0 H2 (e.trans e2) _ fun z H3 e3 hz => by
    have hv := hv.up e3
    cases hv with
    | @lst a xs ds hs ha =>
      refine ⟨a, xs, ps.map fun q => (pairD q).py, z, rfl, rfl, SqL.of hs, ?_, alike_pairs ps, Nat.le_trans (depth_pairs ps) (by decide), fun he => ?_, fun y ys i x he hx hm => ?_⟩
      · have := ha.dps _ _ (pls_pairs ps)
        rwa [pys_pairs] at this
      · have : ps = [] := by simpa using he
        subst this
        exact q z H3 (e2.trans e3) hz
      · cases ps with
        | nil => cases he
        | cons p r =>
          obtain ⟨h1, h2⟩ := List.cons.inj he
          subst h1 h2
          obtain ⟨d, hd, hdx⟩ := ha.get hx
          rw [minD_pairs, List.getElem?_map] at hm
          rw [List.getElem?_map] at hd
          cases hi : (p :: r)[i]? with
          | none => rw [hi] at hm; cases hm
          | some w =>
            rw [hi] at hm hd
            have e' := pairD_inj (Option.some.inj hm)
            subst e'
            cases hd
            exact q x H3 (e2.trans e3) hdx
/-! by data -/
theorem rc_divmod {i j : Int} (h : 0 < j ∧ j < 1073741824) : RCD K (fun xs H Q => ∃ i j, xs = [.int i, .int j] ∧ CDiv i j ∧ ∀ p, H p = none → Q (.ref p) (upd H p (.tup [.int (i / j), .int (i % j)]))) [.int i, .int j] (.tup [.int (i / j), .int (i % j)]) := fun vs H Q hv q => by
  obtain ⟨x, y, rfl, hx, hy⟩ := hv.un2
  cases hx; cases hy
  exact ⟨i, j, rfl, h, fun p hp => q _ _ (Same.new hp) (.tup (SqT.of upd_same) (.cons (.int _) (.cons (.int _) .nil)))⟩
theorem r_repTA {ds : List D} {k : Int} (h0 : ds ≠ []) (h1 : 1 ≤ k) (h2 : k ≤ 1000) (h3 : ds.length ≤ 1000) : R2D K (rRepTA K) (.tup ds) (.int k) (.tup (List.replicate k.toNat ds).flatten) := fun v w H Q hv hw q => by
  cases hw
  cases hv with
  | @tup a xs _ hs hd =>
    have hl := hd.length
    refine ⟨a, k, xs, rfl, rfl, hs, fun z => ?_, h1, h2, by omega, fun h => ?_, fun _ p hp => q _ _ (Same.new hp) (.tup (.inl (.inl upd_same)) ((Dns.rep hd k.toNat).up (Same.new hp)))⟩
    · subst z
      have : ds.length = 0 := by simpa using hl.symm
      exact h0 (List.eq_nil_of_length_eq_zero this)
    · subst h
      have e : (List.replicate (1 : Int).toNat ds).flatten = ds := by simp
      rw [e] at q
      exact q _ H (Same.refl _) (.tup hs hd)
theorem stepV_map {α β : Type} (f : α → β) (xs : List α) (lo st : Int) : stepV (xs.map f) lo st = (stepV xs lo st).map f := by
  unfold stepV
  rw [List.length_map, List.map_filterMap]
  congr 1
  funext i
  rw [List.getElem?_map]
theorem dns_step {H : Hp} {vs : List V} {ds : List D} (h : Dns K H vs ds) : ∀ idx : List Nat, Dns K H (idx.filterMap (vs[·]?)) (idx.filterMap (ds[·]?))
  | [] => .nil
  | i :: idx => by
    have hl := h.length
    by_cases hi : i < vs.length
    · have hu : i < ds.length := by omega
      obtain ⟨d, e, rd⟩ := h.get (List.getElem?_eq_getElem hi)
      rw [List.filterMap_cons, List.filterMap_cons, List.getElem?_eq_getElem hi, e]
      exact .cons rd (dns_step h idx)
    · rw [List.filterMap_cons, List.filterMap_cons, List.getElem?_eq_none (by omega), List.getElem?_eq_none (by omega)]
      exact dns_step h idx
theorem gn_step {tl ts : TE} {ds : List D} {lo st : Int} (h : GD K te σ H (.lst ds)) (h1 : GD K tl σ H (.int lo)) (h2 : GD K ts σ H (.int st)) (h0 : 0 ≤ lo) (hs : 0 < st) (hz : (stepV ds lo st).length ≤ 100000) : GN K (tStepL K te tl ts) σ H (stepV ds lo st) := fun H1 e Q q =>
  h H1 e _ fun v H2 e2 hv => h1 H2 (e.trans e2) _ fun w H3 e3 hw => by
    cases hw
    refine ⟨lo, rfl, h2 H3 ((e.trans e2).trans e3) _ fun z H4 e4 hz' => ?_⟩
    cases hz'
    have hv := hv.up (e3.trans e4)
    cases hv with
    | @lst a xs _ hx hd =>
      have hl := hd.length
      have hst : Dns K H4 (stepV xs lo st) (stepV ds lo st) := by
        unfold stepV
        rw [hl]
        exact dns_step hd _
      refine ⟨st, rfl, a, xs, rfl, SqL.of hx, h0, hs, by rw [hst.length, sizeLine_eq]; omega, fun p hp => ?_⟩
      have e24 := (e2.trans e3).trans e4
      exact q p _ _ (e24.free hp) (e24.trans (Same.new hp)) upd_same (hst.up (Same.new hp))
/-- xs[j] += e, xs a list of one's own -/
theorem s_augL {E : Ends} {to ti : TE} {l : Addr} {xs : List V} {j : Nat} {a b : Int} (hl : H l = some (.lst xs)) (ho : ∀ H1, Same H H1 → ∀ Q : VK, Q (.ref l) H1 → to σ H1 Q) (hi : GD K ti σ H (.int (j : Nat))) (hj : xs[j]? = some (.int a)) (he : GD K te σ H (.int b))
    (k : ∀ H1, Same H H1 → E.nx σ (upd H1 l (.lst (xs.set j (.int (a + b)))))) : tAugS to ti te (rIxL K) (ipI fun i j => i + j) rSetL E σ H :=
  ho H (Same.refl _) _ (hi H (Same.refl _) _ fun w H1 e1 hw => by
    cases hw
    have hlt : j < xs.length := (List.getElem?_eq_some_iff.mp hj).1
    refine ⟨l, xs, (j : Nat), .int a, rfl, rfl, SqL.of (e1 _ _ hl), atI_nat hj, he H1 e1 _ fun v H2 e2 hv => ?_⟩
    cases hv
    exact ⟨a, b, rfl, rfl, l, xs, (j : Nat), j, rfl, rfl, (e1.trans e2) l _ hl, ixN_nat hlt, k H2 (e1.trans e2)⟩)
/-- a, b, c = xs -/
theorem s_unl3 {E : Ends} {i j m : Nat} {d e f : D} (h : GD K te σ H (.lst [d, e, f])) (k : ∀ u v w H1, Same H H1 → Dn K H1 u d → Dn K H1 v e → Dn K H1 w f → E.nx (((σ.set i (some u)).set j (some v)).set m (some w)) H1) : tAsg te (gUnl K 3 (gCons (gName i) (gCons (gName j) (gCons (gName m) gNil)))) E σ H := h H (Same.refl _) _ fun v H1 e1 hv => by
  cases hv with
  | @lst a xs _ hs hd =>
    obtain ⟨x, y, z, rfl, hx, hy, hz⟩ := hd.un3
    exact ⟨a, _, rfl, SqL.of hs, rfl, _, _, rfl, _, _, rfl, _, _, rfl, rfl, k x y z H1 e1 hx hy hz⟩
end
end Cc

/-! enumerate(tuple) -/
namespace CcE
open PySem PySem.AutoSeq1
open Sem (wp)
theorem meets_newT (l : Addr) (items : Array Value) (n : Nat) (dct : Option Addr) (sl : Array (Option Value)) :
    Meets (Builtin.«enumerate.__new__» ⟨[.type "enumerate", .ref l], []⟩) (fun _ R s => s.heap.get? l = some { cls := .type "tuple", dict := dct, data := .seq items n, slots := sl } ∧
      R (.ok (.ret (.ref (s.heap.push { cls := .type "tuple_iterator", data := .fields #[.ref l, .int 0 0] }).objs.size)))
        { s with heap := (s.heap.push { cls := .type "tuple_iterator", data := .fields #[.ref l, .int 0 0] }).push { cls := .type "enumerate", data := .fields #[.none, .bool false, .ref s.heap.objs.size, rawInt 0, .none, .none] } }) :=
  .of_wp fun prog w A R s h => by
    obtain ⟨hp, g, d, tk, os⟩ := s; obtain ⟨hl, h⟩ := h
    have hsub := sub_enumerate
    have hL : Heap.IsTuple (Shared.heap ⟨hp, g, d, tk, os⟩) l items := ⟨_, hl, rfl, n, rfl⟩
    wp_walk using wpAny_loadPart' hl
    refine wpAny_stack_any fun st => wpAny_pure ?_
    split
    · rename_i c _ _ _ _ _
      cases (c == Value.type "enumerate")
      · wp_walk using wpAny_loadPart' hl, wpAny_pyIter_tuple hL
        exact ⟨_, rfl, h⟩
      · wp_walk using wpAny_loadPart' hl, wpAny_pyIter_tuple hL
        exact ⟨_, rfl, h⟩
    · wp_walk using wpAny_loadPart' hl, wpAny_pyIter_tuple hL
      exact ⟨_, rfl, h⟩
theorem drawsT {prog : Program} {w : World} {A : Around} (hh : A.handled = none) (it l : Addr) (hne : l ≠ it) (items : Array Value) :
    Draws prog w A it [it, l] items.size (fun i v => items[i]? = some v) (fun i h => h.IsTupleIter it l i ∧ h.IsTuple l items) where
  live := fun _ _ st => let ⟨o, ho, _⟩ := st.1; ⟨o, ho⟩
  frame := fun _ _ _ st hk => ⟨st.1.at fun o e => hk it (by simp) o e, st.2.at fun o e => hk l (by simp) o e⟩
  item := fun i s Q E hi st hQ => by
    refine RZ.nextOf_tuple_item st.1 st.2 (x := items[i]) (by simp [hi]) fun h' hit' hs' => ?_
    exact hQ _ h' s.toks (by simp [hi]) ⟨hit', st.2.extBut hs'.extBut hne⟩ hs'
  done := fun s Q E st hE => RZ.nextOf_tuple_end hh st.1 st.2 (by simp) hE
section
variable {prog : Program} {w : World} {A : Around} {E : Value → Shared → Prop} {s : Shared}
theorem call_enumT {l : Addr} {items : Array Value} {Q : Value → Shared → Prop} (hL : s.heap.IsTuple l items)
    (k : ∀ h', IsEnum h' (s.heap.objs.size + 1) s.heap.objs.size 0 .none → h'.IsTupleIter s.heap.objs.size l 0 → h'.objs.size = s.heap.objs.size + 2 → (∀ b o, s.heap.get? b = some o → h'.get? b = some o) → Q (.ref (s.heap.objs.size + 1)) { s with heap := h' }) :
    wpAny (model prog w) A (call (.type "enumerate") [.ref l]) Q E s := by
  obtain ⟨⟨c, dct, dt, sl⟩, hl, hc, n, hd⟩ := hL
  have hc' : c = .type "tuple" := hc
  have hd' : dt = .seq items n := hd
  subst hc' hd'
  refine callType_new F.called_enumerate (by decide) (F.typeCall_enumerate_1 _) (F.newCall_enumerate_1 _) (fun obj => F.args_object_init_2 obj _) F.entry_enumerate_new (meets_newT l items n dct sl) ⟨hl, ?_⟩
  have sz : (s.heap.push { cls := .type "tuple_iterator", data := .fields #[.ref l, .int 0 0] }).objs.size = s.heap.objs.size + 1 := Heap.size_push ..
  show _ ∧ _
  rw [sz]
  have en : IsEnum ((s.heap.push { cls := .type "tuple_iterator", data := .fields #[.ref l, .int 0 0] }).push { cls := .type "enumerate", data := .fields #[.none, .bool false, .ref s.heap.objs.size, rawInt 0, .none, .none] }) (s.heap.objs.size + 1) s.heap.objs.size 0 .none := by
    have z := Heap.get?_push_size (s.heap.push { cls := .type "tuple_iterator", data := .fields #[.ref l, .int 0 0] }) (o := { cls := .type "enumerate", data := .fields #[.none, .bool false, .ref s.heap.objs.size, rawInt 0, .none, .none] }) rfl
    rw [sz] at z; exact z
  exact ⟨⟨_, en, rfl⟩, k _ en ⟨_, Heap.get?_push_of_some _ (Heap.get?_push_size _ rfl), rfl, rfl⟩ (by rw [Heap.size_push, sz]) fun b o x => Heap.get?_push_of_some _ (Heap.get?_push_of_some _ x)⟩
theorem wpAny_pyNext_enum_endT {e it l : Addr} {i : Nat} {items : Array Value} {old : Value} {n : Int} {Q : Option Value → Shared → Prop} (hh : A.handled = none) (he : IsEnum s.heap e it n old) (hit : s.heap.IsTupleIter it l i) (hl : s.heap.IsTuple l items) (hi : items.size ≤ i)
    (k : ∀ h', Heap.ExtBut it s.heap h' → Q none { s with heap := h' }) : wpAny (model prog w) A (pyNext (.ref e)) Q E s := by
  have D : Draws prog w A.in1 it [it, l] 0 (fun _ _ => True) (fun _ h => h.IsTupleIter it l i ∧ h.IsTuple l items) :=
    { live := fun _ _ st => let ⟨o, ho, _⟩ := st.1; ⟨o, ho⟩, frame := fun _ _ _ st hk => ⟨st.1.at fun o e => hk it (by simp) o e, st.2.at fun o e => hk l (by simp) o e⟩,
      item := fun _ _ _ _ hi => absurd hi (Nat.not_lt_zero _), done := fun s Q E st hE => RZ.nextOf_tuple_end hh st.1 st.2 (Array.getElem?_eq_none_iff.mpr hi) hE }
  exact wpAny_pyNext_enum_endD D he ⟨hit, hl⟩ k
end
end CcE
namespace CcE
open PySem L2 PyProof.Rows
/-- the tuple at a, each item in a new pair behind its number -/
def Itet (K : PySem.W.Frag) (a : Addr) : It :=
  ⟨fun i H => ∃ (xs : List V) (x : V), SqT K H a xs ∧ xs[i]? = some x, fun i H v H' => ∃ T x, v = .ref T ∧ H T = none ∧ H' = upd H T (.tup [.int (i : Nat), x]) ∧ ∀ xs, SqT K H a xs → xs[i]? = some x, fun i H => ∃ xs : List V, SqT K H a xs ∧ xs.length ≤ i⟩
theorem turn_et {P : Program} {w : World} {K : PySem.W.Frag} {elts : List Expr} {kk : Nat} {tpos : Pos} (a e it : Addr) (hai : a ≠ it) (hae : a ≠ e) :
    Turn P w K (.Tuple elts kk tpos) (Itet K a) [e, it] e (fun i h => (∃ old, IsEnum h e it ((i : Nat) : Int) old) ∧ h.IsTupleIter it a i ∧ e ≠ it) where
  mem := by simp
  obj := fun i h st b hb => by
    obtain ⟨⟨old, he⟩, ⟨o, ho, hc, hd⟩, _⟩ := st
    rcases (by simpa using hb : b = e ∨ b = it) with rfl | rfl
    · exact ⟨_, he, fun v q => nomatch q⟩
    · exact ⟨o, ho, fun v q => by rw [hd] at q; cases q⟩
  keep := fun i h h' st k => let ⟨⟨old, he⟩, hi, hne⟩ := st; ⟨⟨old, k e (by simp) _ he⟩, hi.at fun o q => k it (by simp) o q, hne⟩
  item := by
    intro X hP hw hK hc i pins s σ H E I hf st hg
    subst hP hw hK
    obtain ⟨⟨old, he⟩, hit, hne⟩ := st
    obtain ⟨xs, x, hq, hx⟩ := hg
    obtain ⟨its, rv, p, hz⟩ := I.tuple hq
    obtain ⟨u, hu, ru⟩ := rv.get hx
    have hel : e < s.heap.objs.size := Heap.lt_size he
    have hil : it < s.heap.objs.size := by obtain ⟨_, q, _⟩ := hit; exact Heap.lt_size q
    have hlt : i < its.toArray.size := by
      have := (List.getElem?_eq_some_iff.mp hu).1
      simpa using this
    refine wpAny_pyNext_enum_itemD (drawsT (prog := X.prog) (w := X.w) (A := X.A.in1) (I.ok.hd hc) it a hai its.toArray) he ⟨hit, p⟩ hlt hne (by simp [hne, Ne.symm hae]) fun u' h' tk hu' ho hst' hT hsz hk => ?_
    have eu : u' = u := by
      have z : its[i]? = some u' := by simpa using hu'
      rw [hu] at z
      exact (Option.some.inj z).symm
    subst eu
    refine ⟨_, rfl, wpAny_letOwnedTupleGo_enum (s := { s with heap := h', toks := tk + 1 }) ho fun h'' he' sb => ?_⟩
    have hT2 : h''.get? s.heap.objs.size = some { cls := .type "tuple", data := .seq #[.int i tk, u'] } := (sb.2 _ (Nat.ne_of_gt hel)).trans hT
    have new : ObjOk X.prog X.w (upd H s.heap.objs.size (.tup [.int (i : Nat), x])) h'' s.heap.objs.size (.tup [.int (i : Nat), x]) :=
      ⟨by show 2 ≤ sizeLine; decide, [.int i tk, u'], .cons ⟨_, rfl⟩ (.cons ru .nil), ⟨_, hT2, rfl, _, rfl⟩⟩
    have I1 : Inv X pins σ (upd H s.heap.objs.size (.tup [.int (i : Nat), x])) { s with heap := h'', toks := tk + 1 } :=
      I.turnedNew (ch := [e, it]) (fun b ob hb q => (sb.2 b (fun z => hb (by simp [z]))).trans (hk b ob (fun z => hb (by simp [z])) (fun z => hb (by simp [z])) q)) hf (Nat.le_refl _) new
    refine ⟨.ref s.heap.objs.size, _, I1, rfl, ⟨_, x, rfl, I.hok.fresh (Nat.le_refl _), rfl, fun ys hy => ?_⟩, ⟨⟨u', ?_⟩, hst'.1.at fun o q => (sb.2 it (Ne.symm hne)).trans q, hne⟩, fun b hb => ?_⟩
    · rw [I.tuple_inj hy hq]; exact hx
    · have e1 : ((i + 1 : Nat) : Int) = (i : Int) + 1 := by omega
      rw [e1]; exact he'
    · have hb' : b < s.heap.objs.size := by
        rcases (by simpa using hb : b = e ∨ b = it) with rfl | rfl
        · exact hel
        · exact hil
      rw [upd_ne (Nat.ne_of_lt hb')]
      exact (hf b hb).1
  done := by
    intro X hP hw hK hc i pins s σ H E I hf st hg
    subst hP hw hK
    obtain ⟨⟨old, he⟩, hit, hne⟩ := st
    obtain ⟨xs, hq, hx⟩ := hg
    obtain ⟨its, rv, p, hz⟩ := I.tuple hq
    obtain ⟨f0, f1, f2, f3, f4, f5⟩ := hf it (by simp)
    have hl := rv.length
    have hend : its.toArray.size ≤ i := by rw [List.size_toArray]; omega
    obtain ⟨o, ho, hcl, hd⟩ := id hit
    refine wpAny_pyNext_enum_endT (I.ok.hd hc) he hit p hend fun h' eb => ⟨rfl, I.turned (t' := s.toks) (fun b o hb q => eb b o hb q) f0 f1 f3 f4 f5⟩
  self := fun A i s Q E st h => let ⟨⟨_, he⟩, _⟩ := st; wpAny_pyIter_enum he h
def iEnumT (K : PySem.W.Frag) (ta : TA) : TI := fun σ H R => ta σ H fun vs H1 => ∃ a xs, vs = [.ref a] ∧ SqT K H1 a xs ∧ R (Itet K a) H1
theorem pi_enumT {X : Cx} (K : PySem.W.Frag) {e : Expr} {ta : TA} {p pos tpos : Pos} {elts : List Expr} {kk : Nat} (hm : X.mg "enumerate" = none) (ha : PA X [e] ta) (hK : X.K = K := by rfl) (hg : Gl X "enumerate" := by rfl) (hs : starEach [e] X.env = [(false, eval e X.env)] := by rfl) :
    PI X (.Tuple elts kk tpos) (.Call (.Name "enumerate" p) [e] [] pos) (iEnumT K ta) := by
  subst hK
  refine ⟨fun pins s σ H R I h => ?_⟩
  refine Call_ (ld_blt I hg hm boot_enumerate (PyProof.Rows.callWith_type1 (thn (ha.run pos pins s σ H _ I h) fun us s1 ⟨vs, H1, I1, r1, q1⟩ => ?_) hs rfl))
  obtain ⟨a, xs, rfl, hq, q⟩ := q1
  cases r1 with
  | cons r rr =>
    cases rr
    cases r
    obtain ⟨its, rv, tp, hz⟩ := I1.tuple hq
    have hal : a < s1.heap.objs.size := by obtain ⟨o, ho, _⟩ := tp; exact Heap.lt_size ho
    refine call_enumT tp fun h' he hit hsz hk => wpAny_pyIter_enum he ?_
    have I2 : Inv X pins σ H1 { s1 with heap := h' } := I1.kept (t' := s1.toks) hk
    refine ⟨s1.heap.objs.size + 1, [s1.heap.objs.size + 1, s1.heap.objs.size], _, _, H1, rfl, I2, turn_et a (s1.heap.objs.size + 1) s1.heap.objs.size (Nat.ne_of_lt hal) (Nat.ne_of_lt (Nat.lt_succ_of_lt hal)), ⟨⟨.none, he⟩, hit, Nat.succ_ne_self _⟩, fun b hb => ?_, q⟩
    have hle : s1.heap.objs.size ≤ b := by
      rcases (by simpa using hb : b = s1.heap.objs.size + 1 ∨ b = s1.heap.objs.size) with rfl | rfl
      · exact Nat.le_succ _
      · exact Nat.le_refl _
    exact I1.fpOk hle (I1.hok.fresh hle)
theorem walk_et {K : PySem.W.Frag} {a : Addr} {xs : List V} : Walk (Itet K a) xs.length (fun H => SqT K H a xs) (YPair (fun i => some (.int (i : Nat))) (fun i => xs[i]?)) := by
  refine ⟨fun i _ hi q => ⟨xs, xs[i], q, by simp [hi]⟩, fun _ q => ⟨xs, q, Nat.le_refl _⟩, fun i H v H' _ q y => ?_⟩
  obtain ⟨T, x, h1, h2, h3, h4⟩ := y
  exact ⟨T, .int (i : Nat), x, h1, h2, h3, rfl, h4 xs q⟩
end CcE

/-! warmth hour by hour (pure) -/
namespace Wm
def wl (l : List (Int × Int)) (j : Nat) : Int := (l.getD j (0, 0)).1
def rise (l : List (Int × Int)) (ws : List Int) : Option Nat → List Int
  | none => ws
  | some j => ws.set j (ws.getD j 0 + wl l j)
def cool (c : Int) (ws : List Int) : List Int := ws.map fun w => max 0 (w - c)
def hour (l : List (Int × Int)) (c : Int) (ws : List Int) (o : Option Nat) : List Int := cool c (rise l ws o)
def run (l : List (Int × Int)) (c : Int) (hs : List (Option Nat)) (ws : List Int) : List Int := hs.foldl (hour l c) ws
abbrev cold (l : List (Int × Int)) : List Int := List.replicate l.length 0
theorem rise_len (l : List (Int × Int)) (ws : List Int) (o : Option Nat) : (rise l ws o).length = ws.length := by cases o <;> simp [rise]
theorem hour_len (l : List (Int × Int)) (c : Int) (ws : List Int) (o : Option Nat) : (hour l c ws o).length = ws.length := by simp [hour, cool, rise_len]
theorem run_len (l : List (Int × Int)) (c : Int) : ∀ (hs : List (Option Nat)) (ws : List Int), (run l c hs ws).length = ws.length
  | [], ws => rfl
  | o :: hs, ws => by
    have := run_len l c hs (hour l c ws o)
    rw [hour_len] at this
    exact this
theorem run_snoc (l : List (Int × Int)) (c : Int) (hs : List (Option Nat)) (o : Option Nat) (ws : List Int) : run l c (hs ++ [o]) ws = hour l c (run l c hs ws) o := by simp [run]
/-- all doors of a day are doors of the store -/
def InDay (n : Nat) (hs : List (Option Nat)) : Prop := ∀ o ∈ hs, ∀ j, o = some j → j < n
def hgt (l : List (Int × Int)) (ws : List Int) : Option Nat → Int
  | none => 0
  | some j => (rise l ws (some j)).getD j 0
/-- the warmth of the opened door, hour by hour -/
def heights (l : List (Int × Int)) (c : Int) : List (Option Nat) → List Int → List Int
  | [], _ => []
  | o :: hs, ws => hgt l ws o :: heights l c hs (hour l c ws o)
theorem heights_len (l : List (Int × Int)) (c : Int) : ∀ (hs : List (Option Nat)) (ws : List Int), (heights l c hs ws).length = hs.length
  | [], _ => rfl
  | o :: hs, ws => by simp [heights, heights_len l c hs]
theorem heights_app (l : List (Int × Int)) (c : Int) : ∀ (hs gs : List (Option Nat)) (ws : List Int), heights l c (hs ++ gs) ws = heights l c hs ws ++ heights l c gs (run l c hs ws)
  | [], _, _ => rfl
  | o :: hs, gs, ws => by
    show _ :: heights l c (hs ++ gs) (hour l c ws o) = _ :: (heights l c hs (hour l c ws o) ++ _)
    rw [heights_app l c hs gs]
    rfl
def far (l : List (Int × Int)) (c : Int) (day : List (Option Nat)) (days : Int) : List Int :=
  if days = 0 then cold l else List.zipWith (fun e t => e + (days - 1) * (t - e)) (run l c day (cold l)) (run l c day (run l c day (cold l)))
theorem cold_len (l : List (Int × Int)) : (cold l).length = l.length := by simp
theorem far_len (l : List (Int × Int)) (c : Int) (day : List (Option Nat)) (days : Int) : (far l c day days).length = l.length := by
  unfold far
  split
  · exact cold_len l
  · simp [run_len]
def warmZ (l : List (Int × Int)) (c : Int) (day : List (Option Nat)) (count : Int) : List Int := run l c (day.take (count % day.length).toNat) (far l c day (count / day.length))

/-! one door -/
/-- what an hour adds to the warmth of the door d -/
def add (l : List (Int × Int)) (c : Int) (d : Nat) (o : Option Nat) : Int := (if o = some d then wl l d else 0) - c
def one (l : List (Int × Int)) (c : Int) (d : Nat) (x : Int) (o : Option Nat) : Int := max 0 (x + add l c d o)
def runD (l : List (Int × Int)) (c : Int) (d : Nat) (hs : List (Option Nat)) (x : Int) : Int := hs.foldl (one l c d) x
theorem hour_get (l : List (Int × Int)) (c : Int) (ws : List Int) (o : Option Nat) (d : Nat) (hd : d < ws.length) : (hour l c ws o).getD d 0 = one l c d (ws.getD d 0) o := by
  have h1 : d < (hour l c ws o).length := by rw [hour_len]; exact hd
  have h2 : d < (rise l ws o).length := by rw [rise_len]; exact hd
  have e : (hour l c ws o).getD d 0 = max 0 ((rise l ws o).getD d 0 - c) := by
    simp [hour, cool, h2]
  rw [e]
  unfold one add
  cases o with
  | none => simp [rise] <;> congr 1
  | some j =>
    by_cases h : j = d
    · subst h
      simp [rise, hd]
      congr 1
      omega
    · have h' : ¬ (some j = some d) := fun z => h (Option.some.inj z)
      simp only [rise, if_neg h']
      rw [List.getD_eq_getElem?_getD, List.getElem?_set_ne h, ← List.getD_eq_getElem?_getD]
      congr 1
      omega
theorem run_get (l : List (Int × Int)) (c : Int) (d : Nat) : ∀ (hs : List (Option Nat)) (ws : List Int), d < ws.length → (run l c hs ws).getD d 0 = runD l c d hs (ws.getD d 0)
  | [], _, _ => rfl
  | o :: hs, ws, hd => by
    show (run l c hs (hour l c ws o)).getD d 0 = runD l c d hs (one l c d (ws.getD d 0) o)
    rw [run_get l c d hs _ (by rw [hour_len]; exact hd), hour_get l c ws o d hd]
/-- what is added in all, and the least there is behind -/
def gain (l : List (Int × Int)) (c : Int) (d : Nat) (hs : List (Option Nat)) : Int := (hs.map (add l c d)).sum
def low (l : List (Int × Int)) (c : Int) (d : Nat) : List (Option Nat) → Int → Int := runD l c d
section
variable {l : List (Int × Int)} {c : Int} {d : Nat}
theorem gain_app (p s : List (Option Nat)) : gain l c d (p ++ s) = gain l c d p + gain l c d s := by simp [gain]
theorem runD_app (p s : List (Option Nat)) (x : Int) : runD l c d (p ++ s) x = runD l c d s (runD l c d p x) := by simp [runD]
theorem runD_nn (hs : List (Option Nat)) : ∀ x, 0 ≤ x → 0 ≤ runD l c d hs x := by
  induction hs with
  | nil => intro x h; exact h
  | cons o hs ih => intro x _; exact ih _ (by unfold one; omega)
/-- the warmth behind some hours -/
theorem runD_max : ∀ (hs : List (Option Nat)) (x : Int), 0 ≤ x → runD l c d hs x = max (runD l c d hs 0) (x + gain l c d hs)
  | [], x, h => by simp [runD, gain]; omega
  | o :: hs, x, h => by
    show runD l c d hs (one l c d x o) = max (runD l c d hs (one l c d 0 o)) _
    rw [runD_max hs (one l c d x o) (by unfold one; omega), runD_max hs (one l c d 0 o) (by unfold one; omega)]
    have e : gain l c d (o :: hs) = add l c d o + gain l c d hs := by simp [gain]
    rw [e]
    unfold one
    have h0 := runD_nn (l := l) (c := c) (d := d) hs 0 (Int.le_refl _)
    have hz := runD_max hs 0 (Int.le_refl _)
    omega
theorem runD_mono (hs : List (Option Nat)) {x y : Int} (h : x ≤ y) (h0 : 0 ≤ x) : runD l c d hs x ≤ runD l c d hs y := by
  rw [runD_max hs x h0, runD_max hs y (by omega)]
  omega
/-- so many days -/
def daysD (l : List (Int × Int)) (c : Int) (d : Nat) (day : List (Option Nat)) : Nat → Int
  | 0 => 0
  | q + 1 => runD l c d day (daysD l c d day q)
theorem daysD_nn (day : List (Option Nat)) : ∀ q, 0 ≤ daysD l c d day q
  | 0 => Int.le_refl _
  | q + 1 => runD_nn day _ (daysD_nn day q)
/-- each day behind the first one adds the same -/
theorem daysD_lin (day : List (Option Nat)) : ∀ q : Nat, daysD l c d day (q + 1) = runD l c d day 0 + q * max 0 (gain l c d day)
  | 0 => by simp [daysD]
  | q + 1 => by
    show runD l c d day (daysD l c d day (q + 1)) = _
    have ih := daysD_lin day q
    have nn := daysD_nn (l := l) (c := c) (d := d) day (q + 1)
    rw [runD_max day _ nn, ih]
    have h0 := runD_max (l := l) (c := c) (d := d) day 0 (Int.le_refl _)
    have h1 := runD_nn (l := l) (c := c) (d := d) day 0 (Int.le_refl _)
    have em : ((q + 1 : Nat) : Int) * max 0 (gain l c d day) = q * max 0 (gain l c d day) + max 0 (gain l c d day) := by
      rw [Int.natCast_add, Int.add_mul]; simp
    have qn : 0 ≤ (q : Int) * max 0 (gain l c d day) := Int.mul_nonneg (by omega) (by omega)
    rw [em]
    by_cases g : 0 ≤ gain l c d day
    · have : max 0 (gain l c d day) = gain l c d day := by omega
      rw [this] at qn ⊢
      omega
    · have : max 0 (gain l c d day) = 0 := by omega
      rw [this, Int.mul_zero]
      omega
/-- within a day behind the first one -/
theorem part_lin (p s : List (Option Nat)) (q : Nat) : runD l c d p (daysD l c d (p ++ s) (q + 1)) = runD l c d p (daysD l c d (p ++ s) 1) + q * max 0 (gain l c d (p ++ s)) := by
  rw [daysD_lin, daysD_lin]
  have e0 := runD_nn (l := l) (c := c) (d := d) (p ++ s) 0 (Int.le_refl _)
  have qn : 0 ≤ (q : Int) * max 0 (gain l c d (p ++ s)) := Int.mul_nonneg (by omega) (by omega)
  rw [runD_max p _ (by omega), runD_max p (_ + ((0 : Nat) : Int) * _) (by simp; omega)]
  have p0 := runD_nn (l := l) (c := c) (d := d) p 0 (Int.le_refl _)
  have h1 : runD l c d (p ++ s) 0 = max (runD l c d s 0) (runD l c d p 0 + gain l c d s) := by rw [runD_app, runD_max s _ p0]
  have h2 := gain_app (l := l) (c := c) (d := d) p s
  have h3 := runD_max (l := l) (c := c) (d := d) (p ++ s) 0 (Int.le_refl _)
  simp only [Int.natCast_zero, Int.zero_mul, Int.add_zero]
  by_cases g : 0 < gain l c d (p ++ s)
  · have : max 0 (gain l c d (p ++ s)) = gain l c d (p ++ s) := by omega
    rw [this] at qn ⊢
    omega
  · have : max 0 (gain l c d (p ++ s)) = 0 := by omega
    rw [this, Int.mul_zero]
    omega
end
/-! all doors, so many days -/
def days (l : List (Int × Int)) (c : Int) (day : List (Option Nat)) : Nat → List Int
  | 0 => cold l
  | q + 1 => run l c day (days l c day q)
theorem days_len (l : List (Int × Int)) (c : Int) (day : List (Option Nat)) : ∀ q, (days l c day q).length = l.length
  | 0 => cold_len l
  | q + 1 => by rw [days, run_len, days_len l c day q]
theorem days_get (l : List (Int × Int)) (c : Int) (day : List (Option Nat)) (d : Nat) (hd : d < l.length) : ∀ q, (days l c day q).getD d 0 = daysD l c d day q
  | 0 => by simp [days, daysD, cold, hd]
  | q + 1 => by rw [days, run_get l c d day _ (by rw [days_len]; exact hd), days_get l c day d hd q]; rfl
theorem ext_getD {xs ys : List Int} (h : xs.length = ys.length) (k : ∀ i, i < xs.length → xs.getD i 0 = ys.getD i 0) : xs = ys := by
  refine List.ext_getElem h fun i h1 h2 => ?_
  have := k i h1
  simpa [h1, h2] using this
theorem far_days (l : List (Int × Int)) (c : Int) (day : List (Option Nat)) (q : Nat) : far l c day q = days l c day q := by
  refine ext_getD (by rw [far_len, days_len]) fun d hd => ?_
  rw [far_len] at hd
  rw [days_get l c day d hd]
  have c0 : (cold l).getD d 0 = 0 := by simp [cold, hd]
  have lc : d < (cold l).length := by rw [cold_len]; exact hd
  cases q with
  | zero => simp [far, daysD, cold, hd]
  | succ q =>
    have n0 : ¬ ((q + 1 : Nat) : Int) = 0 := by omega
    rw [far, if_neg n0]
    have h1 : d < (run l c day (cold l)).length := by rw [run_len, cold_len]; exact hd
    have h2 : d < (run l c day (run l c day (cold l))).length := by rw [run_len]; exact h1
    have g1 := run_get l c d day (cold l) lc
    have g2 := run_get l c d day (run l c day (cold l)) h1
    rw [c0] at g1
    rw [g1] at g2
    rw [List.getD_eq_getElem?_getD, List.getElem?_eq_getElem h1] at g1
    rw [List.getD_eq_getElem?_getD, List.getElem?_eq_getElem h2] at g2
    simp only [Option.getD_some] at g1 g2
    have z : (List.zipWith (fun e t => e + (((q + 1 : Nat) : Int) - 1) * (t - e)) (run l c day (cold l)) (run l c day (run l c day (cold l)))).getD d 0 = runD l c d day 0 + (((q + 1 : Nat) : Int) - 1) * (runD l c d day (runD l c d day 0) - runD l c d day 0) := by
      rw [List.getD_eq_getElem?_getD, List.getElem?_zipWith, List.getElem?_eq_getElem h1, List.getElem?_eq_getElem h2]
      simp only [Option.getD_some, g1, g2]
    rw [z, daysD_lin]
    have l1 := daysD_lin (l := l) (c := c) (d := d) day 1
    have e1 : daysD l c d day (1 + 1) = runD l c d day (runD l c d day 0) := rfl
    rw [e1] at l1
    have e2 : ((1 : Nat) : Int) * max 0 (gain l c d day) = max 0 (gain l c d day) := by simp
    rw [e2] at l1
    have e3 : runD l c d day (runD l c d day 0) - runD l c d day 0 = max 0 (gain l c d day) := by omega
    rw [e3]
    congr 2
    omega
/-- the hours of days in a row -/
def seq (day : List (Option Nat)) (m : Nat) : List (Option Nat) := (List.range m).map fun h => day.getD (h % day.length) none
theorem seq_len (day : List (Option Nat)) (m : Nat) : (seq day m).length = m := by simp [seq]
theorem seq_add (day : List (Option Nat)) (q r : Nat) (hr : r ≤ day.length) : seq day (q * day.length + r) = seq day (q * day.length) ++ day.take r := by
  unfold seq
  rw [List.range_add, List.map_append, List.map_map]
  congr 1
  refine List.ext_getElem (by simp; omega) fun i h1 h2 => ?_
  have hi : i < r := by simpa using h1
  have hi2 : i < day.length := by omega
  simp [Nat.mul_add_mod_self_right, Nat.mod_eq_of_lt hi2, hi2]
theorem seq_days (day : List (Option Nat)) : ∀ q, run l c (seq day (q * day.length)) (cold l) = days l c day q
  | 0 => by simp [seq, run, days]
  | q + 1 => by
    have e : (q + 1) * day.length = q * day.length + day.length := by rw [Nat.add_mul, Nat.one_mul]
    rw [e, seq_add day q day.length (Nat.le_refl _), List.take_length]
    show run l c (_ ++ _) _ = run l c day (days l c day q)
    rw [← seq_days day q]
    simp [run]
/-- warmths is what the hours one by one bring -/
theorem warm_seq (l : List (Int × Int)) (c : Int) (day : List (Option Nat)) (hd : 0 < day.length) (m : Nat) : warmZ l c day m = run l c (seq day m) (cold l) := by
  have e : m = m / day.length * day.length + m % day.length := by rw [Nat.mul_comm]; exact (Nat.div_add_mod m day.length).symm
  have hr := Nat.mod_lt m hd
  unfold warmZ
  rw [show ((m : Int) % (day.length : Nat)).toNat = m % day.length by rw [← Int.natCast_emod, Int.toNat_natCast], show (m : Int) / (day.length : Nat) = ((m / day.length : Nat) : Int) from (Int.natCast_ediv m day.length).symm, far_days]
  conv => rhs; rw [e, seq_add day _ _ (by omega)]
  rw [← seq_days]
  simp [run]
end Wm

namespace My
open PySem L2 RZ Cc Wm
section
variable {P : Program} {w : World} {K : Fg} {mg : Str → Option Value} {base : Heap} {C CI fI CP CD : Addr}
theorem r_rep {ds : List D} {k : Int} (h : 0 ≤ k ∧ k ≤ 100) (hl : ds.length ≤ 1000) {tl tk : TE} {σ : L2.St} {H : Hp} (ha : GN K tl σ H ds) (hb : GD K tk σ H (.int k)) : GN K (tOp rRep tl tk) σ H (List.replicate k.toNat ds).flatten := fun H1 e Q q =>
  ha H1 e _ fun p xs H2 hp e2 hx hd => hb H2 (e.trans e2) _ fun y H3 e3 hy => by
    cases hy
    have len := hd.length
    refine ⟨p, k, xs, rfl, rfl, e3 _ _ hx, by omega, by omega, ?_, fun r hr => ?_⟩
    · have : xs.length * k.toNat ≤ 1000 * 100 := Nat.mul_le_mul (by omega) (by omega)
      rw [sizeLine_eq]; omega
    · exact q r _ _ ((e2.trans e3).free hr) ((e2.trans e3).trans (Same.new hr)) upd_same ((Dns.rep (hd.up e3) k.toNat).up (Same.new hr))
theorem gn_cat {tl tr : TE} {σ : L2.St} {H : Hp} {ds es : List D} (ha : GD K tl σ H (.lst ds)) (hb : GD K tr σ H (.lst es)) (hl : ds.length + es.length ≤ 100000) : GN K (tOp rCat tl tr) σ H (ds ++ es) := fun H1 e Q q =>
  ha H1 e _ fun x H2 e2 hx => hb H2 (e.trans e2) _ fun y H3 e3 hy => by
    have hx' := hx.up e3
    cases hx' with
    | lst h1 d1 =>
      cases hy with
      | lst h2 d2 =>
        have l1 := d1.length
        have l2 := d2.length
        refine ⟨_, _, _, _, rfl, rfl, h1, h2, by rw [sizeLine_eq]; omega, fun r hr => ?_⟩
        exact q r _ _ ((e2.trans e3).free hr) ((e2.trans e3).trans (Same.new hr)) upd_same ((d1.app d2).up (Same.new hr))
theorem gd_new {l : List (Int × Int)} {e : D} {ta : TA} {σ : L2.St} {H : Hp} (ha : GA K ta σ H [doorsD l, e]) (hG : GoodDoors l) (h1 : doorsOk (doorsD l) = true) (h2 : doorsFit (doorsD l) = true) (h3 : cratesOk e = true) (h4 : cratesFit e (sizeOf l) = true) : GD K (tMake C (spInit K C CI) [] Cc.E0 ta) σ H (storeD C l e) :=
  gd_make ha fun vs H1 x dx Q e1 hv hx hdx hne k => by
    obtain ⟨vd, ve, rfl, hd, he⟩ := hv.un2
    refine ⟨H1, x, dx, vd, ve, doorsD l, e, rfl, hx, hdx, hne, rfl, hd, he, h1, h3, fun z => (by rw [h2] at z; cases z), fun l' z G z2 => ?_, fun l' z G z2 H2 fs e2 hx2 hn hd2 => ?_⟩
    · have hl : l' = l := by
        have := D.tup.inj z
        exact (List.map_inj_right (f := doorD) fun a b h => by
          simp only [doorD, D.tup.injEq, List.cons.injEq, D.int.injEq, and_true] at h
          exact Prod.ext h.1 h.2).mp this.symm
      subst hl
      rw [h4] at z2; cases z2
    · have hl : l' = l := by
        have := D.tup.inj z
        exact (List.map_inj_right (f := doorD) fun a b h => by
          simp only [doorD, D.tup.injEq, List.cons.injEq, D.int.injEq, and_true] at h
          exact Prod.ext h.1 h.2).mp this.symm
      subst hl
      exact k H2 fs e2 hx2 hn hd2
end
/-- pairs of a number and an item -/
def enumD (ds : List D) : List D := (List.range ds.length).map fun i => D.tup [.int (i : Nat), ds.getD i .non]
theorem gi_enumT {K : Fg} {M : List Addr} {tl : TE} {σ : L2.St} {H : Hp} {ds : List D} (h : GD K tl σ H (.tup ds)) (hM : Ls M H) (hf : D.fixs ds = true) : GI K M (CcE.iEnumT K (tCons tl tNil)) σ H (enumD ds) := fun R q =>
  h H (Same.refl _) _ fun v H2 e2 hv => by
    cases hv with
    | @tup a xs _ hs hd =>
      have hl := hd.length
      refine ⟨a, xs, rfl, hs, q _ (fun H => SqT K H a xs) (YPair (fun i => some (.int (i : Nat))) (fun i => xs[i]?)) H2 e2 (by rw [show (enumD ds).length = xs.length by simp [enumD, hl]]; exact CcE.walk_et) (fun H' b => kp_t (hM.kp e2 b) hs) fun i Ha x Hb hi b y => ?_⟩
      obtain ⟨Tq, x1, x2, rfl, hT, rfl, g1, g2⟩ := y
      cases g1
      have hi' : i < ds.length := by simpa [enumD] using hi
      obtain ⟨d, hd1, hd2⟩ := hd.get g2
      have ed : ds.getD i .non = d := by simp [List.getD, hd1]
      refine ⟨Same.new hT, .tup [.int (i : Nat), d], by simp [enumD, hi']; exact (List.getElem?_eq_some_iff.mp hd1).2, .tup (.inl (.inl upd_same)) (.cons (.int _) (.cons ((hd2.keep (hM.kp e2 b) (D.fixs_iff.mp hf d (List.mem_of_getElem? hd1))).up (Same.new hT)) .nil))⟩

/-! warmth hour by hour (pure) -/
def optD : Option Nat → D
  | none => .non
  | some j => .int (j : Nat)
abbrev dayD (hs : List (Option Nat)) : D := .tup (hs.map optD)
abbrev lstI (ws : List Int) : D := .lst (ws.map D.int)
theorem fixs_ints (ns : List Int) : D.fixs (ns.map D.int) = true := D.fixs_iff.mpr fun d hd => by
  obtain ⟨k, _, rfl⟩ := List.mem_map.mp hd
  rfl
theorem fixs_day (hs : List (Option Nat)) : D.fixs (hs.map optD) = true := D.fixs_iff.mpr fun d hd => by
  obtain ⟨o, _, rfl⟩ := List.mem_map.mp hd
  cases o <;> rfl
section
variable {K : Fg} {σ : L2.St} {H : Hp}
/-- [e for a, b in zip(xs, ys)], both lists -/
theorem gn_zipL {te : TE} {tb : TA} {i j : Nat} {vs : List Nat} {ds es : List D} (g : D × D → D) (h : GA K tb σ H [.lst ds, .lst es]) (hz : ds.length ≤ 50000)
    (hw : ∀ x y, wipe (((wipe σ vs).set i (some x)).set j (some y)) vs = wipe σ vs) (hf : ∀ p ∈ ds.zip es, (g p).fix = true)
    (he : ∀ p x y H1, p ∈ ds.zip es → Same H H1 → Dn K H1 x p.1 → Dn K H1 y p.2 → GD K te (((wipe σ vs).set i (some x)).set j (some y)) H1 (g p)) : GN K (tLc (iZipA K tb) (gTup K 2 (gCons (gName i) (gCons (gName j) gNil))) tYes te vs) σ H ((ds.zip es).map g) := fun H1 e1 Q q =>
  h H1 e1 _ fun ws H2 e2 hv => by
    obtain ⟨v, w, rfl, h1, h2⟩ := hv.un2
    cases h1 with
    | @lst a xs _ hs ha =>
      cases h2 with
      | @lst b ys _ ht hb =>
        refine ⟨a, b, xs, ys, rfl, .inl ⟨SqL.of hs, SqL.of ht, fun Dl hD => ?_⟩⟩
        have hn : (ds.zip es).length = min xs.length ys.length := by rw [List.length_zip, ha.length, hb.length]
        have fx : ∀ k, D.fixs (((ds.zip es).take k).map g) = true := fun k => D.fixs_iff.mpr fun d hd => by
          obtain ⟨c, hc, rfl⟩ := List.mem_map.mp hd
          exact hf c (List.mem_of_mem_take hc)
        refine lc_it (walk_zip (K := K) hn) (fun i H' => Same H2 H' ∧ ∃ acc, H' Dl = some (.lst acc) ∧ Dns K H' acc (((ds.zip es).take i).map g)) ⟨Same.new hD, [], upd_same, by simpa using Dns.nil⟩ (fun i H' _ p => ⟨SqL.of (p.1 _ _ hs), SqL.of (p.1 _ _ ht)⟩) (fun k x Ha Hb hi p y => ?_) (fun H' p => ?_)
        · obtain ⟨p1, acc, p2, p3⟩ := p
          obtain ⟨T, x1, x2, rfl, hT, rfl, y1, y2⟩ := y
          obtain ⟨d, hd, hx⟩ := ha.get y1
          obtain ⟨d', hd', hx'⟩ := hb.get y2
          have eb : Same Ha (upd Ha T (.tup [x1, x2])) := Same.new hT
          have hpk : (ds.zip es)[k]? = some (d, d') := by
            rw [List.getElem?_zip_eq_some]
            exact ⟨hd, hd'⟩
          have hm := List.mem_of_getElem? hpk
          have e2b := p1.trans eb
          have htk : (ds.zip es).take (k + 1) = (ds.zip es).take k ++ [(d, d')] := by
            rw [List.take_add_one, hpk]
            rfl
          refine ⟨T, [x1, x2], rfl, SqT.of upd_same, rfl, x1, [x2], rfl, x2, [], rfl, rfl, hw x1 x2, ?_⟩
          unfold tYes
          dsimp only
          rw [if_pos rfl]
          refine he (d, d') x1 x2 _ hm ((e1.trans e2).trans e2b) (hx.up e2b) (hx'.up e2b) _ (Same.refl _) _ fun z H4 e4 hzz => ⟨acc, e4 _ _ (eb _ _ p2), ?_, ?_⟩
          · have h1 := p3.length
            have h2 : (((ds.zip es).take k).map g).length ≤ ds.length := by
              rw [List.length_map, List.length_take, List.length_zip]
              omega
            rw [sizeLine_eq]
            omega
          · have hDl : H4 Dl = some (.lst acc) := e4 _ _ (eb _ _ p2)
            refine ⟨Same.mut (e2b.trans e4) hD, acc ++ [z], upd_same, ?_⟩
            rw [htk, List.map_append]
            exact ((p3.up (eb.trans e4)).keep (Kp.upd hDl rfl) (fx k)).app (.cons (hzz.keep (Kp.upd hDl rfl) (hf _ hm)) .nil)
        · obtain ⟨p1, acc, p2, p3⟩ := p
          rw [List.take_length] at p3
          exact q Dl acc H' (e2.free hD) (e2.trans p1) p2 p3
end
end My

namespace My
open PySem L2 RZ Cc Wm
structure TxtH (P : Program) (w : World) (K : Fg) (mg : Str → Option Value) (C CI fI CP CD : Addr) : Prop extends TxtS P w K mg C CI fI CP CD where
  list : mg "list" = none
  max : mg "max" = none
  enumerate : mg "enumerate" = none
  divmod : mg "divmod" = none
  m_MOST_COOLING : Cst mg "MOST_COOLING" (.int 99)
  m_MOST_HOURS : Cst mg "MOST_HOURS" (.int 12)
  m_FAR : Cst mg "FAR" (.int 1000000000000000000)
theorem isNum_of {i lo hi : Int} (h1 : lo ≤ i) (h2 : i ≤ hi) : isNum (.int i) lo hi = true := by simp [isNum, h1, h2]
theorem r_isN' {K : Fg} {o : Option Nat} : R2D K (fun x y H Q => y = .non ∧ Q (.bl (decide (x = .non))) H) (optD o) .non (.bl o.isNone) := by
  have := r_isN (K := K) (d := optD o)
  cases o <;> exact this
theorem r_notN' {K : Fg} {o : Option Nat} : R2D K (fun x y H Q => y = .non ∧ Q (.bl (!decide (x = .non))) H) (optD o) .non (.bl o.isSome) := by
  have := r_notN (K := K) (d := optD o)
  cases o <;> exact this
section
variable {P : Program} {w : World} {K : Fg} {mg : Str → Option Value} {base : Heap} {C CI fI CP CD : Addr}
/-! check_number, of a number in its range -/
abbrev spChkNum (K : Fg) : Sp := spOf (α := Int × Int × Int) K (fun a => [.int a.1, .int a.2.1, .int a.2.2]) (fun a => a.2.1 ≤ a.1 ∧ a.1 ≤ a.2.2) fun _ => .non
theorem ok_check_number {f : Addr} {fd : FuncData} (F : Fun K "check_number" "check_number" s_check_number f fd) (T : TxtH P w K mg C CI fI CP CD) (C_is_number : Cal P w K mg base CX0 1 "is_number" ["value", "low", "high"] (spIsNumber K)) : FnOk P w K mg base CX0 2 f fd ["value", "low", "high"] (spChkNum K) := by
  refine F.ok sc_check_number (fun vs H Q E h => ?_) (fun cdv A outer s H vs Q E hr h => ?_)
  · obtain ⟨a, h, _⟩ := h
    exact h.length
  · obtain ⟨⟨i, lo, hi⟩, hv, ⟨h1, h2⟩, k⟩ := h
    obtain ⟨u, v, x, rfl, h3, h4, h5⟩ := hv.un3
    refine ⟨_, (pss_one (ps_if (pt_not (pt_val (pe_cal C_is_number hr pass0 (pa_cons (pv 0) (pa_cons (pv 1) (pa_cons (pv 2) pa_nil)))))) (pss_one ps_never) pss_nil)), ?_⟩
    refine s_when (b := false) (GT.is (gt_not (a := isNum (.int i) lo hi) (gt_B (gd_call (D.int i, lo, hi) (ga_cons (gd_var rfl h3) (ga2 (gd_var rfl h4) (gd_var rfl h5))) (show (D.int i).noob = true from rfl)))) (by rw [isNum_of h1 h2]; rfl)) (fun z => nomatch z) fun _ H1 e1 => ?_
    exact k _ H1 e1 .non
/-! check_day, of a day -/
abbrev spChkDay (K : Fg) (C : Addr) : Sp := spOf (α := List (Int × Int) × D × List (Option Nat)) K (fun a => [storeD C a.1 a.2.1, dayD a.2.2]) (fun a => a.1.length ≤ 1000 ∧ InDay a.1.length a.2.2 ∧ 1 ≤ a.2.2.length ∧ a.2.2.length ≤ 12) fun _ => .non
theorem ok_check_day {f : Addr} {fd : FuncData} (F : Fun K "check_day" "check_day" s_check_day f fd) (T : TxtH P w K mg C CI fI CP CD) (C_has_door : Cal P w K mg base CX0 3 "has_door" ["store", "door"] (spHasDoor K C)) : FnOk P w K mg base CX0 4 f fd ["store", "day"] (spChkDay K C) := by
  refine F.ok sc_check_day (fun vs H Q E h => ?_) (fun cdv A outer s H vs Q E hr h => ?_)
  · obtain ⟨a, h, _⟩ := h
    exact h.length
  · obtain ⟨⟨l, e, hs⟩, hv, ⟨h1, h2, h3, h4⟩, k⟩ := h
    obtain ⟨v, x, rfl, hw, hx⟩ := hv.un2
    replace h1 : l.length ≤ 1000 := h1
    replace h2 : InDay l.length hs := h2
    replace h3 : 1 ≤ hs.length := h3
    replace h4 : hs.length ≤ 12 := h4
    refine ⟨_, (pss_cons (ps_if (pt_cmpR (eqK K hr.units) (pe_callB (lenK K) (by rfl) T.len PySem.boot_len (pa_cons (pv 1) pa_nil)) pe_int (nomark _)) (pss_one ps_never) pss_nil)
      (pss_one (ps_for PassesOwn.never rfl (CcE.pi_enumT K T.enumerate (pa_cons (pv 1) pa_nil)) (pg_tK K (n := 2) rfl (pgs_cons (pg_name (i := 2) sc_check_day.nd rfl (Or.inl rfl)) (pgs_cons (pg_name (i := 3) sc_check_day.nd rfl (Or.inl rfl)) pgs_nil))) (pss_one (ps_if (PW.pt (pw_or (pt_cmpR op_ge (pv 2) (pe_gc T.m_MOST_HOURS) (nomark _)) (pw_or1 (pt_not (PW.pt (pw_or (pt_cmpR op_isN (pv 3) pe_non (nomark _)) (pw_or1 (pt_val (pe_cal C_has_door hr pass0 (pa_cons (pv 0) (pa_cons (pv 3) pa_nil))))))))))) (pss_one ps_never) pss_nil))))), ?_⟩
    refine s_when (b := false) (GT.is (gt_test (gd_op (gd_cb (ga1 (gd_var rfl hx)) (rc_len (d := dayD hs) (n := hs.length) (by simp [D.len]) (by omega))) gd_i r_eqI)) (beq_eq_false_iff_ne.mpr (by omega))) (fun z => nomatch z) fun _ H1 e1 => ?_
    dsimp only
    refine s_for (K := K) (M := []) (ds := enumD (hs.map optD)) (gi_enumT (gd_var rfl (hx.up e1)) ls_nil (fixs_day hs)) fun H2 e2 =>
      ⟨fun i σ' H' => ∃ v2 v3, σ' = [some v, some x, v2, v3] ∧ Same H2 H', ⟨none, none, rfl, .refl _⟩, fun i σ' H' ⟨_, _, _, q⟩ => .of q, ?_, ?_, ?_⟩
    · rintro i σ' H' H'' q ⟨v2, v3, rfl, q1⟩
      exact ⟨v2, v3, rfl, q1.trans q⟩
    · rintro i d y σ' H' hd hy ⟨v2, v3, rfl, q1⟩
      have hi : i < hs.length := by
        have := (List.getElem?_eq_some_iff.mp hd).1
        simpa [enumD] using this
      obtain rfl : d = .tup [.int (i : Nat), optD hs[i]] := by
        have z : (enumD (hs.map optD))[i]? = some (.tup [.int (i : Nat), optD hs[i]]) := by simp [enumD, hi]
        rw [z] at hd
        exact (Option.some.inj hd).symm
      have eH := (e1.trans e2).trans q1
      cases hy with
      | @tup a xs _ hs' hd' =>
        obtain ⟨w1, w2, rfl, hw1, hw2⟩ := hd'.un2
        refine ⟨a, _, rfl, hs', rfl, _, _, rfl, _, _, rfl, rfl, ?_⟩
        dsimp only
        refine s_when (b := false) (GT.is (gt_or (a := false) (GT.is (gt_test (gd_op (gd_var rfl hw1) (gd_c (.int 12)) r_intB)) (by simp; omega)) fun _ => gt_not (a := true) ?_) rfl) (fun z => nomatch z) fun _ H3 e3 => ?_
        · cases ho : hs[i] with
          | none =>
            rw [ho] at hw2
            exact GT.is (gt_or (a := true) (gt_test (gd_op (gd_var rfl hw2) gd_n (r_isN' (o := none)))) (b := true) fun z => nomatch z) rfl
          | some j =>
            rw [ho] at hw2
            have hj := h2 hs[i] (List.getElem_mem hi) j ho
            exact GT.is (gt_or (a := false) (gt_test (gd_op (gd_var rfl hw2) gd_n (r_isN' (o := some j)))) (b := true) fun _ => gt_test (GD.is (gd_call (l, e, D.int (j : Nat)) (ga2 (gd_var rfl (hw.up eH)) (gd_var rfl hw2)) ⟨show l.length ≤ 100000 by omega, rfl⟩) (by show D.bl (isDoorNum (.int (j : Nat)) l.length) = _; rw [isDoorNum, isNum_of (by omega) (by omega)]))) rfl
        · exact ⟨_, _, rfl, q1.trans e3⟩
    · rintro σ' H' ⟨v2, v3, rfl, q1⟩
      exact k _ H' ((e1.trans e2).trans q1) .non
/-! warmth_of -/
abbrev spWarmth (K : Fg) (C : Addr) : Sp := spOf (α := List (Int × Int) × D × List Nat) K (fun a => [storeD C a.1 a.2.1, .lst (a.2.2.map fun j => .int (j : Nat))]) (fun a => a.2.2.length ≤ 50000 ∧ ∀ j ∈ a.2.2, j < a.1.length) fun a => .int (a.2.2.map (wl a.1)).sum
theorem ok_warmth_of {f : Addr} {fd : FuncData} (F : Fun K "warmth_of" "warmth_of" s_warmth_of f fd) (T : TxtH P w K mg C CI fI CP CD) (M_doors : CPrp P w K mg base CX0 1 C "doors" (getSp C "_doors")) : FnOk P w K mg base CX0 3 f fd ["store", "doors"] (spWarmth K C) := by
  refine F.ok sc_warmth_of (fun vs H Q E h => ?_) (fun cdv A outer s H vs Q E hr h => ?_)
  · obtain ⟨a, h, _⟩ := h
    exact h.length
  · obtain ⟨⟨l, e, js⟩, hv, ⟨h1, h2⟩, k⟩ := h
    obtain ⟨v, x, rfl, hw, hx⟩ := hv.un2
    replace h1 : js.length ≤ 50000 := h1
    replace h2 : ∀ j ∈ js, j < l.length := h2
    refine ⟨_, (pss_one (ps_ret (pe_callB (sumK K) (by rfl) T.sum (by decide +kernel) (pa_cons (pe_lc (own := [("door", 2)]) (g := gName 2) rfl sc_warmth_of.nd (pi_lK K (pv 1)) (blkOk_by (own := [("door", 2)]) (N := ["store", "doors", "door"]) (sc := defScope s_warmth_of) (by decide +kernel)) (fun _ _ _ _ _ => (pg_name (i := 2) sc_warmth_of.nd rfl (Or.inl rfl))) (fun _ _ _ _ _ => pts_nil) (fun _ _ _ _ _ => (pe_ix (ixA K) (pe_ix (ixT K) (pe_prp M_doors hr pass0 (pv 0)) (pv 2) (fun _ _ => rfl)) pe_int (fun _ _ => rfl)))) pa_nil)))), ?_⟩
    have mE : (js.map fun j => D.int (j : Nat)).map (fun d => D.int (match d with | .int i => wl l i.toNat | _ => 0)) = (js.map (wl l)).map D.int := by
      rw [List.map_map, List.map_map]
      refine List.map_congr_left fun j _ => ?_
      simp
    refine s_retK (k.up (.refl _)) (gd_cb (ga1 (GN.gd (GN.is (gn_map (K := K) (ds := js.map fun j => D.int (j : Nat)) (fun d => D.int (match d with | .int i => wl l i.toNat | _ => 0)) (fun H1 e1 => gi_listC (gd_var rfl (hx.up e1))) (by rw [List.length_map]; omega) (fun _ => rfl) (fun _ _ => rfl) (fun d z H2 hd e2 hz => ?_)) mE))) rc_sum)
    obtain ⟨j, hj, rfl⟩ := List.mem_map.mp hd
    have hj' := h2 j hj
    have at0 : (l.map doorD)[j]? = some (doorD l[j]) := by simp [hj']
    have ew : wl l j = l[j].1 := by simp [wl, hj']
    refine GD.is (gd_op (d := doorD l[j]) (e := .int 0) (gd_op (gd_prp (C := C) (ns := storeNs) (gd_var rfl (hw.up e2)) (i := 2) rfl (by decide) rfl) (gd_var rfl hz) (r_ixT (ds := l.map doorD) (atI_nat at0))) gd_i (r_ix_t (ds := [.int l[j].1, .int l[j].2]) (i := 0) rfl)) ?_
    show D.int l[j].1 = D.int (wl l ((j : Nat) : Int).toNat)
    rw [← ew]
    rfl
/-! all_cold, cooled, risen -/
abbrev spCold (K : Fg) (C : Addr) : Sp := spNew (α := List (Int × Int) × D) K (fun a => [storeD C a.1 a.2]) (fun a => a.1.length ≤ 100) fun a => (cold a.1).map D.int
theorem ok_all_cold {f : Addr} {fd : FuncData} (F : Fun K "all_cold" "all_cold" s_all_cold f fd) (T : TxtH P w K mg C CI fI CP CD) (L_Store : LenC P w K mg base 1 C (spLenS K C)) : FnOk P w K mg base CX0 3 f fd ["store"] (spCold K C) := by
  refine F.ok sc_all_cold (fun vs H Q E h => ?_) (fun cdv A outer s H vs Q E hr h => ?_)
  · obtain ⟨a, h, _⟩ := h
    exact h.length
  · obtain ⟨⟨l, e⟩, hv, h1, k⟩ := h
    obtain ⟨v, rfl, hw⟩ := hv.un1
    replace h1 : l.length ≤ 100 := h1
    refine ⟨_, (pss_one (ps_ret (pe_op op_rep (pe_lst (pa_cons pe_int pa_nil)) (pe_callB (call_lenI L_Store hr) (by rfl) T.len PySem.boot_len (pa_cons (pv 0) pa_nil))))), ?_⟩
    refine (GN.is (r_rep (K := K) (ds := [D.int 0]) (k := (l.length : Nat)) ⟨by omega, by omega⟩ (by simp) (gn_lst (ga1 gd_i) (by simp)) (gd_cb (ga1 (gd_var rfl hw)) (rc_lenI (k := (l.length : Nat)) (by omega) (by omega) (l, e) rfl (show l.length ≤ 100000 by omega) rfl))) ?_) H (Same.refl _) _ fun p xs H1 hp e1 hx hd => k p xs H1 hp e1 hx hd
    simp [cold, List.flatten_replicate_singleton]
abbrev spCool (K : Fg) : Sp := spNew (α := List Int × Int) K (fun a => [lstI a.1, .int a.2]) (fun a => a.1.length ≤ 50000) fun a => (cool a.2 a.1).map D.int
theorem ok_cooled {f : Addr} {fd : FuncData} (F : Fun K "cooled" "cooled" s_cooled f fd) (T : TxtH P w K mg C CI fI CP CD) : FnOk P w K mg base CX0 1 f fd ["warm", "by"] (spCool K) := by
  refine F.ok sc_cooled (fun vs H Q E h => ?_) (fun cdv A outer s H vs Q E hr h => ?_)
  · obtain ⟨a, h, _⟩ := h
    exact h.length
  · obtain ⟨⟨ws, c⟩, hv, h1, k⟩ := h
    obtain ⟨v, x, rfl, hw, hx⟩ := hv.un2
    replace h1 : ws.length ≤ 50000 := h1
    refine ⟨_, (pss_one (ps_ret (pe_lc (own := [("warmth", 2)]) (g := gName 2) rfl sc_cooled.nd (pi_lK K (pv 0)) (blkOk_by (own := [("warmth", 2)]) (N := ["warm", "by", "warmth"]) (sc := defScope s_cooled) (by decide +kernel)) (fun _ _ _ _ _ => (pg_name (i := 2) sc_cooled.nd rfl (Or.inl rfl))) (fun _ _ _ _ _ => pts_nil) (fun _ _ _ _ _ => (pe_callB (call_max2 rfl) (by rfl) T.max (by decide +kernel) (pa_cons pe_int (pa_cons (pe_op op_sub (pv 2) (pv 1)) pa_nil))))))), ?_⟩
    have mE : (ws.map D.int).map (fun d => D.int (match d with | .int i => max 0 (i - c) | _ => 0)) = (cool c ws).map D.int := by
      rw [cool, List.map_map, List.map_map]
      rfl
    refine (GN.is (gn_map (K := K) (ds := ws.map D.int) (fun d => D.int (match d with | .int i => max 0 (i - c) | _ => 0)) (fun H1 e1 => gi_listC (gd_var rfl (hw.up e1))) (by rw [List.length_map]; omega) (fun _ => rfl) (fun _ _ => rfl) (fun d z H2 hd e2 hz => ?_)) mE) H (Same.refl _) _ fun p xs H1 hp e1 hx1 hd => k p xs H1 hp e1 hx1 hd
    obtain ⟨i, _, rfl⟩ := List.mem_map.mp hd
    exact gd_cb (ga2 gd_i (gd_op (gd_var rfl hz) (gd_var rfl (hx.up e2)) r_int)) rc_max2
abbrev spRise (K : Fg) (C : Addr) : Sp := spNew (α := List (Int × Int) × D × List Int × Option Nat) K (fun a => [storeD C a.1 a.2.1, lstI a.2.2.1, optD a.2.2.2]) (fun a => a.2.2.1.length = a.1.length ∧ ∀ j, a.2.2.2 = some j → j < a.1.length) fun a => (rise a.1 a.2.2.1 a.2.2.2).map D.int
theorem ok_risen {f : Addr} {fd : FuncData} (F : Fun K "risen" "risen" s_risen f fd) (T : TxtH P w K mg C CI fI CP CD) (C_warmth_of : Cal P w K mg base CX0 3 "warmth_of" ["store", "doors"] (spWarmth K C)) : FnOk P w K mg base CX0 4 f fd ["store", "warm", "door"] (spRise K C) := by
  refine F.ok sc_risen (fun vs H Q E h => ?_) (fun cdv A outer s H vs Q E hr h => ?_)
  · obtain ⟨a, h, _⟩ := h
    exact h.length
  · obtain ⟨⟨l, e, ws, o⟩, hv, ⟨h1, h2⟩, k⟩ := h
    obtain ⟨v, x, y, rfl, hw, hx, hy⟩ := hv.un3
    replace h1 : ws.length = l.length := h1
    replace h2 : ∀ j, o = some j → j < l.length := h2
    refine ⟨_, (pss_cons (ps_set (i := 3) sc_risen.nd rfl (Or.inl rfl) (pe_callTy (lstK K) (by rfl) T.list (by decide +kernel) (pa_cons (pv 1) pa_nil)))
      (pss_cons (ps_if (pt_cmpR op_notN (pv 2) pe_non (nomark _)) (pss_one (ps_augS (pv 3) (pv 2) (getL (K := K)) (pe_cal C_warmth_of hr pass0 (pa_cons (pv 0) (pa_cons (pe_lst (pa_cons (pv 2) pa_nil)) pa_nil))) ip_add set_list)) pss_nil)
      (pss_one (ps_ret (pv 3))))), ?_⟩
    refine s_asgN (K := K) (gn_list (gd_var rfl hx) (.inl rfl)) fun p xs H1 hp e1 hpx hd => ?_
    dsimp only
    refine s_when (gt_test (gd_op (gd_var rfl (hy.up e1)) gd_n r_notN')) (fun ho H2 e2 => ?_) (fun ho H2 e2 => ?_)
    · obtain ⟨j, rfl⟩ := Option.isSome_iff_exists.mp ho
      have hj := h2 j rfl
      have hxs := dns_ints hd
      subst hxs
      have hj2 : j < ws.length := by omega
      refine s_augL (K := K) (j := j) (a := ws[j]) (b := wl l j) (e2 _ _ hpx) (at_var rfl) (gd_var rfl ((hy.up e1).up e2)) (by simp [hj2]) ?_ fun H3 e3 => ?_
      · refine GD.is (gd_call (l, e, [j]) (ga2 (gd_var rfl ((hw.up e1).up e2)) (GN.gd (gn_lst (ga1 (gd_var rfl ((hy.up e1).up e2))) (by simp)))) ⟨by simp, by simpa using hj⟩) (by simp)
      · have e13 := (e1.trans e2).trans e3
        refine ⟨_, rfl, k p _ _ hp (Same.mut e13 hp) upd_same ?_⟩
        have es : (ws.map V.int).set j (V.int (ws[j] + wl l j)) = (rise l ws (some j)).map V.int := by
          simp [rise, List.map_set, hj2]
        rw [es]
        exact Dns.of (fun i => .int i) _
    · have : o = none := by simpa using ho
      subst this
      dsimp only
      exact ⟨_, rfl, k p xs H2 hp (e1.trans e2) (e2 _ _ hpx) (hd.up e2)⟩
/-! behind_hours -/
abbrev spHours (K : Fg) (C : Addr) : Sp := spOf (α := List (Int × Int) × D × Int × List (Option Nat) × List Int) K (fun a => [storeD C a.1 a.2.1, .int a.2.2.1, dayD a.2.2.2.1, lstI a.2.2.2.2]) (fun a => a.2.2.2.2.length = a.1.length ∧ a.1.length ≤ 100 ∧ InDay a.1.length a.2.2.2.1) fun a => lstI (run a.1 a.2.2.1 a.2.2.2.1 a.2.2.2.2)
theorem ok_behind_hours {f : Addr} {fd : FuncData} (F : Fun K "behind_hours" "behind_hours" s_behind_hours f fd) (T : TxtH P w K mg C CI fI CP CD) (C_risen : Cal P w K mg base CX0 4 "risen" ["store", "warm", "door"] (spRise K C)) (C_cooled : Cal P w K mg base CX0 1 "cooled" ["warm", "by"] (spCool K)) : FnOk P w K mg base CX0 5 f fd ["store", "cooling", "hours", "warm"] (spHours K C) := by
  refine F.ok sc_behind_hours (fun vs H Q E h => ?_) (fun cdv A outer s H vs Q E hr h => ?_)
  · obtain ⟨a, h, _⟩ := h
    exact h.length
  · obtain ⟨⟨l, e, c, hs, ws⟩, hv, ⟨h1, h2, h3⟩, k⟩ := h
    obtain ⟨v, x, y, z, rfl, hw, hx, hy, hz⟩ := hv.un4
    replace h1 : ws.length = l.length := h1
    replace h2 : l.length ≤ 100 := h2
    replace h3 : InDay l.length hs := h3
    refine ⟨_, (pss_cons (ps_for PassesOwn.never rfl (pi_tK K (pv 2)) (pg_name (i := 4) sc_behind_hours.nd rfl (Or.inl rfl)) (pss_one (ps_set (i := 3) sc_behind_hours.nd rfl (Or.inl rfl) (pe_cal C_cooled hr pass0 (pa_cons (pe_cal C_risen hr pass0 (pa_cons (pv 0) (pa_cons (pv 3) (pa_cons (pv 4) pa_nil)))) (pa_cons (pv 1) pa_nil))))))
      (pss_one (ps_ret (pv 3)))), ?_⟩
    refine s_for (K := K) (M := []) (ds := hs.map optD) (gi_tup (gd_var rfl hy) ls_nil (fixs_day hs)) fun H2 e2 =>
      ⟨fun i σ' H' => ∃ v3 v4, σ' = [some v, some x, some y, some v3, v4] ∧ Same H2 H' ∧ Dn K H' v3 (lstI (run l c (hs.take i) ws)), ⟨z, none, rfl, .refl _, hz.up e2⟩, fun i σ' H' ⟨_, _, _, q, _⟩ => .of q, ?_, ?_, ?_⟩
    · rintro i σ' H' H'' q ⟨v3, v4, rfl, q1, q2⟩
      exact ⟨v3, v4, rfl, q1.trans q, q2.up q⟩
    · rintro i d u σ' H' hd hu ⟨v3, v4, rfl, q1, q2⟩
      obtain ⟨o, ho, rfl⟩ : ∃ o, hs[i]? = some o ∧ d = optD o := by
        rw [List.getElem?_map] at hd
        rcases h : hs[i]? with _ | o
        · rw [h] at hd; cases hd
        · rw [h] at hd; exact ⟨o, rfl, (Option.some.inj hd).symm⟩
      have eH := e2.trans q1
      have rl := run_len l c (hs.take i) ws
      dsimp only [gName]
      refine s_asg (K := K) (d := lstI (run l c (hs.take (i + 1)) ws)) (GD.is (GN.gd (gn_call (rise l (run l c (hs.take i) ws) o, c) (ga2 (GN.gd (gn_call (l, e, run l c (hs.take i) ws, o) (ga_cons (gd_var rfl (hw.up eH)) (ga2 (gd_var rfl q2) (gd_var rfl hu))) ⟨by rw [rl, h1], fun j hj => h3 o (List.mem_of_getElem? ho) j hj⟩)) (gd_var rfl (hx.up eH))) (show (rise l (run l c (hs.take i) ws) o).length ≤ 50000 by rw [rise_len, rl]; omega))) ?_) fun v' H3 e3 hv' => ?_
      · have : hs.take (i + 1) = hs.take i ++ [o] := by rw [List.take_add_one, ho]; rfl
        rw [this, run_snoc]
        rfl
      · exact ⟨v', _, rfl, q1.trans e3, hv'⟩
    · rintro σ' H' ⟨v3, v4, rfl, q1, q2⟩
      rw [List.length_map, List.take_length] at q2
      exact ⟨_, rfl, k _ H' (e2.trans q1) q2⟩
end
end My

namespace My
open PySem L2 RZ Cc Wm
theorem cut_tk (ds : List D) {k : Nat} (h : k ≤ ds.length) : cutD ds none (some (k : Nat)) = ds.take k := by
  unfold cutD
  rw [HT.sIx_none, HT.sIx_nat, Nat.min_eq_left h]
  simp
theorem fix_st (C : Addr) {l : List (Int × Int)} {e : D} (he : e.fix = true) : (storeD C l e).fix = true := by
  have h1 : (doorsD l).fix = true := fixs_doors l
  have h3 := fixs_places l 0
  simp [storeD, storeDs, D.fix, D.fixs, h1, he, h3]
section
variable {P : Program} {w : World} {K : Fg} {mg : Str → Option Value} {base : Heap} {C CI fI CP CD : Addr}
abbrev spDays (K : Fg) (C : Addr) : Sp := spOf (α := List (Int × Int) × D × Int × List (Option Nat) × Int) K (fun a => [storeD C a.1 a.2.1, .int a.2.2.1, dayD a.2.2.2.1, .int a.2.2.2.2]) (fun a => a.1.length ≤ 100 ∧ InDay a.1.length a.2.2.2.1 ∧ 0 ≤ a.2.2.2.2 ∧ a.2.2.2.2 ≤ 2000000000000000000) fun a => lstI (far a.1 a.2.2.1 a.2.2.2.1 a.2.2.2.2)
theorem ok_behind_days {f : Addr} {fd : FuncData} (F : Fun K "behind_days" "behind_days" s_behind_days f fd) (T : TxtH P w K mg C CI fI CP CD) (C_all_cold : Cal P w K mg base CX0 3 "all_cold" ["store"] (spCold K C)) (C_behind_hours : Cal P w K mg base CX0 5 "behind_hours" ["store", "cooling", "hours", "warm"] (spHours K C)) : FnOk P w K mg base CX0 6 f fd ["store", "cooling", "day", "days"] (spDays K C) := by
  refine F.ok sc_behind_days (fun vs H Q E h => ?_) (fun cdv A outer s H vs Q E hr h => ?_)
  · obtain ⟨a, h, _⟩ := h
    exact h.length
  · obtain ⟨⟨l, e, c, day, days⟩, hv, ⟨h1, h2, h3, h4⟩, k⟩ := h
    obtain ⟨v, x, y, z, rfl, hw, hx, hy, hz⟩ := hv.un4
    replace hz : Dn K H z (.int days) := hz
    replace h1 : l.length ≤ 100 := h1
    replace h2 : InDay l.length day := h2
    replace h3 : 0 ≤ days := h3
    replace h4 : days ≤ 2000000000000000000 := h4
    refine ⟨_, (pss_cons (ps_set (i := 4) sc_behind_days.nd rfl (Or.inl rfl) (pe_cal C_all_cold hr pass0 (pa_cons (pv 0) pa_nil)))
      (pss_cons (ps_if (pt_cmpR (eqK K hr.units) (pv 3) pe_int (nomark _)) (pss_one (ps_ret (pv 4))) pss_nil)
      (pss_cons (ps_set (i := 5) sc_behind_days.nd rfl (Or.inl rfl) (pe_cal C_behind_hours hr pass0 (pa_cons (pv 0) (pa_cons (pv 1) (pa_cons (pv 2) (pa_cons (pv 4) pa_nil))))))
      (pss_cons (ps_set (i := 6) sc_behind_days.nd rfl (Or.inl rfl) (pe_cal C_behind_hours hr pass0 (pa_cons (pv 0) (pa_cons (pv 1) (pa_cons (pv 2) (pa_cons (pv 5) pa_nil))))))
      (pss_one (ps_ret (pe_lc (own := [("early", 7), ("late", 8)]) rfl sc_behind_days.nd (pi_zK K T.zip (pa_cons (pv 5) (pa_cons (pv 6) pa_nil))) (blkOk_by (own := [("early", 7), ("late", 8)]) (N := ["store", "cooling", "day", "days", "cold", "one", "two", "early", "late"]) (sc := defScope s_behind_days) (by decide +kernel)) (fun _ _ _ _ _ => (pg_tK K (n := 2) rfl (pgs_cons (pg_name (i := 7) sc_behind_days.nd rfl (Or.inl rfl)) (pgs_cons (pg_name (i := 8) sc_behind_days.nd rfl (Or.inl rfl)) pgs_nil)))) (fun _ _ _ _ _ => pts_nil) (fun _ _ _ _ _ => (pe_op op_add (pv 7) (pe_op op_mul (pe_op op_sub (pv 3) pe_int) (pe_op op_sub (pv 8) (pv 7)))))))))))), ?_⟩
    refine s_asg (K := K) (d := lstI (cold l)) (GN.gd (gn_call (l, e) (ga1 (gd_var rfl hw)) h1)) fun u H1 e1 hu => ?_
    dsimp only
    refine s_when (b := decide (days = 0)) (GT.is (gt_test (gd_op (gd_var rfl (hz.up e1)) gd_i r_eqI)) (Bool.beq_eq_decide_eq _ _)) (fun h H2 e2 => ?_) fun h H2 e2 => ?_
    · have h0 : days = 0 := of_decide_eq_true h
      exact s_retK (k.up (e1.trans e2)) (GD.is (gd_var rfl (hu.up e2)) (by show lstI (cold l) = lstI (far l c day days); rw [far, if_pos h0]))
    · have h0 : ¬ days = 0 := of_decide_eq_false h
      have e12 := e1.trans e2
      have o1 := run_len l c day (cold l)
      rw [cold_len] at o1
      have o2 := run_len l c day (run l c day (cold l))
      rw [o1] at o2
      dsimp only
      refine s_asg (K := K) (gd_call (l, e, c, day, cold l) (ga_cons (gd_var rfl (hw.up e12)) (ga_cons (gd_var rfl (hx.up e12)) (ga2 (gd_var rfl (hy.up e12)) (gd_var rfl (hu.up e2))))) ⟨cold_len l, h1, h2⟩) fun u1 H3 e3 hu1 => ?_
      have e13 := e12.trans e3
      dsimp only
      refine s_asg (K := K) (gd_call (l, e, c, day, run l c day (cold l)) (ga_cons (gd_var rfl (hw.up e13)) (ga_cons (gd_var rfl (hx.up e13)) (ga2 (gd_var rfl (hy.up e13)) (gd_var rfl hu1)))) ⟨o1, h1, h2⟩) fun u2 H4 e4 hu2 => ?_
      have e14 := e13.trans e4
      dsimp only
      have mE : (((run l c day (cold l)).map D.int).zip ((run l c day (run l c day (cold l))).map D.int)).map (fun p => match p with | (.int a, .int b) => D.int (a + (days - 1) * (b - a)) | (d, _) => d) = (far l c day days).map D.int := by
        rw [far, if_neg h0, List.zip_map, List.map_map, List.map_zipWith, List.zip_eq_zipWith, List.map_zipWith]
        rfl
      refine s_retK (k.up e14) (GN.gd (GN.is (gn_zipL (K := K) (ds := (run l c day (cold l)).map D.int) (es := (run l c day (run l c day (cold l))).map D.int) (fun p => match p with | (.int a, .int b) => D.int (a + (days - 1) * (b - a)) | (d, _) => d) (ga2 (gd_var rfl (hu1.up e4)) (gd_var rfl hu2)) (by rw [List.length_map]; omega) (fun _ _ => rfl) (fun p hp => ?_) (fun p x' y' H5 hp e5 hx' hy' => ?_)) mE))
      · obtain ⟨p1, p2⟩ := p
        obtain ⟨i1, _, rfl⟩ := List.mem_map.mp (List.of_mem_zip hp).1
        obtain ⟨i2, _, rfl⟩ := List.mem_map.mp (List.of_mem_zip hp).2
        rfl
      · obtain ⟨p1, p2⟩ := p
        obtain ⟨i1, _, rfl⟩ := List.mem_map.mp (List.of_mem_zip hp).1
        obtain ⟨i2, _, rfl⟩ := List.mem_map.mp (List.of_mem_zip hp).2
        exact gd_op (gd_var rfl hx') (gd_op (gd_op (gd_var rfl (hz.up (e14.trans e5))) gd_i r_int) (gd_op (gd_var rfl hy') (gd_var rfl hx') r_int) (r_intC (.inl ⟨by omega, by omega⟩))) r_int
/-! warmths -/
abbrev spWarmths (K : Fg) (C : Addr) : Sp := spOf (α := List (Int × Int) × D × Int × List (Option Nat) × Int) K (fun a => [storeD C a.1 a.2.1, .int a.2.2.1, dayD a.2.2.2.1, .int a.2.2.2.2])
  (fun a => a.1.length ≤ 100 ∧ InDay a.1.length a.2.2.2.1 ∧ 1 ≤ a.2.2.2.1.length ∧ a.2.2.2.1.length ≤ 12 ∧ 1 ≤ a.2.2.1 ∧ a.2.2.1 ≤ 99 ∧ 0 ≤ a.2.2.2.2 ∧ a.2.2.2.2 ≤ 1000000000000000000) fun a => .tup ((warmZ a.1 a.2.2.1 a.2.2.2.1 a.2.2.2.2).map D.int)
theorem ok_warmths {f : Addr} {fd : FuncData} (F : Fun K "warmths" "warmths" s_warmths f fd) (T : TxtH P w K mg C CI fI CP CD) (C_check_number : Cal P w K mg base CX0 2 "check_number" ["value", "low", "high"] (spChkNum K)) (C_check_day : Cal P w K mg base CX0 4 "check_day" ["store", "day"] (spChkDay K C)) (C_behind_days : Cal P w K mg base CX0 6 "behind_days" ["store", "cooling", "day", "days"] (spDays K C)) (C_behind_hours : Cal P w K mg base CX0 5 "behind_hours" ["store", "cooling", "hours", "warm"] (spHours K C)) : FnOk P w K mg base CX0 7 f fd ["store", "cooling", "day", "count"] (spWarmths K C) := by
  refine F.ok sc_warmths (fun vs H Q E h => ?_) (fun cdv A outer s H vs Q E hr h => ?_)
  · obtain ⟨a, h, _⟩ := h
    exact h.length
  · obtain ⟨⟨l, e, c, day, count⟩, hv, ⟨h1, h2, h3, h4, h5, h6, h7, h8⟩, k⟩ := h
    obtain ⟨v, x, y, z, rfl, hw, hx, hy, hz⟩ := hv.un4
    replace h1 : l.length ≤ 100 := h1
    replace h2 : InDay l.length day := h2
    replace h3 : 1 ≤ day.length := h3
    replace h4 : day.length ≤ 12 := h4
    replace h5 : 1 ≤ c := h5
    replace h6 : c ≤ 99 := h6
    replace h7 : 0 ≤ count := h7
    replace h8 : count ≤ 1000000000000000000 := h8
    replace hy : Dn K H y (dayD day) := hy
    refine ⟨_, (pss_cons (ps_expr (pe_cal C_check_number hr pass0 (pa_cons (pv 1) (pa_cons pe_int (pa_cons (pe_gc T.m_MOST_COOLING) pa_nil)))))
      (pss_cons (ps_expr (pe_cal C_check_day hr pass0 (pa_cons (pv 0) (pa_cons (pv 2) pa_nil))))
      (pss_cons (ps_expr (pe_cal C_check_number hr pass0 (pa_cons (pv 3) (pa_cons pe_int (pa_cons (pe_gc T.m_FAR) pa_nil)))))
      (pss_cons (ps_asg (pe_callB call_divmod (by rfl) T.divmod (by decide +kernel) (pa_cons (pv 3) (pa_cons (pe_callB (lenK K) (by rfl) T.len PySem.boot_len (pa_cons (pv 2) pa_nil)) pa_nil))) (pg_tK K (n := 2) rfl (pgs_cons (pg_name (i := 4) sc_warmths.nd rfl (Or.inl rfl)) (pgs_cons (pg_name (i := 5) sc_warmths.nd rfl (Or.inl rfl)) pgs_nil))))
      (pss_one (ps_ret (pe_callTy (tupK K) (by rfl) T.tuple (by decide +kernel) (pa_cons (pe_cal C_behind_hours hr pass0 (pa_cons (pv 0) (pa_cons (pv 1) (pa_cons (pe_slice (slT K) (pv 2) po_none (po_some (pv 5))) (pa_cons (pe_cal C_behind_days hr pass0 (pa_cons (pv 0) (pa_cons (pv 1) (pa_cons (pv 2) (pa_cons (pv 4) pa_nil))))) pa_nil))))) pa_nil)))))))), ?_⟩
    refine s_drop (K := K) (gd_call (c, 1, 99) (ga_cons (gd_var rfl hx) (ga2 gd_i (gd_c (.int 99)))) ⟨h5, h6⟩) fun H1 e1 => ?_
    dsimp only
    refine s_drop (K := K) (gd_call (l, e, day) (ga2 (gd_var rfl (hw.up e1)) (gd_var rfl (hy.up e1))) ⟨show l.length ≤ 1000 by omega, h2, h3, h4⟩) fun H2 e2 => ?_
    have e12 := e1.trans e2
    dsimp only
    refine s_drop (K := K) (gd_call (count, 0, 1000000000000000000) (ga_cons (gd_var rfl (hz.up e12)) (ga2 gd_i (gd_c (.int _)))) ⟨h7, h8⟩) fun H3 e3 => ?_
    have e13 := e12.trans e3
    dsimp only
    refine s_asgT (K := K) (gd_cb (ga2 (gd_var rfl (hz.up e13)) (gd_cb (ga1 (gd_var rfl (hy.up e13))) (rc_len (d := dayD day) (n := day.length) (by simp [D.len]) (by omega)))) (rc_divmod (i := count) (j := (day.length : Nat)) ⟨by omega, by omega⟩)) fun q r H4 e4 hq hr' => ?_
    have e14 := e13.trans e4
    have d0 : (0 : Int) < (day.length : Nat) := by omega
    have q0 : 0 ≤ count / (day.length : Nat) := Int.ediv_nonneg h7 (by omega)
    have q1 : count / (day.length : Nat) ≤ count := Int.ediv_le_self _ h7
    have r0 : 0 ≤ count % (day.length : Nat) := Int.emod_nonneg _ (by omega)
    have r1 : count % (day.length : Nat) < (day.length : Nat) := Int.emod_lt_of_pos _ d0
    obtain ⟨m, hm⟩ : ∃ m : Nat, count % (day.length : Nat) = m := ⟨(count % (day.length : Nat)).toNat, by omega⟩
    rw [hm] at hr'
    dsimp only
    refine s_retK (k.up e14) (gd_cb (ga1 (gd_call (l, e, c, day.take m, far l c day (count / (day.length : Nat))) (ga_cons (gd_var rfl (hw.up e14)) (ga_cons (gd_var rfl (hx.up e14)) (ga2 (GD.is (gd_slT (gd_var rfl (hy.up e14)) go_none (go_some (K := K) (gd_var rfl hr'))) (by rw [cut_tk _ (by rw [List.length_map]; omega), ← List.map_take])) (gd_call (l, e, c, day, count / (day.length : Nat)) (ga_cons (gd_var rfl (hw.up e14)) (ga_cons (gd_var rfl (hx.up e14)) (ga2 (gd_var rfl (hy.up e14)) (gd_var rfl hq)))) ⟨h1, h2, q0, show count / (day.length : Nat) ≤ 2000000000000000000 by omega⟩)))) ⟨far_len l c day _, h1, fun o ho => h2 o (List.mem_of_mem_take ho)⟩)) (rc_tuple (.inl (by
      show lstI _ = _
      unfold warmZ
      rw [hm, Int.toNat_natCast])) (fixs_ints _)))
/-! heights_in -/
abbrev spHeights (K : Fg) (C : Addr) : Sp := spNew (α := List (Int × Int) × D × Int × List (Option Nat)) K (fun a => [storeD C a.1 a.2.1, .int a.2.2.1, dayD a.2.2.2]) (fun a => a.1.length ≤ 100 ∧ InDay a.1.length a.2.2.2 ∧ a.2.2.2.length ≤ 1000 ∧ a.2.1.fix = true) fun a => (heights a.1 a.2.2.1 a.2.2.2 (cold a.1)).map D.int
theorem ok_heights_in {f : Addr} {fd : FuncData} (F : Fun K "heights_in" "heights_in" s_heights_in f fd) (T : TxtH P w K mg C CI fI CP CD) (C_all_cold : Cal P w K mg base CX0 3 "all_cold" ["store"] (spCold K C)) (C_risen : Cal P w K mg base CX0 4 "risen" ["store", "warm", "door"] (spRise K C)) (C_cooled : Cal P w K mg base CX0 1 "cooled" ["warm", "by"] (spCool K)) : FnOk P w K mg base CX0 5 f fd ["store", "cooling", "hours"] (spHeights K C) := by
  refine F.ok sc_heights_in (fun vs H Q E h => ?_) (fun cdv A outer s H vs Q E hr h => ?_)
  · obtain ⟨a, h, _⟩ := h
    exact h.length
  · obtain ⟨⟨l, e, c, hs⟩, hv, ⟨h1, h2, h3, he⟩, k⟩ := h
    obtain ⟨v, x, y, rfl, hw, hx, hy⟩ := hv.un3
    replace he : e.fix = true := he
    replace h1 : l.length ≤ 100 := h1
    replace h2 : InDay l.length hs := h2
    replace h3 : hs.length ≤ 1000 := h3
    refine ⟨_, (pss_cons (ps_set (i := 3) sc_heights_in.nd rfl (Or.inl rfl) (pe_lst pa_nil))
      (pss_cons (ps_set (i := 4) sc_heights_in.nd rfl (Or.inl rfl) (pe_cal C_all_cold hr pass0 (pa_cons (pv 0) pa_nil)))
      (pss_cons (ps_for PassesOwn.never rfl (pi_tK K (pv 2)) (pg_name (i := 5) sc_heights_in.nd rfl (Or.inl rfl)) (pss_cons (ps_set (i := 4) sc_heights_in.nd rfl (Or.inl rfl) (pe_cal C_risen hr pass0 (pa_cons (pv 0) (pa_cons (pv 4) (pa_cons (pv 5) pa_nil)))))
      (pss_cons (ps_expr (pe_bm PySem.F.plainAttrs_list PySem.F.slot_list_append PySem.F.type_list_append mt_append (pv 3) (pa_cons (pe_ifExp (pt_cmpR op_isN (pv 5) pe_non (nomark _)) pe_int (pe_ix (ixL K) (pv 4) (pv 5) (fun _ _ => rfl))) pa_nil)))
      (pss_one (ps_set (i := 4) sc_heights_in.nd rfl (Or.inl rfl) (pe_cal C_cooled hr pass0 (pa_cons (pv 4) (pa_cons (pv 1) pa_nil))))))))
      (pss_one (ps_ret (pv 3)))))), ?_⟩
    refine s_asgN (K := K) (gn_lst ga_nil (by simp)) fun p xs H1 hp e1 hpx hd => ?_
    cases hd
    dsimp only
    refine s_asgN (K := K) (gn_call (l, e) (ga1 (gd_var rfl (hw.up e1))) h1) fun p2 xs2 H2 hp2 e2 hpx2 hd2 => ?_
    have np : p2 ≠ p := fun z => by rw [z, hpx] at hp2; cases hp2
    have e12 := e1.trans e2
    dsimp only
    refine s_for (K := K) (M := [p]) (ds := hs.map optD) (gi_tup (gd_var rfl (hy.up e12)) (ls_one (e2 _ _ hpx)) (fixs_day hs)) fun H3 e3 =>
      ⟨fun i σ' H' => ∃ pw xw v5 ys, σ' = [some v, some x, some y, some (.ref p), some (.ref pw), v5] ∧ But [p] H3 H' ∧ H' pw = some (.lst xw) ∧ pw ≠ p ∧ Dns K H' xw ((run l c (hs.take i) (cold l)).map D.int) ∧ H' p = some (.lst ys) ∧ Dns K H' ys ((heights l c (hs.take i) (cold l)).map D.int),
      ⟨p2, xs2, none, [], rfl, .refl _ _, e3 _ _ hpx2, np, hd2.up e3, e3 _ _ (e2 _ _ hpx), .nil⟩, fun i σ' H' ⟨_, _, _, _, _, q, _⟩ => q, ?_, ?_, ?_⟩
    · rintro i σ' H' H'' q ⟨pw, xw, v5, ys, rfl, q1, q2, q3, q4, q5, q6⟩
      exact ⟨pw, xw, v5, ys, rfl, q1.trans (.of q), q _ _ q2, q3, q4.up q, q _ _ q5, q6.up q⟩
    · rintro i d u σ' H' hd hu ⟨pw, xw, v5, ys, rfl, q1, q2, q3, q4, q5, q6⟩
      obtain ⟨o, ho, rfl⟩ : ∃ o, hs[i]? = some o ∧ d = optD o := by
        rw [List.getElem?_map] at hd
        rcases h : hs[i]? with _ | o
        · rw [h] at hd; cases hd
        · rw [h] at hd; exact ⟨o, rfl, (Option.some.inj hd).symm⟩
      have hin := h2 o (List.mem_of_getElem? ho)
      have kp : Kp H2 H' := (Kp.of e3).trans (kp_one q1 (e3 _ _ (e2 _ _ hpx)))
      have fst : (storeD C l e).fix = true := fix_st C he
      have hwH : Dn K H' v (storeD C l e) := (hw.up e12).keep kp fst
      have hxH : Dn K H' x (.int c) := (hx.up e12).keep kp rfl
      have rl := run_len l c (hs.take i) (cold l)
      rw [cold_len] at rl
      dsimp only [gName]
      refine s_asgN (K := K) (gn_call (l, e, run l c (hs.take i) (cold l), o) (ga_cons (gd_var rfl hwH) (ga2 (gd_var rfl (.lst q2 q4)) (gd_var rfl hu))) ⟨rl, hin⟩) fun p4 xs4 H4 hp4 e4 hpx4 hd4 => ?_
      dsimp only
      refine s_app (K := K) (d := .int (hgt l (run l c (hs.take i) (cold l)) o)) (e4 _ _ q5) (at_var rfl) (gd_if (b := o.isNone) (gt_test (gd_op (gd_var rfl (hu.up e4)) gd_n r_isN')) (fun hb => ?_) (fun hb => ?_)) (by
        have := q6.length
        rw [List.length_map, heights_len, List.length_take] at this
        omega) fun u2 H5 e5 hu2 => ?_
      · cases o with
        | none => exact gd_i
        | some j => cases hb
      · cases o with
        | none => cases hb
        | some j =>
          have hj := hin j rfl
          have rr := rise_len l (run l c (hs.take i) (cold l)) (some j)
          exact gd_op (gd_var rfl (.lst hpx4 hd4)) (gd_var rfl (hu.up e4)) (r_ixL (atI_nat (show ((rise l (run l c (hs.take i) (cold l)) (some j)).map D.int)[j]? = some (.int ((rise l (run l c (hs.take i) (cold l)) (some j)).getD j 0)) by
            have : j < (rise l (run l c (hs.take i) (cold l)) (some j)).length := by omega
            simp [this])))
      · have p4p : p4 ≠ p := fun z => by rw [z] at hp4; rw [q5] at hp4; cases hp4
        have e45 := e4.trans e5
        have kk := Kp.upd (o := .lst (ys ++ [u2])) (e45 _ _ q5) rfl
        have hpx5 : (upd H5 p (.lst (ys ++ [u2]))) p4 = some (.lst xs4) := by rw [upd_ne p4p]; exact e5 _ _ hpx4
        have hd5 : Dns K (upd H5 p (.lst (ys ++ [u2]))) xs4 ((rise l (run l c (hs.take i) (cold l)) o).map D.int) := (hd4.up e5).keep kk (fixs_ints _)
        dsimp only
        refine s_asgN (K := K) (gn_call (rise l (run l c (hs.take i) (cold l)) o, c) (ga2 (gd_var rfl (.lst hpx5 hd5)) (gd_var rfl ((hxH.up e45).keep kk rfl))) (show (rise l (run l c (hs.take i) (cold l)) o).length ≤ 50000 by rw [rise_len, rl]; omega)) fun p6 xs6 H6 hp6 e6 hpx6 hd6 => ?_
        have p6p : p6 ≠ p := fun z => by rw [z, upd_same] at hp6; cases hp6
        have et : hs.take (i + 1) = hs.take i ++ [o] := by rw [List.take_add_one, ho]; rfl
        refine ⟨p6, xs6, _, ys ++ [u2], rfl, q1.trans ((But.of e45).trans ((But.upd (by simp)).trans (.of e6))), hpx6, p6p, ?_, e6 _ _ upd_same, ?_⟩
        · rw [et, run_snoc]
          exact hd6
        · rw [et, heights_app, List.map_append]
          refine Dns.app (((q6.up e45).keep kk (fixs_ints _)).up e6) (.cons ((hu2.keep kk rfl).up e6) .nil)
    · rintro σ' H' ⟨pw, xw, v5, ys, rfl, q1, q2, q3, q4, q5, q6⟩
      rw [List.length_map, List.take_length] at q6
      dsimp only
      exact ⟨_, rfl, k p ys H' hp (But.fresh (e12.trans e3) q1 fun m hm => by rw [List.mem_singleton.mp hm]; exact hp) q5 q6⟩
end
end My

/-! the first hour that is too warm (pure) -/
namespace Wm
open Cc (minP ltP)
theorem minP_mem : ∀ (ps : List (Int × Int)) (p : Int × Int), minP p ps ∈ p :: ps
  | [], p => List.mem_cons_self
  | q :: ps, p => by
    have ih := minP_mem ps (if ltP q p then q else p)
    have e : minP p (q :: ps) = minP (if ltP q p then q else p) ps := rfl
    rw [e]
    rcases List.mem_cons.mp ih with h | h
    · rw [h]
      by_cases c : ltP q p = true
      · rw [if_pos c]; simp
      · rw [if_neg c]; simp
    · exact List.mem_cons_of_mem _ (List.mem_cons_of_mem _ h)
theorem minP_le : ∀ (ps : List (Int × Int)) (p : Int × Int), ∀ x ∈ p :: ps, (minP p ps).1 ≤ x.1
  | [], p, x, h => by rw [List.mem_singleton.mp h]; exact Int.le_refl _
  | q :: ps, p, x, h => by
    have ih := minP_le ps (if ltP q p then q else p)
    have e : minP p (q :: ps) = minP (if ltP q p then q else p) ps := rfl
    rw [e]
    have base := ih _ List.mem_cons_self
    have hq : (if ltP q p then q else p).1 ≤ q.1 ∧ (if ltP q p then q else p).1 ≤ p.1 := by
      by_cases c : ltP q p = true
      · rw [if_pos c]
        simp only [ltP, decide_eq_true_eq] at c
        omega
      · rw [if_neg c]
        simp only [ltP, decide_eq_true_eq] at c
        omega
    rcases List.mem_cons.mp h with rfl | h
    · omega
    · rcases List.mem_cons.mp h with rfl | h
      · omega
      · exact ih x (List.mem_cons_of_mem _ h)
section
variable {l : List (Int × Int)} {c : Int} {day : List (Option Nat)}
/-- the warmth of the door opened in an hour, before it falls -/
def hv (l : List (Int × Int)) (c : Int) (day : List (Option Nat)) (m : Nat) : Int := hgt l (run l c (seq day m) (cold l)) (day.getD (m % day.length) none)
theorem seq_succ (day : List (Option Nat)) (m : Nat) : seq day (m + 1) = seq day m ++ [day.getD (m % day.length) none] := by
  unfold seq
  rw [List.range_succ, List.map_append]
  rfl
theorem heights_seq (l : List (Int × Int)) (c : Int) (day : List (Option Nat)) : ∀ m, heights l c (seq day m) (cold l) = (List.range m).map (hv l c day)
  | 0 => rfl
  | m + 1 => by
    rw [seq_succ, heights_app, heights_seq l c day m, List.range_succ, List.map_append]
    rfl
theorem seq_three (day : List (Option Nat)) : day ++ (day ++ (day ++ [])) = seq day (3 * day.length) := by
  have e : 3 * day.length = 2 * day.length + day.length := by omega
  have e2 : 2 * day.length = 1 * day.length + day.length := by omega
  have e1 : 1 * day.length = 0 * day.length + day.length := by omega
  have z : seq day (0 * day.length) = [] := by simp [seq]
  rw [e, seq_add day 2 _ (Nat.le_refl _), e2, seq_add day 1 _ (Nat.le_refl _), e1, seq_add day 0 _ (Nat.le_refl _), z, List.take_length]
  simp
/-- the warmth in the i-th hour of the q-th day -/
theorem hv_at {i j : Nat} (hi : i < day.length) (ho : day.getD i none = some j) (hj : j < l.length) (q : Nat) : hv l c day (q * day.length + i) = runD l c j (day.take i) (daysD l c j day q) + wl l j := by
  have hm : (q * day.length + i) % day.length = i := by rw [Nat.mul_add_mod_self_right, Nat.mod_eq_of_lt hi]
  unfold hv
  rw [hm, ho, seq_add day q i (by omega)]
  have e : run l c (seq day (q * day.length) ++ day.take i) (cold l) = run l c (day.take i) (days l c day q) := by
    rw [← seq_days]
    simp [run]
  rw [e]
  have hl : j < (run l c (day.take i) (days l c day q)).length := by rw [run_len, days_len]; exact hj
  have g := run_get l c j (day.take i) (days l c day q) (by rw [days_len]; exact hj)
  rw [days_get l c day j hj] at g
  have : hgt l (run l c (day.take i) (days l c day q)) (some j) = (run l c (day.take i) (days l c day q)).getD j 0 + wl l j := by
    unfold hgt rise
    simp [hl]
  rw [this, g]
theorem hv_none {m : Nat} (ho : day.getD (m % day.length) none = none) : hv l c day m = 0 := by
  unfold hv
  rw [ho]
  rfl
/-- from the second day on the same is added each day -/
def slope (l : List (Int × Int)) (c : Int) (day : List (Option Nat)) (j : Nat) : Int := max 0 (gain l c j day)
theorem hv_lin {i j : Nat} (hi : i < day.length) (ho : day.getD i none = some j) (hj : j < l.length) (q : Nat) : hv l c day ((q + 1) * day.length + i) = hv l c day (1 * day.length + i) + q * slope l c day j := by
  rw [hv_at hi ho hj, hv_at hi ho hj]
  have e : day.take i ++ day.drop i = day := List.take_append_drop i day
  have := part_lin (l := l) (c := c) (d := j) (day.take i) (day.drop i) q
  rw [e] at this
  unfold slope
  omega
theorem hv_first {i j : Nat} (hi : i < day.length) (ho : day.getD i none = some j) (hj : j < l.length) : hv l c day (0 * day.length + i) ≤ hv l c day (1 * day.length + i) := by
  rw [hv_at hi ho hj, hv_at hi ho hj]
  have := runD_mono (l := l) (c := c) (d := j) (day.take i) (daysD_nn (l := l) (c := c) (d := j) day 1) (Int.le_refl _)
  have z : daysD l c j day 0 = 0 := rfl
  rw [z]
  omega
theorem gain_le (hw : ∀ j, wl l j ≤ 99) (hc : 1 ≤ c) (d : Nat) : ∀ hs : List (Option Nat), gain l c d hs ≤ 98 * hs.length
  | [] => by simp [gain]
  | o :: hs => by
    have ih := gain_le hw hc d hs
    have e : gain l c d (o :: hs) = add l c d o + gain l c d hs := by simp [gain]
    have ha : add l c d o ≤ 98 := by
      unfold add
      have := hw d
      split <;> omega
    rw [e, List.length_cons]
    omega
end
/-- on which day a height is greater than a limit -/
def daysZ (a b c lim : Int) : Option Int := if a > lim then some 0 else if b > lim then some 1 else if c - b = 0 then none else some (2 + (lim - b) / (c - b))
theorem daysZ_spec {h : Nat → Int} {g lim : Int} (h01 : h 0 ≤ h 1) (hl : ∀ q : Nat, h (q + 1) = h 1 + q * g) (hg : 0 ≤ g) :
    match daysZ (h 0) (h 1) (h 2) lim with
    | none => ∀ q, h q ≤ lim
    | some t => ∃ m : Nat, t = m ∧ h m > lim ∧ ∀ q < m, h q ≤ lim := by
  have h2 : h 2 = h 1 + g := by have := hl 1; simpa using this
  unfold daysZ
  by_cases c0 : h 0 > lim
  · rw [if_pos c0]
    exact ⟨0, rfl, c0, fun q hq => absurd hq (by omega)⟩
  · rw [if_neg c0]
    by_cases c1 : h 1 > lim
    · rw [if_pos c1]
      refine ⟨1, rfl, c1, fun q hq => ?_⟩
      have : q = 0 := by omega
      subst this
      omega
    · rw [if_neg c1]
      by_cases c2 : h 2 - h 1 = 0
      · rw [if_pos c2]
        intro q
        cases q with
        | zero => omega
        | succ q =>
          have hz : g = 0 := by omega
          rw [hl q, hz, Int.mul_zero]
          omega
      · rw [if_neg c2]
        have hgp : 0 < g := by omega
        have eg : h 2 - h 1 = g := by omega
        rw [eg]
        have d0 : 0 ≤ (lim - h 1) / g := Int.ediv_nonneg (by omega) hg
        have dm := Int.emod_add_mul_ediv (lim - h 1) g
        have r0 := Int.emod_nonneg (lim - h 1) (by omega : g ≠ 0)
        have r1 := Int.emod_lt_of_pos (lim - h 1) hgp
        obtain ⟨k, hk⟩ : ∃ k : Nat, (lim - h 1) / g = k := ⟨((lim - h 1) / g).toNat, by omega⟩
        rw [hk] at dm d0 ⊢
        refine ⟨k + 2, by omega, ?_, fun q hq => ?_⟩
        · have e := hl (k + 1)
          have e2 : ((k + 1 : Nat) : Int) * g = g * k + g := by rw [Int.natCast_add, Int.add_mul, Int.mul_comm g]; simp
          rw [show k + 2 = (k + 1) + 1 by omega, e, e2]
          omega
        · cases q with
          | zero => omega
          | succ q =>
            have hq' : q ≤ k := by omega
            have m1 : (q : Int) * g ≤ (k : Int) * g := Int.mul_le_mul_of_nonneg_right (by omega) hg
            have m2 : (k : Int) * g = g * k := Int.mul_comm _ _
            rw [hl q]
            omega
section
variable {l : List (Int × Int)} {c : Int} {day : List (Option Nat)} {lim : Int}
def Hot (l : List (Int × Int)) (c : Int) (day : List (Option Nat)) (lim : Int) (m : Nat) : Prop := ∃ j, day.getD (m % day.length) none = some j ∧ hv l c day m > lim
/-- it is the first hour that is too warm, and its door -/
def IsFirst (l : List (Int × Int)) (c : Int) (day : List (Option Nat)) (lim : Int) : Option (Int × Int) → Prop
  | none => ∀ m, ¬ Hot l c day lim m
  | some p => ∃ m j : Nat, p = ((m : Int), (j : Int)) ∧ day.getD (m % day.length) none = some j ∧ hv l c day m > lim ∧ ∀ m' < m, ¬ Hot l c day lim m'
theorem first_unique {a b : Option (Int × Int)} (ha : IsFirst l c day lim a) (hb : IsFirst l c day lim b) : a = b := by
  cases a with
  | none =>
    cases b with
    | none => rfl
    | some q =>
      obtain ⟨m, j, _, h1, h2, _⟩ := hb
      exact absurd ⟨j, h1, h2⟩ (ha m)
  | some p =>
    obtain ⟨m, j, rfl, h1, h2, h3⟩ := ha
    cases b with
    | none => exact absurd ⟨j, h1, h2⟩ (hb m)
    | some q =>
      obtain ⟨m', j', rfl, g1, g2, g3⟩ := hb
      have e : m = m' := by
        rcases Nat.lt_trichotomy m m' with h | h | h
        · exact absurd ⟨j, h1, h2⟩ (g3 m h)
        · exact h
        · exact absurd ⟨j', g1, g2⟩ (h3 m' h)
      subst e
      rw [h1] at g1
      cases g1
      rfl
/-- the program's pairs -/
def thawAt (l : List (Int × Int)) (c : Int) (day : List (Option Nat)) (lim : Int) (i : Nat) : Option (Int × Int) := match day.getD i none with
  | none => none
  | some j => (daysZ (hv l c day (0 * day.length + i)) (hv l c day (1 * day.length + i)) (hv l c day (2 * day.length + i)) lim).map fun t => (t * (day.length : Nat) + (i : Nat), (j : Int))
def thawL (l : List (Int × Int)) (c : Int) (day : List (Option Nat)) (lim : Int) : List (Int × Int) := (List.range day.length).filterMap (thawAt l c day lim)
def thawZ (l : List (Int × Int)) (c : Int) (day : List (Option Nat)) (lim : Int) : Option (Int × Int) := match thawL l c day lim with
  | [] => none
  | p :: ps => some (minP p ps)
theorem day_spec {i j : Nat} (hin : InDay l.length day) (hi : i < day.length) (ho : day.getD i none = some j) :
    match daysZ (hv l c day (0 * day.length + i)) (hv l c day (1 * day.length + i)) (hv l c day (2 * day.length + i)) lim with
    | none => ∀ q, hv l c day (q * day.length + i) ≤ lim
    | some t => ∃ m : Nat, t = m ∧ hv l c day (m * day.length + i) > lim ∧ ∀ q < m, hv l c day (q * day.length + i) ≤ lim := by
  have hj : j < l.length := hin (day.getD i none) (by rw [List.getD_eq_getElem?_getD, List.getElem?_eq_getElem hi]; exact List.getElem_mem hi) j ho
  exact daysZ_spec (h := fun q => hv l c day (q * day.length + i)) (g := slope l c day j) (hv_first hi ho hj) (fun q => hv_lin hi ho hj q) (by unfold slope; omega)
theorem split_hour (m : Nat) (hd : 0 < day.length) : m = m / day.length * day.length + m % day.length ∧ m % day.length < day.length := ⟨by rw [Nat.mul_comm]; exact (Nat.div_add_mod m day.length).symm, Nat.mod_lt m hd⟩
theorem thaw_first (hin : InDay l.length day) (hd : 0 < day.length) : IsFirst l c day lim (thawZ l c day lim) := by
  -- an hour that is too warm has a pair that is not later
  have key : ∀ m, Hot l c day lim m → ∃ p ∈ thawL l c day lim, p.1 ≤ (m : Int) := by
    rintro m ⟨j, h1, h2⟩
    obtain ⟨e, hr⟩ := split_hour (day := day) m hd
    have sp := day_spec (c := c) (lim := lim) hin hr h1
    generalize hz : daysZ _ _ _ lim = z at sp
    rw [e] at h2
    cases z with
    | none => exact absurd (sp (m / day.length)) (by omega)
    | some t =>
      obtain ⟨k, rfl, h3, h4⟩ := sp
      refine ⟨((k : Int) * (day.length : Nat) + ((m % day.length : Nat) : Int), (j : Int)), List.mem_filterMap.mpr ⟨m % day.length, List.mem_range.mpr hr, ?_⟩, ?_⟩
      · unfold thawAt
        rw [h1]
        simp only [hz, Option.map_some]
      · have hk : k ≤ m / day.length := Nat.le_of_not_lt fun hlt => by
          have := h4 _ hlt
          omega
        have := Nat.mul_le_mul_right day.length hk
        have e3 : (k : Int) * (day.length : Nat) = ((k * day.length : Nat) : Int) := by simp
        show (k : Int) * (day.length : Nat) + _ ≤ _
        rw [e3]
        omega
  unfold thawZ
  cases hL : thawL l c day lim with
  | nil =>
    intro m hm
    obtain ⟨p, hp, _⟩ := key m hm
    rw [hL] at hp
    cases hp
  | cons p ps =>
    have hm := minP_mem ps p
    have hl := minP_le ps p
    rw [← hL] at hm hl
    obtain ⟨i, hi, he⟩ := List.mem_filterMap.mp hm
    have hi' := List.mem_range.mp hi
    unfold thawAt at he
    cases ho : day.getD i none with
    | none => rw [ho] at he; cases he
    | some j =>
      rw [ho] at he
      have sp := day_spec (c := c) (lim := lim) hin hi' ho
      generalize hz : daysZ _ _ _ lim = z at sp he
      cases z with
      | none => cases he
      | some t =>
        obtain ⟨k, rfl, h3, h4⟩ := sp
        have he' := Option.some.inj he
        have hmod : (k * day.length + i) % day.length = i := by rw [Nat.mul_add_mod_self_right, Nat.mod_eq_of_lt hi']
        refine ⟨k * day.length + i, j, ?_, by rw [hmod]; exact ho, h3, fun m' hlt hot => ?_⟩
        · rw [← he']
          simp
        · obtain ⟨p', hp', hle⟩ := key m' hot
          have := hl p' hp'
          rw [← he'] at this
          have e3 : (k : Int) * (day.length : Nat) = ((k * day.length : Nat) : Int) := by simp
          simp only [e3] at this
          omega
end
end Wm

namespace My
open PySem L2 RZ Cc Wm
def optI : Option Int → D
  | none => .non
  | some i => .int i
def optP : Option (Int × Int) → D
  | none => .non
  | some p => pairD p
theorem r_notN2 {K : Fg} {o : Option Int} : R2D K (fun x y H Q => y = .non ∧ Q (.bl (!decide (x = .non))) H) (optI o) .non (.bl o.isSome) := by
  have := r_notN (K := K) (d := optI o)
  cases o <;> exact this
theorem step_three {xs : List D} {n i : Nat} (hx : xs.length = 3 * n) (hi : i < n) : stepV xs (i : Nat) (n : Nat) = [xs.getD i .non, xs.getD (n + i) .non, xs.getD (2 * n + i) .non] := by
  have e : idxStep (i : Nat) (n : Nat) xs.length = [i, n + i, 2 * n + i] := by
    unfold idxStep PySem.sliceRange
    have h0 : max (0 : Int) (min (i : Nat) (xs.length : Nat)) = (i : Nat) := by omega
    have hn : (n : Int) > 0 := by omega
    have hlt : (i : Int) < (xs.length : Nat) := by omega
    have hc : (((xs.length : Nat) : Int) - (i : Nat) + (n : Nat) - 1) / (n : Nat) = 3 := by
      have e1 : (((xs.length : Nat) : Int) - (i : Nat) + (n : Nat) - 1) = (((n - 1 - i : Nat) : Int)) + 3 * (n : Nat) := by omega
      rw [e1, Int.add_mul_ediv_right _ _ (by omega), Int.ediv_eq_zero_of_lt (by omega) (by omega)]
      rfl
    rw [h0]
    simp only [hn, if_true, hlt, hc]
    show (List.range 3).map _ = _
    have e2 : ((i : Nat) : Int) + (n : Nat) * ((0 : Nat) : Int) = (i : Nat) := by simp
    have e3 : ((i : Nat) : Int) + (n : Nat) * ((1 : Nat) : Int) = ((n + i : Nat) : Int) := by simp; omega
    have e4 : ((i : Nat) : Int) + (n : Nat) * ((2 : Nat) : Int) = ((2 * n + i : Nat) : Int) := by simp; omega
    simp only [List.range, List.range.loop, List.map_cons, List.map_nil, e2, e3, e4, Int.toNat_natCast]
  unfold stepV
  rw [e]
  have a0 : i < xs.length := by omega
  have a1 : n + i < xs.length := by omega
  have a2 : 2 * n + i < xs.length := by omega
  simp [a0, a1, a2]
section
variable {P : Program} {w : World} {K : Fg} {mg : Str → Option Value} {base : Heap} {C CI fI CP CD : Addr}
abbrev spUntil (K : Fg) : Sp := spOf (α := Int × Int × Int × Int) K (fun a => [.lst [.int a.1, .int a.2.1, .int a.2.2.1], .int a.2.2.2]) (fun a => 0 ≤ a.2.2.1 - a.2.1 ∧ a.2.2.1 - a.2.1 < 1073741824) fun a => optI (daysZ a.1 a.2.1 a.2.2.1 a.2.2.2)
theorem ok_days_until {f : Addr} {fd : FuncData} (F : Fun K "days_until" "days_until" s_days_until f fd) (T : TxtH P w K mg C CI fI CP CD) : FnOk P w K mg base CX0 1 f fd ["heights", "limit"] (spUntil K) := by
  refine F.ok sc_days_until (fun vs H Q E h => ?_) (fun cdv A outer s H vs Q E hr h => ?_)
  · obtain ⟨a, h, _⟩ := h
    exact h.length
  · obtain ⟨⟨a, b, c, lim⟩, hv, ⟨h1, h2⟩, k⟩ := h
    obtain ⟨v, x, rfl, hw, hx⟩ := hv.un2
    replace h1 : 0 ≤ c - b := h1
    replace h2 : c - b < 1073741824 := h2
    replace hx : Dn K H x (.int lim) := hx
    refine ⟨_, (pss_cons (ps_asg (pv 0) (pg_unK K (n := 3) rfl (pgs_cons (pg_name (i := 2) sc_days_until.nd rfl (Or.inl rfl)) (pgs_cons (pg_name (i := 3) sc_days_until.nd rfl (Or.inl rfl)) (pgs_cons (pg_name (i := 4) sc_days_until.nd rfl (Or.inl rfl)) pgs_nil)))))
      (pss_cons (ps_if (pt_cmpR op_gt (pv 2) (pv 1) (nomark _)) (pss_one (ps_ret pe_int)) pss_nil)
      (pss_cons (ps_if (pt_cmpR op_gt (pv 3) (pv 1) (nomark _)) (pss_one (ps_ret pe_int)) pss_nil)
      (pss_cons (ps_set (i := 5) sc_days_until.nd rfl (Or.inl rfl) (pe_op op_sub (pv 4) (pv 3)))
      (pss_cons (ps_if (pt_cmpR (eqK K hr.units) (pv 5) pe_int (nomark _)) (pss_one (ps_ret pe_non)) pss_nil)
      (pss_one (ps_ret (pe_op op_add pe_int (pe_op op_fdiv (pe_op op_sub (pv 1) (pv 3)) (pv 5)))))))))), ?_⟩
    refine s_unl3 (K := K) (gd_var rfl hw) fun u1 u2 u3 H1 e1 g1 g2 g3 => ?_
    replace g1 : Dn K H1 u1 (.int a) := g1
    replace g2 : Dn K H1 u2 (.int b) := g2
    replace g3 : Dn K H1 u3 (.int c) := g3
    dsimp only
    refine s_when (gt_test (gd_op (gd_var rfl g1) (gd_var rfl (hx.up e1)) r_intB)) (fun h H2 e2 => ?_) fun h H2 e2 => ?_
    · refine s_retK (k.up (e1.trans e2)) (GD.is gd_i ?_)
      show D.int 0 = optI (daysZ a b c lim)
      have : a > lim := by have := of_decide_eq_true h; omega
      rw [daysZ, if_pos this]
      rfl
    · have n0 : ¬ a > lim := by have := of_decide_eq_false h; omega
      have e12 := e1.trans e2
      dsimp only
      refine s_when (gt_test (gd_op (gd_var rfl (g2.up e2)) (gd_var rfl (hx.up e12)) r_intB)) (fun h H3 e3 => ?_) fun h H3 e3 => ?_
      · refine s_retK (k.up (e12.trans e3)) (GD.is gd_i ?_)
        show D.int 1 = optI (daysZ a b c lim)
        have : b > lim := by have := of_decide_eq_true h; omega
        rw [daysZ, if_neg n0, if_pos this]
        rfl
      · have n1 : ¬ b > lim := by have := of_decide_eq_false h; omega
        have e13 := e12.trans e3
        have e23 := e2.trans e3
        dsimp only
        refine s_asg (K := K) (gd_op (gd_var rfl (g3.up e23)) (gd_var rfl (g2.up e23)) r_int) fun u4 H4 e4 g4 => ?_
        dsimp only
        refine s_when (b := decide (c - b = 0)) (GT.is (gt_test (gd_op (gd_var rfl g4) gd_i r_eqI)) (Bool.beq_eq_decide_eq _ _)) (fun h H5 e5 => ?_) fun h H5 e5 => ?_
        · refine s_retK (k.up ((e13.trans e4).trans e5)) (GD.is gd_n ?_)
          show D.non = optI (daysZ a b c lim)
          rw [daysZ, if_neg n0, if_neg n1, if_pos (of_decide_eq_true h)]
          rfl
        · have n2 : ¬ c - b = 0 := of_decide_eq_false h
          have e15 := (e13.trans e4).trans e5
          dsimp only
          refine s_retK (k.up e15) (GD.is (gd_op gd_i (gd_op (gd_op (gd_var rfl (hx.up e15)) (gd_var rfl ((g2.up e23).up (e4.trans e5))) r_int) (gd_var rfl (g4.up e5)) (r_intC ⟨by omega, by omega⟩)) r_int) ?_)
          show _ = optI (daysZ a b c lim)
          rw [daysZ, if_neg n0, if_neg n1, if_neg n2]
          rfl
abbrev spThaw (K : Fg) (C : Addr) : Sp := spOf (α := List (Int × Int) × D × Int × List (Option Nat) × Int) K (fun a => [storeD C a.1 a.2.1, .int a.2.2.1, dayD a.2.2.2.1, .int a.2.2.2.2])
  (fun a => a.1.length ≤ 100 ∧ InDay a.1.length a.2.2.2.1 ∧ 1 ≤ a.2.2.2.1.length ∧ a.2.2.2.1.length ≤ 12 ∧ 1 ≤ a.2.2.1 ∧ a.2.2.1 ≤ 99 ∧ 0 ≤ a.2.2.2.2 ∧ a.2.2.2.2 ≤ 1000000000000000000 ∧ a.2.1.fix = true ∧ ∀ j, wl a.1 j ≤ 99) fun a => optP (thawZ a.1 a.2.2.1 a.2.2.2.1 a.2.2.2.2)
theorem ok_first_thaw {f : Addr} {fd : FuncData} (F : Fun K "first_thaw" "first_thaw" s_first_thaw f fd) (T : TxtH P w K mg C CI fI CP CD) (C_check_number : Cal P w K mg base CX0 2 "check_number" ["value", "low", "high"] (spChkNum K)) (C_check_day : Cal P w K mg base CX0 4 "check_day" ["store", "day"] (spChkDay K C)) (C_heights_in : Cal P w K mg base CX0 5 "heights_in" ["store", "cooling", "hours"] (spHeights K C)) (C_days_until : Cal P w K mg base CX0 1 "days_until" ["heights", "limit"] (spUntil K)) : FnOk P w K mg base CX0 7 f fd ["store", "cooling", "day", "limit"] (spThaw K C) := by
  refine F.ok sc_first_thaw (fun vs H Q E h => ?_) (fun cdv A outer s H vs Q E hr h => ?_)
  · obtain ⟨a, h, _⟩ := h
    exact h.length
  · obtain ⟨⟨l, e, c, day, lim⟩, hvs, ⟨h1, h2, h3, h4, h5, h6, h7, h8, he, hwl⟩, k⟩ := h
    obtain ⟨v, x, y, z, rfl, hw, hx, hy, hz⟩ := hvs.un4
    replace h1 : l.length ≤ 100 := h1
    replace h2 : InDay l.length day := h2
    replace h3 : 1 ≤ day.length := h3
    replace h4 : day.length ≤ 12 := h4
    replace h5 : 1 ≤ c := h5
    replace h6 : c ≤ 99 := h6
    replace h7 : 0 ≤ lim := h7
    replace h8 : lim ≤ 1000000000000000000 := h8
    replace he : e.fix = true := he
    replace hwl : ∀ j, wl l j ≤ 99 := hwl
    replace hy : Dn K H y (dayD day) := hy
    replace hz : Dn K H z (.int lim) := hz
    replace hx : Dn K H x (.int c) := hx
    refine ⟨_, (pss_cons (ps_expr (pe_cal C_check_number hr pass0 (pa_cons (pv 1) (pa_cons pe_int (pa_cons (pe_gc T.m_MOST_COOLING) pa_nil)))))
      (pss_cons (ps_expr (pe_cal C_check_day hr pass0 (pa_cons (pv 0) (pa_cons (pv 2) pa_nil))))
      (pss_cons (ps_expr (pe_cal C_check_number hr pass0 (pa_cons (pv 3) (pa_cons pe_int (pa_cons (pe_gc T.m_FAR) pa_nil)))))
      (pss_cons (ps_set (i := 4) sc_first_thaw.nd rfl (Or.inl rfl) (pe_cal C_heights_in hr pass0 (pa_cons (pv 0) (pa_cons (pv 1) (pa_cons (pe_op (repTA (K := K)) (pv 2) pe_int) pa_nil)))))
      (pss_cons (ps_set (i := 5) sc_first_thaw.nd rfl (Or.inl rfl) (pe_lst pa_nil))
      (pss_cons (ps_for PassesOwn.never rfl (CcE.pi_enumT K T.enumerate (pa_cons (pv 2) pa_nil)) (pg_tK K (n := 2) rfl (pgs_cons (pg_name (i := 6) sc_first_thaw.nd rfl (Or.inl rfl)) (pgs_cons (pg_name (i := 7) sc_first_thaw.nd rfl (Or.inl rfl)) pgs_nil))) (pss_cons (ps_set (i := 8) sc_first_thaw.nd rfl (Or.inl rfl) (pe_cal C_days_until hr pass0 (pa_cons (pe_stepL (K := K) (pv 4) (pv 6) (pe_callB (lenK K) (by rfl) T.len PySem.boot_len (pa_cons (pv 2) pa_nil))) (pa_cons (pv 3) pa_nil))))
      (pss_one (ps_if (PW.pt (pw_and (pt_cmpR op_notN (pv 7) pe_non (nomark _)) (pw_and1 (pt_cmpR op_notN (pv 8) pe_non (nomark _))))) (pss_one (ps_expr (pe_bm PySem.F.plainAttrs_list PySem.F.slot_list_append PySem.F.type_list_append mt_append (pv 5) (pa_cons (pe_tup (pa_cons (pe_op op_add (pe_op op_mul (pv 8) (pe_callB (lenK K) (by rfl) T.len PySem.boot_len (pa_cons (pv 2) pa_nil))) (pv 6)) (pa_cons (pv 7) pa_nil))) pa_nil)))) pss_nil))))
      (pss_one (ps_ret (pe_callBK (minLD (K := K) hr.units65) (by rfl) T.min (by decide +kernel) (pa_cons (pv 5) pa_nil) (pk_cons pe_non pk_nil)))))))))), ?_⟩
    refine s_drop (K := K) (gd_call (c, 1, 99) (ga_cons (gd_var rfl hx) (ga2 gd_i (gd_c (.int 99)))) ⟨h5, h6⟩) fun H1 e1 => ?_
    dsimp only
    refine s_drop (K := K) (gd_call (l, e, day) (ga2 (gd_var rfl (hw.up e1)) (gd_var rfl (hy.up e1))) ⟨show l.length ≤ 1000 by omega, h2, h3, h4⟩) fun H2 e2 => ?_
    have e12 := e1.trans e2
    dsimp only
    refine s_drop (K := K) (gd_call (lim, 0, 1000000000000000000) (ga_cons (gd_var rfl (hz.up e12)) (ga2 gd_i (gd_c (.int _)))) ⟨h7, h8⟩) fun H3 e3 => ?_
    have e13 := e12.trans e3
    dsimp only
    have in3 : InDay l.length (seq day (3 * day.length)) := by
      rw [← seq_three]
      intro o ho
      rcases List.mem_append.mp ho with ho | ho
      · exact h2 o ho
      · rcases List.mem_append.mp ho with ho | ho
        · exact h2 o ho
        · exact h2 o (by simpa using ho)
    have d3 : dayD (seq day (3 * day.length)) = .tup (List.replicate (3 : Int).toNat (day.map optD)).flatten := by
      rw [← seq_three]
      show D.tup _ = D.tup ((List.replicate 3 (day.map optD)).flatten)
      simp [List.replicate]
    refine s_asgN (K := K) (gn_call (l, e, c, seq day (3 * day.length)) (ga_cons (gd_var rfl (hw.up e13)) (ga2 (gd_var rfl (hx.up e13)) (GD.is (gd_op (gd_var rfl (hy.up e13)) gd_i (r_repTA (k := 3) (by
      intro hn
      have := congrArg List.length hn
      rw [List.length_map] at this
      simp only [List.length_nil] at this
      omega) (by decide) (by decide) (by rw [List.length_map]; omega))) d3.symm))) ⟨h1, in3, by show (seq day (3 * day.length)).length ≤ 1000; rw [seq_len]; omega, he⟩) fun p xs H4 hp e4 hpx hd => ?_
    have e14 := e13.trans e4
    rw [show heights (l, e, c, seq day (3 * day.length)).1 (l, e, c, seq day (3 * day.length)).2.2.1 (l, e, c, seq day (3 * day.length)).2.2.2 (cold (l, e, c, seq day (3 * day.length)).1) = (List.range (3 * day.length)).map (hv l c day) from heights_seq l c day _] at hd
    dsimp only
    refine s_asgN (K := K) (gn_lst ga_nil (by simp)) fun p2 xs2 H5 hp2 e5 hpx2 hd2 => ?_
    cases hd2
    have e15 := e14.trans e5
    have np : p ≠ p2 := fun q => by rw [← q, hpx] at hp2; cases hp2
    dsimp only
    refine s_for (K := K) (M := [p2]) (ds := enumD (day.map optD)) (gi_enumT (gd_var rfl (hy.up e15)) (ls_one hpx2) (fixs_day day)) fun H6 e6 =>
      ⟨fun i σ' H' => ∃ v6 v7 v8 ys, σ' = [some v, some x, some y, some z, some (.ref p), some (.ref p2), v6, v7, v8] ∧ But [p2] H6 H' ∧ H' p2 = some (.lst ys) ∧ Dns K H' ys (((List.range i).filterMap (thawAt l c day lim)).map pairD),
      ⟨none, none, none, [], rfl, .refl _ _, e6 _ _ hpx2, .nil⟩, fun i σ' H' ⟨_, _, _, _, _, q, _⟩ => q, ?_, ?_, ?_⟩
    · rintro i σ' H' H'' q ⟨v6, v7, v8, ys, rfl, q1, q2, q3⟩
      exact ⟨v6, v7, v8, ys, rfl, q1.trans (.of q), q _ _ q2, q3.up q⟩
    · rintro i d u σ' H' hd' hu ⟨v6, v7, v8, ys, rfl, q1, q2, q3⟩
      have hi : i < day.length := by
        have := (List.getElem?_eq_some_iff.mp hd').1
        simpa [enumD] using this
      obtain rfl : d = .tup [.int (i : Nat), optD day[i]] := by
        have z : (enumD (day.map optD))[i]? = some (.tup [.int (i : Nat), optD day[i]]) := by simp [enumD, hi]
        rw [z] at hd'
        exact (Option.some.inj hd').symm
      have kp : Kp H5 H' := (Kp.of e6).trans (kp_one q1 (e6 _ _ hpx2))
      have hyH := (hy.up e15).keep kp (show D.fix (dayD day) = true from fixs_day day)
      have hzH : Dn K H' z (.int lim) := (hz.up e15).keep kp rfl
      have hpH : H' p = some (.lst xs) := q1 _ _ (e6 _ _ (e5 _ _ hpx)) (by simpa using np)
      have hdH : Dns K H' xs (((List.range (3 * day.length)).map (hv l c day)).map D.int) := (hd.up e5).keep kp (fixs_ints _)
      cases hu with
      | @tup a xs' _ hs' hd' =>
        obtain ⟨w1, w2, rfl, hw1, hw2⟩ := hd'.un2
        refine ⟨a, _, rfl, hs', rfl, _, _, rfl, _, _, rfl, rfl, ?_⟩
        dsimp only
        have hj : ∀ j, day[i] = some j → j < l.length := fun j hj => h2 _ (List.getElem_mem hi) j hj
        have lenX : (((List.range (3 * day.length)).map (hv l c day)).map D.int).length = 3 * day.length := by simp
        have gX : ∀ m, m < 3 * day.length → (((List.range (3 * day.length)).map (hv l c day)).map D.int).getD m .non = .int (hv l c day m) := fun m hm => by simp [hm]
        have st : stepV (((List.range (3 * day.length)).map (hv l c day)).map D.int) (i : Nat) (day.length : Nat) = [.int (hv l c day (0 * day.length + i)), .int (hv l c day (1 * day.length + i)), .int (hv l c day (2 * day.length + i))] := by
          rw [step_three lenX hi, gX _ (by omega), gX _ (by omega), gX _ (by omega), Nat.zero_mul, Nat.zero_add, Nat.one_mul]
        -- what is added a day
        have slo : 0 ≤ hv l c day (2 * day.length + i) - hv l c day (1 * day.length + i) ∧ hv l c day (2 * day.length + i) - hv l c day (1 * day.length + i) < 1073741824 := by
          cases ho : day[i] with
          | none =>
            have z : ∀ q : Nat, hv l c day (q * day.length + i) = 0 := fun q => hv_none (by rw [Nat.mul_add_mod_self_right, Nat.mod_eq_of_lt hi]; simp [hi, ho])
            rw [z 2, z 1]
            omega
          | some j =>
            have ho' : day.getD i none = some j := by simp [hi, ho]
            have e := hv_lin (c := c) hi ho' (hj j ho) 1
            have g := gain_le hwl h5 j day
            have e2 : ((1 : Nat) : Int) * slope l c day j = slope l c day j := by simp
            rw [e2] at e
            rw [show (1 + 1) * day.length = 2 * day.length by omega] at e
            unfold slope at e
            omega
        refine s_asg (K := K) (d := optI (daysZ (hv l c day (0 * day.length + i)) (hv l c day (1 * day.length + i)) (hv l c day (2 * day.length + i)) lim)) (gd_call (hv l c day (0 * day.length + i), hv l c day (1 * day.length + i), hv l c day (2 * day.length + i), lim) (ga2 (GN.gd (GN.is (gn_step (ds := ((List.range (3 * day.length)).map (hv l c day)).map D.int) (lo := (i : Nat)) (st := (day.length : Nat)) (gd_var rfl (.lst hpH hdH)) (gd_var rfl hw1) (gd_cb (ga1 (gd_var rfl hyH)) (rc_len (d := dayD day) (n := day.length) (by simp [D.len]) (by omega))) (by omega) (by omega) (by rw [st]; simp)) st)) (gd_var rfl hzH)) slo) fun u8 H7 e7 hu8 => ?_
        generalize hZ : daysZ (hv l c day (0 * day.length + i)) (hv l c day (1 * day.length + i)) (hv l c day (2 * day.length + i)) lim = Z at hu8
        have tA : thawAt l c day lim i = match day[i] with | none => none | some j => Z.map fun t => (t * (day.length : Nat) + (i : Nat), (j : Int)) := by
          unfold thawAt
          have : day.getD i none = day[i] := by simp [hi]
          rw [this, ← hZ]
          first | done | (cases day[i] <;> rfl)
        have rs : (List.range (i + 1)).filterMap (thawAt l c day lim) = (List.range i).filterMap (thawAt l c day lim) ++ (thawAt l c day lim i).toList := by
          rw [List.range_succ, List.filterMap_append]
          cases h : thawAt l c day lim i <;> simp [h]
        dsimp only
        refine s_when (b := day[i].isSome && Z.isSome) (gt_and (gt_test (gd_op (gd_var rfl (hw2.up e7)) gd_n r_notN')) fun _ => gt_test (gd_op (gd_var rfl hu8) gd_n r_notN2)) (fun hb H8 e8 => ?_) fun hb H8 e8 => ?_
        · have hb' : day[i].isSome = true ∧ Z.isSome = true := by simpa using hb
          obtain ⟨j, ho⟩ := Option.isSome_iff_exists.mp hb'.1
          obtain ⟨t, ht⟩ := Option.isSome_iff_exists.mp hb'.2
          rw [ho] at hw2
          rw [ht] at hu8
          have e78 := e7.trans e8
          have q2' := e78 _ _ q2
          have ql := q3.length
          have fl := List.length_filterMap_le (thawAt l c day lim) (List.range i)
          rw [List.length_range] at fl
          rw [List.length_map] at ql
          have hZs := hZ
          rw [ht] at hZs
          refine s_app (K := K) (d := pairD (t * (day.length : Nat) + (i : Nat), (j : Int))) q2' (at_var rfl) (gd_tup (ga2 (gd_op (gd_op (gd_var rfl (hu8.up e8)) (gd_cb (ga1 (gd_var rfl (hyH.up e78))) (rc_len (d := dayD day) (n := day.length) (by simp [D.len]) (by omega))) (r_intC (.inr ⟨by omega, by omega⟩))) (gd_var rfl (hw1.up e78)) r_int) (gd_var rfl (hw2.up e78))) (by simp)) (by omega) fun u9 H9 e9 hu9 => ?_
          have e79 := e78.trans e9
          have kk := Kp.upd (o := .lst (ys ++ [u9])) (e9 _ _ q2') rfl
          refine ⟨_, _, _, ys ++ [u9], rfl, q1.trans ((But.of e79).trans (But.upd (by simp))), upd_same, ?_⟩
          have tj : thawAt l c day lim i = some (t * (day.length : Nat) + (i : Nat), (j : Int)) := by
            rw [tA, ho, ht]
            rfl
          rw [rs, tj, List.map_append]
          have fp : ∀ ps : List (Int × Int), D.fixs (ps.map pairD) = true := fun ps => D.fixs_iff.mpr fun d hd => by
            obtain ⟨p, _, rfl⟩ := List.mem_map.mp hd
            rfl
          exact ((q3.up e79).keep kk (fp _)).app (.cons (hu9.keep kk rfl) .nil)
        · have tn : thawAt l c day lim i = none := by
            rw [tA]
            cases ho : day[i] with
            | none => rfl
            | some j =>
              cases Z with
              | none => rfl
              | some t => rw [ho] at hb; cases hb
          have e78 := e7.trans e8
          refine ⟨_, _, _, ys, rfl, q1.trans (.of e78), e78 _ _ q2, ?_⟩
          rw [rs, tn]
          simpa using q3.up e78
    · rintro σ' H' ⟨v6, v7, v8, ys, rfl, q1, q2, q3⟩
      have q3' : Dns K H' ys ((thawL l c day lim).map pairD) := by simpa [thawL, enumD] using q3
      have kS : Same H H' := But.fresh (e15.trans e6) q1 fun m hm => by rw [List.mem_singleton.mp hm]; exact e14.free hp2
      dsimp only
      refine s_retK (k.up kS) (GD.is (gd_minLD (ps := thawL l c day lim) (d0 := .non) (gd_var rfl (.lst q2 q3')) gd_n) ?_)
      show _ = optP (thawZ l c day lim)
      unfold thawZ
      cases thawL l c day lim <;> rfl
end
end My

namespace My
open PySem L2 RZ Cc Wm
theorem isDoor_good {p : Int × Int} (h : 1 ≤ p.1 ∧ p.1 ≤ 99 ∧ 1 ≤ p.2 ∧ p.2 ≤ 4) : isDoor (doorD p) = true := by simp [isDoor, doorD, isNum, h]
theorem doorsOk_list {ds : List D} (h1 : ds.length ≤ 50000) (h2 : ∀ d ∈ ds, isDoorOk d = true) : doorsOk (.tup ds) = true := by simp [doorsOk, h1]; exact h2
theorem doorOk (p : Int × Int) : isDoorOk (doorD p) = true := by simp [isDoorOk, doorD, D.noob]
theorem good_ok {l : List (Int × Int)} (h : GoodDoors l) : doorsOk (doorsD l) = true := doorsOk_list (by simp; have := h.hi; omega) fun d hd => by
  obtain ⟨p, _, rfl⟩ := List.mem_map.mp hd
  exact doorOk p
theorem good_fit {l : List (Int × Int)} (h : GoodDoors l) : doorsFit (doorsD l) = true := by
  have e : (l.map doorD).map doorPl = l.map (·.2) := by rw [List.map_map]; rfl
  have a : (l.map doorD).all isDoor = true := List.all_eq_true.mpr fun d hd => by
    obtain ⟨p, hp, rfl⟩ := List.mem_map.mp hd
    exact isDoor_good (h.each p hp)
  have h1 := h.lo
  have h2 := h.hi
  have h3 : ((l.map doorD).map doorPl).sum ≤ 6 := by rw [e]; exact h.size
  simp only [doorsFit, doorsD, a, List.length_map, decide_eq_true h1, decide_eq_true h2, decide_eq_true h3, Bool.and_self]
abbrev nm3 : List Str := ["fig", "kiwi", "plum"]
abbrev crD (c : Nat) : D := .tup ((nm3.take c).map D.str)
theorem cr_fit {c : Nat} {n : Int} (h1 : 1 ≤ c) (h2 : c ≤ 3) (h3 : (c : Int) ≤ n) : cratesFit (crD c) n = true := by
  have hl : ((nm3.take c).map D.str).length = c := by simp [nm3]; omega
  have a : ((nm3.take c).map D.str).all isWord = true := List.all_eq_true.mpr fun d hd => by
    obtain ⟨x, hx, rfl⟩ := List.mem_map.mp hd
    have hx' := List.mem_of_mem_take hx
    have key : ∀ x ∈ nm3, isWord (.str x) = true := by decide
    exact key x hx'
  have o : ((((nm3.take c).map D.str).zip (((nm3.take c).map D.str).drop 1)).all fun p => ltS p.1 p.2) = true := by
    have key : ∀ c, c ≤ 3 → ((((nm3.take c).map D.str).zip (((nm3.take c).map D.str).drop 1)).all fun p => ltS p.1 p.2) = true := by decide
    exact key c h2
  have h4 : (c : Int) ≤ min 5 n := by omega
  simp only [cratesFit, hl, a, o, decide_eq_true h1, decide_eq_true h4, Bool.and_self]
theorem cr_ok (c : Nat) : cratesOk (crD c) = true := by
  have hl : ((nm3.take c).map D.str).length ≤ 50000 := by simp [nm3]; omega
  have a : ((nm3.take c).map D.str).all wordOk = true := List.all_eq_true.mpr fun d hd => by
    obtain ⟨x, hx, rfl⟩ := List.mem_map.mp hd
    have hx' := List.mem_of_mem_take hx
    have key : ∀ x ∈ nm3, wordOk (.str x) = true := by decide
    exact key x hx'
  simp only [cratesOk, a, decide_eq_true hl, Bool.and_self]
theorem cr_fix (c : Nat) : (crD c).fix = true := D.fixs_iff.mpr fun d hd => by
  obtain ⟨k, _, rfl⟩ := List.mem_map.mp hd
  rfl
structure LStore (l : List (Int × Int)) (c : Nat) : Prop where
  lo : 1 ≤ l.length
  hi : l.length ≤ 3
  each : ∀ p ∈ l, 1 ≤ p.1 ∧ p.1 ≤ 9 ∧ 1 ≤ p.2 ∧ p.2 ≤ 2
  c1 : 1 ≤ c
  c2 : c ≤ 3
  c3 : (c : Int) ≤ sizeOf l
theorem size_le : ∀ l : List (Int × Int), (∀ p ∈ l, 1 ≤ p.1 ∧ p.1 ≤ 9 ∧ 1 ≤ p.2 ∧ p.2 ≤ 2) → (l.length : Int) ≤ sizeOf l ∧ sizeOf l ≤ 2 * (l.length : Int)
  | [], _ => by simp [sizeOf]
  | p :: l, h => by
    have ih := size_le l fun q hq => h q (List.mem_cons_of_mem _ hq)
    have h1 := h p List.mem_cons_self
    simp only [sizeOf, List.map_cons, List.sum_cons, List.length_cons] at ih ⊢
    omega
theorem good_of {l : List (Int × Int)} (h1 : 1 ≤ l.length) (h2 : l.length ≤ 3) (h3 : ∀ p ∈ l, 1 ≤ p.1 ∧ p.1 ≤ 9 ∧ 1 ≤ p.2 ∧ p.2 ≤ 2) : GoodDoors l := ⟨h1, by omega, fun p hp => by have := h3 p hp; omega, by have := size_le l h3; omega⟩
theorem wl9 {l : List (Int × Int)} (h : ∀ p ∈ l, 1 ≤ p.1 ∧ p.1 ≤ 9 ∧ 1 ≤ p.2 ∧ p.2 ≤ 2) (j : Nat) : wl l j ≤ 99 := by
  unfold wl
  by_cases hj : j < l.length
  · have := h l[j] (List.getElem_mem hj)
    simp [hj]; omega
  · simp [List.getElem?_eq_none (Nat.le_of_not_lt hj)]
section
variable {P : Program} {w : World} {K : Fg} {mg : Str → Option Value} {base : Heap} {C CI fI CP CD : Addr} {σ : L2.St} {H : Hp} {te : TE}
/-- a comprehension whose item draws -/
theorem lc_draw {r : Addr} {S : Addr × List Int} {j N : Nat} {vs : List Nat} {Q : VK} (ok : D → Prop) (hw : ∀ x, wipe ((wipe σ vs).set j (some x)) vs = wipe σ vs) (hN : N ≤ 1000) (hR : Row K S H r) (hfix : ∀ d, ok d → d.fix = true)
    (he : ∀ (x : V) H', But [r] H H' → Row K S H' r → ∀ Q' : VK, (∀ d v H2, ok d → But [r] H' H2 → Row K S H2 r → Dn K H2 v d → Q' v H2) → te ((wipe σ vs).set j (some x)) H' Q')
    (k : ∀ p xs ds H', H p = none → H' p = some (.lst xs) → Dns K H' xs ds → ds.length = N → (∀ d ∈ ds, ok d) → But [r] H H' → Row K S H' r → Q (.ref p) H') : tLc (fun _ H R => R (Itr 0 N) H) (gName j) tYes te vs σ H Q := fun Dl hD => by
  have hDr : Dl ≠ r := fun z => by
    obtain ⟨ys, hy⟩ := hR.at
    rw [← z, hD] at hy; cases hy
  have fx : ∀ ds : List D, (∀ d ∈ ds, ok d) → D.fixs ds = true := fun ds h => D.fixs_iff.mpr fun d hd => hfix d (h d hd)
  have bk : ∀ {Ha Hb : Hp}, But [r] H Ha → But [r] Ha Hb → ∀ {y : V} {acc : List V}, Hb Dl = some (.lst acc) → But [r] H (upd Hb Dl (.lst (acc ++ [y]))) := fun {Ha Hb} b1 b2 {y acc} hh c o hc hn => by
    have hcD : c ≠ Dl := ne_of_none hc hD
    rw [upd_ne hcD]
    exact b2 c o (b1 c o hc hn) hn
  refine lc_it (walk_range (lo := 0) (n := N)) (fun i H' => ∃ acc ds, H' Dl = some (.lst acc) ∧ Dns K H' acc ds ∧ ds.length = i ∧ (∀ d ∈ ds, ok d) ∧ But [r] H H' ∧ Row K S H' r) ⟨[], [], upd_same, .nil, rfl, fun d hd => absurd hd (by simp), .of (Same.new hD), hR.up (Same.new hD)⟩ (fun _ _ _ _ => True.intro) (fun i x Ha Hb hi p y => ?_) (fun H' p => ?_)
  · obtain ⟨acc, ds, p1, p2, p3, p4, p5, p6⟩ := p
    obtain ⟨rfl, rfl⟩ := y
    refine ⟨hw _, ?_⟩
    unfold tYes
    dsimp only
    rw [if_pos rfl]
    refine he _ _ p5 p6 _ fun d v H2 hd b2 r2 hv => ?_
    have hDl : H2 Dl = some (.lst acc) := b2 _ _ p1 (by simpa using hDr)
    have kk : Kp H2 (upd H2 Dl (.lst (acc ++ [v]))) := Kp.upd hDl rfl
    refine ⟨acc, hDl, ?_, acc ++ [v], ds ++ [d], upd_same, ?_, by simp [p3], fun e he' => ?_, bk p5 b2 hDl, ?_⟩
    · have := p2.length
      rw [sizeLine_eq]; omega
    · obtain ⟨zs, hz⟩ := p6.at
      exact ((p2.keep (kp_one b2 hz) (fx ds p4)).keep kk (fx ds p4)).app (.cons (hv.keep kk (hfix d hd)) .nil)
    · rcases List.mem_append.mp he' with he' | he'
      · exact p4 e he'
      · rw [List.mem_singleton.mp he']; exact hd
    · obtain ⟨pos, rng, rest, g1, g2, g3, g4, g5⟩ := r2
      have iD : Ind K S Dl := by
        obtain ⟨_, _, _, _, q2, _⟩ := hR
        exact ind_new q2 hD
      exact ⟨pos, rng, rest, by rw [upd_ne (Ne.symm hDr)]; exact g1, lkeep g2 iD, g3, g4, g5⟩
  · obtain ⟨acc, ds, p1, p2, p3, p4, p5, p6⟩ := p
    exact k Dl acc ds H' hD p1 p2 p3 p4 p5 p6
theorem if_run {t : TT} {ta tb : TE} {b : Bool} {Q : VK} (h : GT t σ H b) (h1 : b = true → ∀ H1, Same H H1 → ta σ H1 Q) (h2 : b = false → ∀ H1, Same H H1 → tb σ H1 Q) : tIf t ta tb σ H Q := h H (Same.refl _) _ fun H2 c2 => by
  cases b with
  | true => exact (if_pos rfl).mpr (h1 rfl H2 c2)
  | false => exact (if_neg Bool.false_ne_true).mpr (h2 rfl H2 c2)
theorem if_to {t : TT} {ta tb : TE} {b : Bool} {Q : VK} (R : VK) (h : GT t σ H b) (h1 : b = true → ∀ H1, Same H H1 → ∀ Q : VK, (∀ v H2, R v H2 → Q v H2) → ta σ H1 Q) (h2 : b = false → ∀ H1, Same H H1 → ∀ Q : VK, (∀ v H2, R v H2 → Q v H2) → tb σ H1 Q) (k : ∀ v H2, R v H2 → Q v H2) : tIf t ta tb σ H Q :=
  if_run h (fun a H1 e => h1 a H1 e Q k) fun a H1 e => h2 a H1 e Q k
theorem sl_run {a : Addr} {ds : List D} {lo hi : Option Int} {Q : VK} (h : Dn K H (.ref a) (.tup ds)) (k : ∀ v H2, Same H H2 → Dn K H2 v (.tup (cutD ds lo hi)) → Q v H2) : rSlA K (.ref a) lo hi H Q :=
  (gd_slT (K := K) (σ := []) (H := H) (te := fun _ H Q => Q (.ref a) H) (tl := fun _ H Q => Q lo H) (th := fun _ H Q => Q hi H) (ds := ds) (lo := lo) (hi := hi) (fun H7 e7 Q' q' => q' _ H7 (.refl _) (h.up e7)) (fun H7 e7 Q' q' => q' H7 (.refl _)) (fun H7 e7 Q' q' => q' H7 (.refl _))) H (.refl _) Q k
theorem new_body {l : List (Int × Int)} {e : D} {vs : List V} {Q : VK} (hv : Dns K H vs [doorsD l, e]) (hG : GoodDoors l) (h3 : cratesOk e = true) (h4 : cratesFit e (sizeOf l) = true) (k : ∀ v H2, Same H H2 → Dn K H2 v (storeD C l e) → Q v H2) : tMake C (spInit K C CI) [] Cc.E0 (fun _ H Q => Q vs H) σ H Q :=
  gd_new (ta := fun _ H Q => Q vs H) (fun H2 e Q q => q vs H2 (.refl _) (hv.up e)) hG (good_ok hG) (good_fit hG) h3 h4 H (.refl _) _ k
/-! the law's store -/
def spLStore (K : Fg) (C : Addr) : Sp := fun vs H Q _ => ∃ (S : Addr × List Int) (r : Addr), vs = [.ref r] ∧ Row K S H r ∧ ∀ l c v H', LStore l c → But [r] H H' → Row K S H' r → Dn K H' v (storeD C l (crD c)) → Q v H'
theorem ok_lstore {f : Addr} {fd : FuncData} (F : Fun K "_law_store" "_law_store" s__law_store f fd) (T : TxtH P w K mg C CI fI CP CD) (C__law_taken : Cal P w K mg base CX0 1 "_law_taken" ["_law_row", "_law_many"] (spTaken K))
    (C_Store : CMk P w K mg base (L2.CX P w) 4 "Store" C ["self", "doors", "crates"] (spInit K C CI)) : FnOk P w K mg base CX0 6 f fd ["_law_row"] (spLStore K C) := by
  refine F.ok sc__law_store (fun vs H Q E h => ?_) (fun cdv A outer s H vs Q E hr h => ?_)
  · obtain ⟨S, r, rfl, _⟩ := h
    rfl
  · obtain ⟨S, r, rfl, hR, k⟩ := h
    refine ⟨_, (pss_cons (ps_par (i := 1) (j := 2) rfl sc__law_store.nd rfl rfl (by decide) rfl rfl (pa_cons (pe_lst pa_nil) (pa_cons (pe_op op_add pe_int (pe_cal C__law_taken hr pass0 (pa_cons (pv 0) (pa_cons pe_int pa_nil)))) pa_nil)) (by rfl))
      (pss_cons (ps_for PassesOwn.never rfl (pi_range1 (by rfl) T.range (pa_cons (pv 2) pa_nil)) (pg_name (i := 3) sc__law_store.nd rfl (Or.inl rfl)) (pss_one (ps_expr (pe_bm PySem.F.plainAttrs_list PySem.F.slot_list_append PySem.F.type_list_append mt_append (pv 1) (pa_cons (pe_tup (pa_cons (pe_op op_add pe_int (pe_cal C__law_taken hr pass0 (pa_cons (pv 0) (pa_cons pe_int pa_nil)))) (pa_cons (pe_ifExp (pt_cmpR op_lt (pv 2) pe_int (nomark _)) (pe_op op_add pe_int (pe_cal C__law_taken hr pass0 (pa_cons (pv 0) (pa_cons pe_int pa_nil)))) (pe_op op_add pe_int (pe_callTy call_int1 (by rfl) T.int (by decide +kernel) (pa_cons (pe_cmpR (eqK K hr.units) (pv 3) pe_int (nomark _)) pa_nil)))) pa_nil))) pa_nil)))))
      (pss_cons (ps_set (i := 4) sc__law_store.nd rfl (Or.inl rfl) (pe_callB (sumK K) (by rfl) T.sum (by decide +kernel) (pa_cons (pe_lc (own := [("_law_one", 5)]) (g := gName 5) rfl sc__law_store.nd (pi_lK K (pv 1)) (blkOk_by (own := [("_law_one", 5)]) (N := ["_law_row", "_law_rows", "_law_many", "_law_k", "_law_places", "_law_one"]) (sc := defScope s__law_store) (by decide +kernel)) (fun _ _ _ _ _ => (pg_name (i := 5) sc__law_store.nd rfl (Or.inl rfl))) (fun _ _ _ _ _ => pts_nil) (fun _ _ _ _ _ => (pe_ix (ixA K) (pv 5) pe_int (fun _ _ => rfl)))) pa_nil)))
      (pss_one (ps_ret (pe_mk C_Store hr passN (pa_cons (pe_callTy (tupK K) (by rfl) T.tuple (by decide +kernel) (pa_cons (pv 1) pa_nil)) (pa_cons (pe_slice (slT K) (pe_tup (pa_cons pe_str (pa_cons pe_str (pa_cons pe_str pa_nil)))) po_none (po_some (pe_op op_add pe_int (pe_cal C__law_taken hr pass0 (pa_cons (pv 0) (pa_cons (pe_callB (call_min2 rfl) (by rfl) T.min (by decide +kernel) (pa_cons pe_int (pa_cons (pv 4) pa_nil))) pa_nil)))))) pa_nil)))))))), ?_⟩
    refine ⟨by simp, fun p hp => ?_⟩
    have n1 := Same.new (o := .lst []) hp
    refine taken_run (K := K) rfl (hR.up n1) gd_i (by decide) (by decide) fun q H1 hq1 hq2 hb1 hR1 => ⟨1, q, rfl, rfl, _, _, rfl, ?_⟩
    have hrp : p ≠ r := fun z => by
      obtain ⟨xs, hx⟩ := hR.at
      rw [← z, hp] at hx
      cases hx
    have hip : Ind K S p := by
      obtain ⟨_, _, _, _, g2, _⟩ := hR
      exact ind_new g2 hp
    have hp1 : H1 p = some (.lst []) := hb1 _ _ upd_same (by simpa using hrp)
    have hbp : ∀ {H' : Hp}, But [p, r] H1 H' → But [r] H H' := fun {H'} b c o hc hn => by
      have hcp : c ≠ p := ne_of_none hc hp
      refine b c o (hb1 c o ?_ hn) (by simp at hn; simp [hcp, hn])
      rw [upd_ne hcp]
      exact hc
    dsimp only
    have lsM : Ls [p, r] H1 := fun m hm => by
      simp at hm
      rcases hm with rfl | rfl
      · exact ⟨_, hp1⟩
      · exact hR1.at
    refine s_for (K := K) (M := [p, r]) (gi_range1 (n := 1 + q) (ga1 (gd_var rfl (.int _))) (by omega) (by omega)) fun H2 e2 =>
      ⟨fun i σ' H' => ∃ (l : List (Int × Int)) (xs : List V) (v3 : Option V), σ' = [some (.ref r), some (.ref p), some (.int (1 + q)), v3, none, none] ∧ But [p, r] H2 H' ∧ l.length = i ∧ (∀ p ∈ l, 1 ≤ p.1 ∧ p.1 ≤ 9 ∧ 1 ≤ p.2 ∧ p.2 ≤ 2) ∧ H' p = some (.lst xs) ∧ Dns K H' xs (l.map doorD) ∧ Row K S H' r,
      ⟨[], [], none, rfl, .refl _ _, rfl, fun p hp => absurd hp (by simp), e2 _ _ hp1, .nil, hR1.up e2⟩, fun i σ' H' ⟨_, _, _, _, q, _⟩ => q, ?_, ?_, ?_⟩
    · rintro i σ' H' H'' z ⟨l, xs, v3, rfl, q1, q2, q3, q4, q5, q6⟩
      exact ⟨l, xs, v3, rfl, q1.trans (.of z), q2, q3, z _ _ q4, q5.up z, q6.up z⟩
    · rintro i d u σ' H' hd hu ⟨l, xs, v3, rfl, q1, q2, q3, q4, q5, q6⟩
      obtain ⟨hi, rfl⟩ : i < (1 + q).toNat ∧ d = D.int (i : Nat) := by
        rw [List.getElem?_map] at hd
        by_cases hi : i < (1 + q).toNat
        · rw [List.getElem?_range hi] at hd
          exact ⟨hi, (Option.some.inj hd).symm⟩
        · rw [List.getElem?_eq_none (by simpa using hi)] at hd
          cases hd
      have hlen := q5.length
      rw [List.length_map] at hlen
      cases hu
      dsimp only [gName]
      refine ⟨.ref p, rfl, Or.inl ⟨rfl, xs, SqL.of q4⟩, taken_run (K := K) rfl q6 gd_i (by decide) (by decide) fun q3' H4 a3 a4 b4 hR4 => ⟨1, q3', rfl, rfl, ?_⟩⟩
      have hp4 : H4 p = some (.lst xs) := b4 _ _ q4 (by simpa using hrp)
      have hd4 : Dns K H4 xs (l.map doorD) := q5.keep (kp_one b4 q6.at.choose_spec) (fixs_doors l)
      refine if_to (b := decide (1 + q < 3)) (fun v H5 => ∃ c : Int, v = .int c ∧ 1 ≤ c ∧ c ≤ 2 ∧ But [r] H4 H5 ∧ Row K S H5 r) (gt_test (gd_op (gd_var rfl (.int (1 + q))) (gd_i (K := K)) r_intB)) (fun _ H5 e5 Q' k' => ?_) (fun _ H5 e5 Q' k' => ?_) ?_
      · exact taken_run (K := K) rfl (hR4.up e5) gd_i (by decide) (by decide) fun c H6 c1 c2 b6 hR6 => ⟨1, c, rfl, rfl, k' _ H6 ⟨1 + c, rfl, by omega, by omega, (But.of e5).trans b6, hR6⟩⟩
      · refine (gd_op (K := K) gd_i (gd_cb (ga1 (gd_op (gd_var rfl (.int (i : Nat))) gd_i (r_eqI (K := K)))) rc_intB) r_int) H5 (.refl _) _ fun v H6 e6 hv => ?_
        cases hv
        exact k' _ H6 ⟨_, rfl, by split <;> omega, by split <;> omega, (But.of e5).trans (.of e6), (hR4.up e5).up e6⟩
      · rintro v H5 ⟨c, rfl, c1, c2, b5, hR5⟩
        refine ⟨by simp [sizeLine_eq], fun a ha => ?_⟩
        have hp5 : H5 p = some (.lst xs) := b5 _ _ hp4 (by simpa using hrp)
        have hd5 : Dns K H5 xs (l.map doorD) := hd4.keep (kp_one b5 hR4.at.choose_spec) (fixs_doors l)
        have n5 := Same.new (o := .tup [.int (1 + q3'), .int c]) ha
        have hp6 := n5 _ _ hp5
        refine ⟨p, xs, .ref a, rfl, rfl, hp6, by rw [sizeLine_eq]; omega, ?_⟩
        have hnew : Dn K (upd H5 a (.tup [.int (1 + q3'), .int c])) (.ref a) (doorD (1 + q3', c)) := .tup (SqT.of upd_same) (.cons (.int _) (.cons (.int _) .nil))
        have kpp := Kp.upd (o := .lst (xs ++ [.ref a])) hp6 rfl
        refine ⟨l ++ [(1 + q3', c)], xs ++ [.ref a], _, rfl, q1.trans ((b4.mono (by simp)).trans ((b5.mono (by simp)).trans ((But.of n5).trans (But.upd (by simp))))), by simp [q2], fun z hz => ?_, upd_same, ?_, ?_⟩
        · rcases List.mem_append.mp hz with hz | hz
          · exact q3 z hz
          · rw [List.mem_singleton.mp hz]
            exact ⟨by show 1 ≤ 1 + q3'; omega, by show 1 + q3' ≤ 9; omega, c1, c2⟩
        · rw [List.map_append]
          exact ((hd5.up n5).keep kpp (fixs_doors l)).app (.cons (hnew.keep kpp rfl) .nil)
        · obtain ⟨pos, rng, rest, g1, g2, g3, g4⟩ := hR5
          exact ⟨pos, rng, rest, by rw [upd_ne hrp.symm]; exact n5 _ _ g1, lkeep (same_l n5 g2) hip, g3, g4⟩
    · rintro σ' H' ⟨l, xs, v3, rfl, q1, q2, q3, q4, q5, q6⟩
      rw [List.length_map, List.length_range] at q2
      have sl := size_le l q3
      have GD0 := good_of (by omega) (by omega) q3
      have hpl : (l.map doorD).map doorPl = l.map (·.2) := by rw [List.map_map]; rfl
      have hd2 : Dn K H' (.ref p) (.lst (l.map doorD)) := .lst q4 q5
      dsimp only
      refine s_asg (gd_cb (ga1 (GN.gd (GN.is (gn_map (K := K) (fun d => .int (doorPl d)) (fun H3 e3 => gi_listC (gd_var rfl (hd2.up e3))) (by simp; omega) (fun _ => rfl) (fun d hd => rfl) (fun d y H3 hd e3 hy => ?_)) (sum_int doorPl)))) rc_sum) fun v H3 e3 hv => ?_
      · obtain ⟨z, hz, rfl⟩ := List.mem_map.mp hd
        exact gd_op (gd_var rfl hy) gd_i (r_ix_t (ds := [.int z.1, .int z.2]) (i := 1) rfl)
      rw [hpl] at hv
      change Dn K H3 v (.int (sizeOf l)) at hv
      cases hv
      dsimp only
      -- the doors as a tuple
      refine (gd_cb (K := K) (ga1 (gd_var rfl (hd2.up e3))) (rc_tuple (.inl rfl) (fixs_doors l))) H3 (.refl _) _ fun vd H4 e4 hvd => ?_
      refine ⟨by simp [sizeLine_eq], fun a ha => ?_⟩
      have n5 := Same.new (o := .tup [.str "fig", .str "kiwi", .str "plum"]) ha
      have R5 := ((q6.up e3).up e4).up n5
      refine taken_run (K := K) rfl R5 (gd_cb (ga2 gd_i (gd_var rfl (.int (sizeOf l)))) rc_min2) (by omega) (by omega) fun c H6 c1 c2 b6 hR6 => ⟨1, c, rfl, rfl, 1 + c, rfl, ?_⟩
      obtain ⟨m, hm⟩ : ∃ m : Nat, 1 + c = (m : Int) := ⟨(1 + c).toNat, by omega⟩
      rw [hm]
      have hnm : Dn K H6 (.ref a) (.tup (nm3.map D.str)) := dn_but (.tup (SqT.of upd_same) (.cons (.str _) (.cons (.str _) (.cons (.str _) .nil)))) R5.at b6 rfl
      have hvd6 : Dn K H6 vd (doorsD l) := dn_but (hvd.up n5) R5.at b6 (fixs_doors l)
      have hcut : cutD (nm3.map D.str) none (some (m : Nat)) = (nm3.take m).map D.str := by
        unfold cutD
        rw [HT.sIx_none, HT.sIx_nat, List.drop_zero, Nat.sub_zero, ← List.map_take]
        have : min m (nm3.map D.str).length = m := by
          have : (nm3.map D.str).length = 3 := rfl
          omega
        rw [this]
      refine sl_run hnm fun vc H7 e7 hvc => ?_
      rw [hcut] at hvc
      exact new_body (σ := []) (.cons (hvd6.up e7) (.cons hvc .nil)) GD0 (cr_ok m) (cr_fit (by omega) (by omega) (by omega)) fun v H8 e8 hv => k l m v H8 ⟨by omega, by omega, q3, by omega, by omega, by omega⟩ (hbp (((But.of e2).trans q1).trans (((But.of ((e3.trans e4).trans n5)).trans (b6.mono (by simp))).trans (.of (e7.trans e8))))) ((hR6.up e7).up e8) hv
/-! the law's day -/
theorem day_of {n : Nat} : ∀ ds : List D, (∀ d ∈ ds, ∃ o : Option Nat, d = optD o ∧ ∀ j, o = some j → j < n) → ∃ day : List (Option Nat), ds = day.map optD ∧ InDay n day
  | [], _ => ⟨[], rfl, fun o h => absurd h (by simp)⟩
  | d :: ds, h => by
    obtain ⟨day, e, hin⟩ := day_of ds fun z hz => h z (List.mem_cons_of_mem _ hz)
    obtain ⟨o, ho, hj⟩ := h d List.mem_cons_self
    refine ⟨o :: day, by rw [ho, e]; rfl, fun z hz => ?_⟩
    rcases List.mem_cons.mp hz with rfl | hz
    · exact hj
    · exact hin z hz
theorem gn_lstRg1 {ta : TE} {n : Nat} (h : GD K ta σ H (.int (n : Nat))) (hn : n ≤ 1000) : GN K (tLstRg (tRg1 ta)) σ H ((List.range n).map fun k => D.int (k : Nat)) := fun H1 e Q q =>
  h H1 e _ fun v H2 e2 hv => by
    cases hv
    refine ⟨(n : Nat), rfl, RgOk.of_le (by omega) (by omega) (by omega) (by omega), fun p hp => q p _ _ (e2.free hp) (e2.trans (Same.new hp)) upd_same ?_⟩
    have e0 : rgV 0 (n : Nat) = (List.range n).map fun k => V.int (k : Nat) := by
      unfold rgV
      have : ((n : Nat) - 0 : Int).toNat = n := by omega
      rw [this]
      exact List.map_congr_left fun k _ => by simp
    rw [e0]
    exact Dns.of (fun k => .int _) _
def spLDay (K : Fg) (C : Addr) : Sp := fun vs H Q _ => ∃ (S : Addr × List Int) (r : Addr) (v : V) (l : List (Int × Int)) (e : D), vs = [.ref r, v] ∧ Row K S H r ∧ Dn K H v (storeD C l e) ∧ e.fix = true ∧ l.length ≤ 100 ∧
  ∀ day w H', 1 ≤ day.length → day.length ≤ 5 → InDay l.length day → But [r] H H' → Row K S H' r → Dn K H' w (dayD day) → Q w H'
theorem ok_lday {f : Addr} {fd : FuncData} (F : Fun K "_law_day" "_law_day" s__law_day f fd) (T : TxtH P w K mg C CI fI CP CD) (C__law_taken : Cal P w K mg base CX0 1 "_law_taken" ["_law_row", "_law_many"] (spTaken K))
    (L_Store : LenC P w K mg base 1 C (spLenS K C)) : FnOk P w K mg base CX0 3 f fd ["_law_row", "_law_store_here"] (spLDay K C) := by
  refine F.ok sc__law_day (fun vs H Q E h => ?_) (fun cdv A outer s H vs Q E hr h => ?_)
  · obtain ⟨S, r, v, l, e, rfl, _⟩ := h
    rfl
  · obtain ⟨S, r, v, l, e, rfl, hR, hv, he, hl, k⟩ := h
    refine ⟨_, (pss_cons (ps_set (i := 2) sc__law_day.nd rfl (Or.inr rfl) (pe_op op_cat (pe_lst (pa_cons pe_non pa_nil)) (pe_listRg rfl (by rfl) T.list (prg_1 (by rfl) T.range (pe_callB (call_lenI L_Store hr) (by rfl) T.len PySem.boot_len (pa_cons (pv 1) pa_nil))))))
      (pss_one (ps_ret (pe_callTy (tupK K) (by rfl) T.tuple (by decide +kernel) (pa_cons (pe_lc (own := [("_law_k", 3)]) (g := gName 3) rfl sc__law_day.nd (pi_range1 (by rfl) T.range (pa_cons (pe_op op_add pe_int (pe_cal C__law_taken hr pass0 (pa_cons (pv 0) (pa_cons pe_int pa_nil)))) pa_nil)) (blkOk_by (own := [("_law_k", 3)]) (N := ["_law_row", "_law_store_here", "_law_every", "_law_k"]) (sc := defScope s__law_day) (by decide +kernel)) (fun _ _ _ _ _ => (pg_name (i := 3) sc__law_day.nd rfl (Or.inl rfl))) (fun _ _ _ _ _ => pts_nil) (fun _ _ _ _ _ => (pe_ix (ixL K) (pv 2) (pe_cal C__law_taken hr pass0 (pa_cons (pv 0) (pa_cons (pe_callB (lenK K) (by rfl) T.len PySem.boot_len (pa_cons (pv 2) pa_nil)) pa_nil))) (fun _ _ => rfl)))) pa_nil))))), ?_⟩
    refine s_asgN (K := K) (ds := ((none : Option Nat) :: (List.range l.length).map some).map optD) (GN.is (gn_cat (GN.gd (gn_lst (ga1 gd_n) (by simp))) (GN.gd (gn_lstRg1 (gd_cb (ga1 (gd_var rfl hv)) (rc_lenI (k := (l.length : Nat)) (by omega) (by omega) (l, e) rfl (show l.length ≤ 100000 by omega) rfl)) (by omega))) (by simp; omega)) ?_) fun p xs H1 hp e1 hx hd => ?_
    · simp [optD, Function.comp_def]
    have hR1 := hR.up e1
    have hpr : p ≠ r := fun z => by
      obtain ⟨ys, hy⟩ := hR.at
      rw [← z, hp] at hy
      cases hy
    have fx := fixs_day (none :: (List.range l.length).map some)
    have hlen := hd.length
    simp at hlen
    dsimp only
    refine taken_run (K := K) rfl hR1 gd_i (by decide) (by decide) fun q H2 q1 q2 b2 R2 => ⟨1, q, rfl, rfl, _, rfl, by omega, by omega, ?_⟩
    obtain ⟨N, hN⟩ : ∃ N : Nat, 1 + q = (N : Int) := ⟨(1 + q).toNat, by omega⟩
    rw [hN, Int.toNat_natCast]
    refine lc_draw (K := K) (σ := [some (.ref r), some v, some (.ref p), none]) (j := 3) (vs := [3]) (N := N) (Q := fun x H1 => rTup K [x] H1 _) (fun d => ∃ o : Option Nat, d = optD o ∧ ∀ j, o = some j → j < l.length) (fun _ => rfl) (by omega) R2 (fun d ⟨o, ho, _⟩ => by subst ho; cases o <;> rfl) (fun x Hb bb rb Q' k' => ?_) fun p9 x9 ds9 Hc hp9 hx9 hd9 hl9 ok9 bc rc => ?_
    · have hpb : Hb p = some (.lst xs) := bb _ _ (b2 _ _ hx (by simpa using hpr)) (by simpa using hpr)
      have hdb : Dns K Hb xs _ := (hd.keep (kp_one b2 hR1.at.choose_spec) fx).keep (kp_one bb R2.at.choose_spec) fx
      refine ⟨.ref p, rfl, taken_run (K := K) rfl rb (gd_cb (ga1 (gd_var rfl (.lst hpb hdb))) (rc_len (n := l.length + 1) (by simp [D.len]) (by omega))) (by omega) (by omega) fun c H3 c1 c2 b3 R3 => ?_⟩
      obtain ⟨m, rfl⟩ : ∃ m : Nat, c = m := ⟨c.toNat, by omega⟩
      have hp3 : H3 p = some (.lst xs) := b3 _ _ hpb (by simpa using hpr)
      have hd3 := hdb.keep (kp_one b3 rb.at.choose_spec) fx
      have hm : m < ((none : Option Nat) :: (List.range l.length).map some).length := by simp; omega
      refine r_ixL (K := K) (i := (m : Nat)) (z := optD ((none : Option Nat) :: (List.range l.length).map some)[m]) (atI_nat (by rw [List.getElem?_map, List.getElem?_eq_getElem hm]; rfl)) (.ref p) (.int (m : Nat)) H3 _ (.lst hp3 hd3) (.int _) fun v4 H4 e4 hv4 => ?_
      refine k' _ v4 H4 ⟨_, rfl, fun j hj => ?_⟩ (b3.trans (.of e4)) (R3.up e4) hv4
      have hmem := List.getElem_mem hm
      rw [hj] at hmem
      simpa using hmem
    · obtain ⟨day, rfl, hin⟩ := day_of ds9 ok9
      rw [List.length_map] at hl9
      refine rc_tuple (K := K) (.inl rfl) (fixs_day day) [.ref p9] Hc _ (.cons (.lst hx9 hd9) .nil) fun v4 H4 e4 hv4 => ?_
      exact k day v4 H4 (by omega) (by omega) hin (((But.of e1).trans b2).trans (bc.trans (.of e4))) (rc.up e4) hv4
end
end My

namespace My
open PySem L2 RZ Cc Wm
theorem but_part {M : List Addr} {H1 H2 H3 : Hp} {p : Addr} (a : But M H1 H2) (b : But [p] H2 H3) (h : p ∈ M ∨ H1 p = none) : But M H1 H3 := fun c o hc hn => b c o (a c o hc hn) (by
  rw [List.mem_singleton]
  rintro rfl
  rcases h with h | h
  · exact hn h
  · rw [h] at hc; cases hc)
theorem new_or {M : List Addr} {H1 H2 : Hp} {p : Addr} (a : But M H1 H2) (h : H2 p = none) : p ∈ M ∨ H1 p = none := by
  by_cases hm : p ∈ M
  · exact .inl hm
  · rcases ho : H1 p with _ | o
    · exact .inr rfl
    · have := a p o ho hm
      rw [h] at this; cases this
theorem ne_at {H : Hp} {p q : Addr} {o : HO} (h : H p = none) (h2 : H q = some o) : p ≠ q := fun z => by rw [z, h2] at h; cases h
abbrev warmT (l : List (Int × Int)) (c : Int) (day : List (Option Nat)) (m : Nat) : D := .tup ((run l c (seq day m) (cold l)).map D.int)
abbrev ffL (l : List (Int × Int)) (c : Int) (day : List (Option Nat)) (n : Nat) : List D := (List.range (n + 1)).map (warmT l c day)
abbrev hhL (l : List (Int × Int)) (c : Int) (day : List (Option Nat)) (n : Nat) : List D := (List.range n).map fun m => D.int (hv l c day m)
theorem fix_warmT (l : List (Int × Int)) (c : Int) (day : List (Option Nat)) (m : Nat) : (warmT l c day m).fix = true := fixs_ints _
theorem fixs_ff (l : List (Int × Int)) (c : Int) (day : List (Option Nat)) (n : Nat) : D.fixs (ffL l c day n) = true := D.fixs_iff.mpr fun d hd => by
  obtain ⟨k, _, rfl⟩ := List.mem_map.mp hd
  exact fix_warmT l c day k
theorem fixs_hh (l : List (Int × Int)) (c : Int) (day : List (Option Nat)) (n : Nat) : D.fixs (hhL l c day n) = true := D.fixs_iff.mpr fun d hd => by
  obtain ⟨k, _, rfl⟩ := List.mem_map.mp hd
  rfl
section
variable {P : Program} {w : World} {K : Fg} {mg : Str → Option Value} {base : Heap} {C CI fI CP CD : Addr} {σ : L2.St} {H : Hp} {te : TE}
theorem s_whenTo {E : Ends} {t : TT} {tu : TS} {b : Bool} (R : L2.St → Hp → Prop) (h : GT t σ H b) (h1 : b = true → ∀ H1, Same H H1 → ∀ E' : Ends, (∀ σ2 H2, R σ2 H2 → E'.nx σ2 H2) → tu E' σ H1) (h2 : b = false → ∀ H1, Same H H1 → R σ H1) (k : ∀ σ2 H2, R σ2 H2 → E.nx σ2 H2) : tIfS t tu tNext E σ H :=
  s_when h (fun a H1 e => h1 a H1 e E k) fun a H1 e => k _ _ (h2 a H1 e)
/-! the law's hours, one after another -/
abbrev spLHours (K : Fg) (C : Addr) : Sp := spOf (α := List (Int × Int) × D × Int × List (Option Nat) × Nat) K (fun a => [storeD C a.1 a.2.1, .int a.2.2.1, dayD a.2.2.2.1, .int (a.2.2.2.2 : Nat)])
  (fun a => 1 ≤ a.1.length ∧ a.1.length ≤ 100 ∧ InDay a.1.length a.2.2.2.1 ∧ 1 ≤ a.2.2.2.1.length ∧ a.2.2.2.1.length ≤ 1000 ∧ a.2.2.2.2 ≤ 5000 ∧ a.2.1.fix = true) fun a => .tup [.lst (ffL a.1 a.2.2.1 a.2.2.2.1 a.2.2.2.2), .lst (hhL a.1 a.2.2.1 a.2.2.2.1 a.2.2.2.2)]
theorem ok_lhours {f : Addr} {fd : FuncData} (F : Fun K "_law_hours" "_law_hours" s__law_hours f fd) (T : TxtH P w K mg C CI fI CP CD) (L_Store : LenC P w K mg base 1 C (spLenS K C)) (M_doors : CPrp P w K mg base CX0 1 C "doors" (getSp C "_doors")) : FnOk P w K mg base CX0 3 f fd ["_law_store_here", "_law_cooling", "_law_day_here", "_law_many"] (spLHours K C) := by
  refine F.ok sc__law_hours (fun vs H Q E h => ?_) (fun cdv A outer s H vs Q E hr h => ?_)
  · obtain ⟨a, h, _⟩ := h
    exact h.length
  · obtain ⟨⟨l, e, c, day, N⟩, hvs, ⟨h0, h1, h2, h3, h4, h5, he⟩, k⟩ := h
    obtain ⟨v, x, y, z, rfl, hw, hx, hy, hz⟩ := hvs.un4
    replace h0 : 1 ≤ l.length := h0
    replace h1 : l.length ≤ 100 := h1
    replace h2 : InDay l.length day := h2
    replace h3 : 1 ≤ day.length := h3
    replace h4 : day.length ≤ 1000 := h4
    replace h5 : N ≤ 5000 := h5
    replace he : e.fix = true := he
    replace hw : Dn K H v (storeD C l e) := hw
    replace hy : Dn K H y (dayD day) := hy
    replace hz : Dn K H z (.int (N : Nat)) := hz
    replace hx : Dn K H x (.int c) := hx
    refine ⟨_, (pss_cons (ps_par3 (i := 4) (j := 5) (l := 6) rfl sc__law_hours.nd rfl rfl rfl (by decide) (by decide) (by decide) rfl rfl rfl (pa_cons (pe_op op_rep (pe_lst (pa_cons pe_int pa_nil)) (pe_callB (call_lenI L_Store hr) (by rfl) T.len PySem.boot_len (pa_cons (pv 0) pa_nil))) (pa_cons (pe_lst (pa_cons (pe_op (repTA (K := K)) (pe_tup (pa_cons pe_int pa_nil)) (pe_callB (call_lenI L_Store hr) (by rfl) T.len PySem.boot_len (pa_cons (pv 0) pa_nil))) pa_nil)) (pa_cons (pe_lst pa_nil) pa_nil))) (by rfl))
      (pss_cons (ps_for PassesOwn.never rfl (pi_range1 (by rfl) T.range (pa_cons (pv 3) pa_nil)) (pg_name (i := 7) sc__law_hours.nd rfl (Or.inl rfl)) (pss_cons (ps_set (i := 8) sc__law_hours.nd rfl (Or.inl rfl) (pe_ix (ixT K) (pv 2) (pe_op op_mod (pe_callTy call_int1 (by rfl) T.int (by decide +kernel) (pa_cons (pv 7) pa_nil)) (pe_callB (lenK K) (by rfl) T.len PySem.boot_len (pa_cons (pv 2) pa_nil))) (fun _ _ => rfl)))
      (pss_cons (ps_if (pt_cmpR op_notN (pv 8) pe_non (nomark _)) (pss_one (ps_asg (pe_op op_add (pe_ix (ixL K) (pv 4) (pv 8) (fun _ _ => rfl)) (pe_ix (ixA K) (pe_ix (ixT K) (pe_prp M_doors hr pass0 (pv 0)) (pv 8) (fun _ _ => rfl)) pe_int (fun _ _ => rfl))) (pg_sub (pv 4) (pv 8) set_list))) pss_nil)
      (pss_cons (ps_expr (pe_bm PySem.F.plainAttrs_list PySem.F.slot_list_append PySem.F.type_list_append mt_append (pv 6) (pa_cons (pe_ifExp (pt_cmpR op_isN (pv 8) pe_non (nomark _)) pe_int (pe_ix (ixL K) (pv 4) (pv 8) (fun _ _ => rfl))) pa_nil)))
      (pss_cons (ps_setLc (i := 4) (own := [("_law_one", 9)]) (g := gName 9) rfl sc__law_hours.nd rfl rfl (sw_true rfl rfl rfl (by decide +kernel)) (pi_lK K (pv 4)) (blkOk_by (own := [("_law_one", 9)]) (N := ["_law_store_here", "_law_cooling", "_law_day_here", "_law_many", "_law_warm", "_law_found", "_law_opened", "_law_hour", "_law_door", "_law_one"]) (sc := defScope s__law_hours) (by decide +kernel)) (fun _ _ _ _ _ => (pg_name (i := 9) sc__law_hours.nd rfl (Or.inl rfl))) (fun _ _ _ _ _ => pts_nil) (fun _ _ _ _ _ => (pe_callB (call_max2 rfl) (by rfl) T.max (by decide +kernel) (pa_cons pe_int (pa_cons (pe_op op_sub (pv 9) (pv 1)) pa_nil)))))
      (pss_one (ps_expr (pe_bm PySem.F.plainAttrs_list PySem.F.slot_list_append PySem.F.type_list_append mt_append (pv 5) (pa_cons (pe_callTy (tupK K) (by rfl) T.tuple (by decide +kernel) (pa_cons (pv 4) pa_nil)) pa_nil)))))))))
      (pss_one (ps_ret (pe_tup (pa_cons (pv 5) (pa_cons (pv 6) pa_nil))))))), ?_⟩
    refine (GN.is (es := (cold l).map D.int) (r_rep (K := K) (ds := [D.int 0]) (k := (l.length : Nat)) ⟨by omega, by omega⟩ (by simp) (gn_lst (ga1 gd_i) (by simp)) (gd_cb (ga1 (gd_var rfl hw)) (rc_lenI (k := (l.length : Nat)) (by omega) (by omega) (l, e) rfl (show l.length ≤ 100000 by omega) rfl))) (by simp [cold, List.flatten_replicate_singleton])) H (Same.refl _) _ fun p4 x4 H1 hp4 e1 hx4 hd4 => ?_
    refine (gn_lst (K := K) (ds := [.tup ((cold l).map D.int)]) (ga1 (GD.is (gd_op (gd_tup (ga1 gd_i) (by simp)) (gd_cb (ga1 (gd_var rfl (hw.up e1))) (rc_lenI (k := (l.length : Nat)) (by omega) (by omega) (l, e) rfl (show l.length ≤ 100000 by omega) rfl)) (r_repTA (ds := [D.int 0]) (k := (l.length : Nat)) (by simp) (by omega) (by omega) (by simp))) (by simp [cold, List.flatten_replicate_singleton]))) (by simp)) H1 (Same.refl _) _ fun p5 x5 H2 hp5 e2 hx5 hd5 => ?_
    refine (gn_lst (K := K) ga_nil (by simp)) H2 (Same.refl _) _ fun p6 x6 H3 hp6 e3 hx6 hd6 => ⟨_, _, _, rfl, ?_⟩
    cases hd6
    have n54 : p5 ≠ p4 := ne_at hp5 hx4
    have n64 : p6 ≠ p4 := ne_at hp6 (e2 _ _ hx4)
    have n65 : p6 ≠ p5 := ne_at hp6 hx5
    have e12 := e1.trans e2
    have e13 := e12.trans e3
    have A4 : H3 p4 = some (.lst x4) := e3 _ _ (e2 _ _ hx4)
    have A5 : H3 p5 = some (.lst x5) := e3 _ _ hx5
    have lsM : Ls [p4, p5, p6] H3 := fun m hm => by
      simp at hm
      rcases hm with rfl | rfl | rfl
      · exact ⟨_, A4⟩
      · exact ⟨_, A5⟩
      · exact ⟨_, hx6⟩
    dsimp only
    refine s_for (K := K) (M := [p4, p5, p6]) (gi_range1 (n := (N : Nat)) (ga1 (gd_var rfl (hz.up e13))) (by omega) (by omega)) fun H4 e4 =>
      ⟨fun i σ' H' => ∃ pw xw v7 v8 yf yo, σ' = [some v, some x, some y, some z, some (.ref pw), some (.ref p5), some (.ref p6), v7, v8, none] ∧ But [p4, p5, p6] H4 H' ∧ pw ≠ p5 ∧ pw ≠ p6 ∧ (pw ∈ [p4, p5, p6] ∨ H4 pw = none) ∧ H' pw = some (.lst xw) ∧ Dns K H' xw ((run l c (seq day i) (cold l)).map D.int) ∧ H' p5 = some (.lst yf) ∧ Dns K H' yf (ffL l c day i) ∧ H' p6 = some (.lst yo) ∧ Dns K H' yo (hhL l c day i),
      ⟨p4, x4, none, none, x5, [], rfl, .refl _ _, n54.symm, n64.symm, .inl (by simp), e4 _ _ A4, ((hd4.up (e2.trans e3)).up e4), e4 _ _ A5, (hd5.up e3).up e4, e4 _ _ hx6, .nil⟩, fun i σ' H' ⟨_, _, _, _, _, _, _, q, _⟩ => q, ?_, ?_, ?_⟩
    · rintro i σ' H' H'' q ⟨pw, xw, v7, v8, yf, yo, rfl, q1, q2, q3, q4, q5, q6, q7, q8, q9, q10⟩
      exact ⟨pw, xw, v7, v8, yf, yo, rfl, q1.trans (.of q), q2, q3, q4, q _ _ q5, q6.up q, q _ _ q7, q8.up q, q _ _ q9, q10.up q⟩
    · rintro i d u σ' H' hd hu ⟨pw, xw, v7, v8, yf, yo, rfl, q1, q2, q3, q4, q5, q6, q7, q8, q9, q10⟩
      obtain ⟨hi, rfl⟩ : i < N ∧ d = D.int (i : Nat) := by
        rw [List.getElem?_map, Int.toNat_natCast] at hd
        by_cases hi : i < N
        · rw [List.getElem?_range hi] at hd
          exact ⟨hi, (Option.some.inj hd).symm⟩
        · rw [List.getElem?_eq_none (by simpa using hi)] at hd
          cases hd
      cases hu
      have kp : Kp H H' := (Kp.of (e13.trans e4)).trans (lsM.kp e4 q1)
      have hwH : Dn K H' v (storeD C l e) := hw.keep kp (fix_st C he)
      have hyH : Dn K H' y (dayD day) := hy.keep kp (fixs_day day)
      have hxH : Dn K H' x (.int c) := hx.keep kp rfl
      have hm : i % day.length < day.length := Nat.mod_lt _ (by omega)
      dsimp only [gName]
      refine s_asg (K := K) (d := optD (day.getD (i % day.length) none)) (gd_op (gd_var rfl hyH) (GD.is (d := .int (((i : Nat) : Int) % ((day.length : Nat) : Int))) (gd_op (d := .int (i : Nat)) (e := .int (day.length : Nat)) (gd_cb (ga1 (gd_var rfl (.int (i : Nat)))) rc_int) (gd_cb (ga1 (gd_var rfl hyH)) (rc_len (d := dayD day) (n := day.length) (by simp [D.len]) (by omega))) (r_intC (C := fun _ j => 0 < j) (g := fun a b => a % b) (show (0 : Int) < ((day.length : Nat) : Int) from by omega))) (e := .int ((i % day.length : Nat) : Int)) (by simp)) (r_ixT (atI_nat (by simp [hm])))) fun u8 H5 e5 hu8 => ?_
      have hoj : ∀ j, day.getD (i % day.length) none = some j → j < l.length := fun j hj => h2 day[i % day.length] (List.getElem_mem hm) j (by simpa [hm] using hj)
      have sq : run l c (seq day (i + 1)) (cold l) = hour l c (run l c (seq day i) (cold l)) (day.getD (i % day.length) none) := by rw [seq_succ, run_snoc]
      have hh : hv l c day i = hgt l (run l c (seq day i) (cold l)) (day.getD (i % day.length) none) := rfl
      generalize day.getD (i % day.length) none = o at hu8 hoj sq hh
      have rl := run_len l c (seq day i) (cold l)
      rw [cold_len] at rl
      generalize run l c (seq day i) (cold l) = ws at q6 sq hh rl
      have rr := rise_len l ws o
      have q6l := q6.length
      rw [List.length_map] at q6l
      dsimp only
      refine s_whenTo (fun σ2 H6 => ∃ xw2, σ2 = [some v, some x, some y, some z, some (.ref pw), some (.ref p5), some (.ref p6), some (.int (i : Nat)), some u8, none] ∧ But [pw] H5 H6 ∧ H6 pw = some (.lst xw2) ∧ Dns K H6 xw2 ((rise l ws o).map D.int)) (gt_test (gd_op (K := K) (gd_var rfl hu8) gd_n r_notN')) (fun hb H6 e6 E' k' => ?_) (fun hb H6 e6 => ?_) ?_
      · obtain ⟨j, rfl⟩ := Option.isSome_iff_exists.mp hb
        have hj := hoj j rfl
        have hj2 : j < ws.length := by omega
        have e56 := e5.trans e6
        have hw6 := hwH.up e56
        have at0 : (l.map doorD)[j]? = some (doorD l[j]) := by simp [hj]
        have ew : wl l j = l[j].1 := by simp [wl, hj]
        refine s_setL (K := K) (j := j) (d := .int (ws.getD j 0 + wl l j)) (e56 _ _ q5) (at_var rfl) (gd_var rfl (hu8.up e6)) (by omega) (gd_op (gd_op (d := .lst (ws.map D.int)) (e := .int (j : Nat)) (gd_var rfl (.lst (e56 _ _ q5) (q6.up e56))) (gd_var rfl (hu8.up e6)) (r_ixL (z := .int (ws.getD j 0)) (atI_nat (by simp [hj2])))) (GD.is (gd_op (d := doorD l[j]) (e := .int 0) (gd_op (gd_prp (C := C) (ns := storeNs) (gd_var rfl hw6) (i := 2) rfl (by decide) rfl) (gd_var rfl (hu8.up e6)) (r_ixT (ds := l.map doorD) (atI_nat at0))) gd_i (r_ix_t (ds := [.int l[j].1, .int l[j].2]) (i := 0) rfl)) (by rw [ew])) r_int) fun u9 H7 e7 hu9 => ?_
        have e57 := e56.trans e7
        have kk := Kp.upd (o := .lst (xw.set j u9)) (e57 _ _ q5) rfl
        refine k' _ _ ⟨xw.set j u9, rfl, (But.of (e6.trans e7)).trans (But.upd (by simp)), upd_same, ?_⟩
        have es : (rise l ws (some j)).map D.int = (ws.map D.int).set j (.int (ws.getD j 0 + wl l j)) := by simp [rise, List.map_set]
        rw [es]
        exact Dns.set (hu9.keep kk rfl) j ((q6.up e57).keep kk (fixs_ints _))
      · have : o = none := by simpa using hb
        subst this
        exact ⟨xw, rfl, .of e6, e6 _ _ (e5 _ _ q5), (q6.up e5).up e6⟩
      · rintro σ2 H6 ⟨xw2, rfl, r1, r2, r3⟩
        have t5 : H6 p5 = some (.lst yf) := r1 _ _ (e5 _ _ q7) (by simpa using q2.symm)
        have t6 : H6 p6 = some (.lst yo) := r1 _ _ (e5 _ _ q9) (by simpa using q3.symm)
        have k56 : Kp H5 H6 := kp_one r1 (e5 _ _ q5)
        have hu8' : Dn K H6 u8 (optD o) := hu8.keep k56 (by cases o <;> rfl)
        have hx6' : Dn K H6 x (.int c) := (hxH.up e5).keep k56 rfl
        have f8 : Dns K H6 yf (ffL l c day i) := (q8.up e5).keep k56 (fixs_ff l c day i)
        have f10 : Dns K H6 yo (hhL l c day i) := (q10.up e5).keep k56 (fixs_hh l c day i)
        have lo := f10.length
        have lf := f8.length
        simp at lo lf
        have b46 : But [p4, p5, p6] H4 H6 := but_part (q1.trans (.of e5)) r1 q4
        refine s_app (K := K) (d := .int (hv l c day i)) t6 (at_var rfl) (gd_if (b := o.isNone) (gt_test (gd_op (gd_var rfl hu8') gd_n r_isN')) (fun hb => ?_) (fun hb => ?_)) (by omega) fun ua H7 e7 hua => ?_
        · cases o with
          | none => rw [hh]; exact gd_i
          | some j => cases hb
        · cases o with
          | none => cases hb
          | some j =>
            have hj := hoj j rfl
            rw [hh]
            exact gd_op (gd_var rfl (.lst r2 r3)) (gd_var rfl hu8') (r_ixL (atI_nat (show ((rise l ws (some j)).map D.int)[j]? = some (.int ((rise l ws (some j)).getD j 0)) by
              have : j < (rise l ws (some j)).length := by omega
              simp [this])))
        · have kk := Kp.upd (o := .lst (yo ++ [ua])) (e7 _ _ t6) rfl
          have s2 : (upd H7 p6 (.lst (yo ++ [ua]))) pw = some (.lst xw2) := by rw [upd_ne q3]; exact e7 _ _ r2
          have s3 : Dns K (upd H7 p6 (.lst (yo ++ [ua]))) xw2 ((rise l ws o).map D.int) := (r3.up e7).keep kk (fixs_ints _)
          have s5 : (upd H7 p6 (.lst (yo ++ [ua]))) p5 = some (.lst yf) := by rw [upd_ne n65.symm]; exact e7 _ _ t5
          have f8' : Dns K (upd H7 p6 (.lst (yo ++ [ua]))) yf (ffL l c day i) := (f8.up e7).keep kk (fixs_ff l c day i)
          have f10' : Dns K (upd H7 p6 (.lst (yo ++ [ua]))) (yo ++ [ua]) (hhL l c day (i + 1)) := by
            have : hhL l c day (i + 1) = hhL l c day i ++ [.int (hv l c day i)] := by simp [hhL, List.range_succ]
            rw [this]
            exact ((f10.up e7).keep kk (fixs_hh l c day i)).app (.cons (hua.keep kk rfl) .nil)
          have x7 : Dn K (upd H7 p6 (.lst (yo ++ [ua]))) x (.int c) := (hx6'.up e7).keep kk rfl
          have b47 : But [p4, p5, p6] H4 (upd H7 p6 (.lst (yo ++ [ua]))) := (b46.trans (.of e7)).trans (But.upd (by simp))
          have s6 : (upd H7 p6 (.lst (yo ++ [ua]))) p6 = some (.lst (yo ++ [ua])) := upd_same
          generalize upd H7 p6 (.lst (yo ++ [ua])) = H8 at s2 s3 s5 f8' f10' x7 b47 s6
          have mE : ((rise l ws o).map D.int).map (fun d => D.int (match d with | .int i => max 0 (i - c) | _ => 0)) = (hour l c ws o).map D.int := by
            rw [hour, cool, List.map_map, List.map_map]
            rfl
          dsimp only
          refine s_asgN (K := K) (GN.is (gn_map (K := K) (ds := (rise l ws o).map D.int) (fun d => D.int (match d with | .int i => max 0 (i - c) | _ => 0)) (fun H1 e1 => gi_listC (gd_var rfl (Dn.up (.lst s2 s3) e1))) (by rw [List.length_map]; omega) (fun _ => rfl) (fun _ _ => rfl) (fun d z H2 hd e2 hz => ?_)) mE) fun p9 x9 H9 hp9 e9 hx9 hd9 => ?_
          · obtain ⟨i, _, rfl⟩ := List.mem_map.mp hd
            exact gd_cb (ga2 gd_i (gd_op (gd_var rfl hz) (gd_var rfl (x7.up e2)) r_int)) rc_max2
          · dsimp only
            rw [← sq] at hd9
            refine s_app (K := K) (d := warmT l c day (i + 1)) (e9 _ _ s5) (at_var rfl) (gd_cb (ga1 (gd_var rfl (.lst hx9 hd9))) (rc_tuple (.inl rfl) (fixs_ints _))) (by omega) fun ub Hb eb hub => ?_
            have kb := Kp.upd (o := .lst (yf ++ [ub])) (eb _ _ (e9 _ _ s5)) rfl
            have n95 : p9 ≠ p5 := ne_at hp9 s5
            have n96 : p9 ≠ p6 := ne_at hp9 s6
            have e9b := e9.trans eb
            refine ⟨p9, x9, _, _, yf ++ [ub], yo ++ [ua], rfl, (b47.trans (.of e9b)).trans (But.upd (by simp)), n95, n96, new_or b47 hp9, by rw [upd_ne n95]; exact eb _ _ hx9, (hd9.up eb).keep kb (fixs_ints _), upd_same, ?_, by rw [upd_ne n65]; exact e9b _ _ s6, (f10'.up e9b).keep kb (fixs_hh _ _ _ _)⟩
            have : ffL l c day (i + 1) = ffL l c day i ++ [warmT l c day (i + 1)] := by rw [ffL, List.range_succ, List.map_append]; rfl
            rw [this]
            exact ((f8'.up e9b).keep kb (fixs_ff l c day i)).app (.cons (hub.keep kb (fix_warmT _ _ _ _)) .nil)
    · rintro σ' H' ⟨pw, xw, v7, v8, yf, yo, rfl, q1, q2, q3, q4, q5, q6, q7, q8, q9, q10⟩
      simp only [List.length_map, List.length_range, Int.toNat_natCast] at q8 q10
      have kS : Same H H' := But.fresh (e13.trans e4) q1 fun m hm => by
        simp at hm
        rcases hm with rfl | rfl | rfl
        · exact hp4
        · exact e1.free hp5
        · exact e12.free hp6
      dsimp only
      exact s_retK (k.up kS) (gd_tup (ga2 (gd_var rfl (.lst q7 q8)) (gd_var rfl (.lst q9 q10))) (by simp))
end
end My

/-! the law's first hour that is too warm (pure) -/
namespace Wm
open Cc (minP ltP)
section
variable {l : List (Int × Int)} {c : Int} {day : List (Option Nat)} {lim : Int}
def minO : List (Int × Int) → Option (Int × Int)
  | [] => none
  | p :: ps => some (minP p ps)
theorem first_of (f : Nat → Option (Int × Int)) (hd : 0 < day.length) (sp : ∀ i < day.length, (f i = none ∧ ∀ j, day.getD i none = some j → ∀ q : Nat, hv l c day (q * day.length + i) ≤ lim) ∨
    ∃ m j : Nat, f i = some (((m * day.length + i : Nat) : Int), (j : Int)) ∧ day.getD i none = some j ∧ hv l c day (m * day.length + i) > lim ∧ ∀ q < m, hv l c day (q * day.length + i) ≤ lim) :
    IsFirst l c day lim (minO ((List.range day.length).filterMap f)) := by
  have key : ∀ m, Hot l c day lim m → ∃ p ∈ (List.range day.length).filterMap f, p.1 ≤ (m : Int) := by
    rintro m ⟨j, h1, h2⟩
    obtain ⟨e, hr⟩ := split_hour (day := day) m hd
    rw [e] at h2
    rcases sp _ hr with ⟨h, h'⟩ | ⟨k, j', h, h3, h4, h5⟩
    · exact absurd (h' j h1 (m / day.length)) (by omega)
    · refine ⟨_, List.mem_filterMap.mpr ⟨m % day.length, List.mem_range.mpr hr, h⟩, ?_⟩
      have hk : k ≤ m / day.length := Nat.le_of_not_lt fun hlt => by
        have := h5 _ hlt
        omega
      have := Nat.mul_le_mul_right day.length hk
      show ((k * day.length + m % day.length : Nat) : Int) ≤ _
      omega
  cases hL : (List.range day.length).filterMap f with
  | nil =>
    intro m hm
    obtain ⟨p, hp, _⟩ := key m hm
    rw [hL] at hp
    cases hp
  | cons p ps =>
    have hm := minP_mem ps p
    have hl := minP_le ps p
    rw [← hL] at hm hl
    obtain ⟨i, hi, he⟩ := List.mem_filterMap.mp hm
    have hi' := List.mem_range.mp hi
    rcases sp _ hi' with ⟨h, _⟩ | ⟨k, j, h, h3, h4, h5⟩
    · rw [h] at he; cases he
    · rw [h] at he
      have he' := Option.some.inj he
      have hmod : (k * day.length + i) % day.length = i := by rw [Nat.mul_add_mod_self_right, Nat.mod_eq_of_lt hi']
      refine ⟨k * day.length + i, j, he'.symm, by rw [hmod]; exact h3, h4, fun m' hlt hot => ?_⟩
      obtain ⟨p', hp', hle⟩ := key m' hot
      have := hl p' hp'
      rw [← he'] at this
      have t : ((k * day.length + i : Nat) : Int) ≤ p'.1 := this
      omega
def FirstB (l : List (Int × Int)) (c : Int) (day : List (Option Nat)) (lim : Int) (N : Nat) : Option (Int × Int) → Prop
  | none => ∀ m < N, ¬ Hot l c day lim m
  | some p => ∃ m j : Nat, p = ((m : Int), (j : Int)) ∧ day.getD (m % day.length) none = some j ∧ hv l c day m > lim ∧ ∀ m' < m, ¬ Hot l c day lim m'
theorem FirstB.step {N : Nat} {b : Option (Int × Int)} (h0 : 0 ≤ lim) (h : FirstB l c day lim N b) (hn : b = none → hv l c day N ≤ lim) : FirstB l c day lim (N + 1) b := by
  cases b with
  | some p => exact h
  | none =>
    intro m hm hot
    rcases Nat.lt_or_ge m N with h1 | h1
    · exact h m h1 hot
    · have : m = N := by omega
      subst this
      obtain ⟨j, _, h2⟩ := hot
      have := hn rfl
      omega
theorem FirstB.new {N : Nat} (h0 : 0 ≤ lim) (h : FirstB l c day lim N none) (hn : hv l c day N > lim) : ∃ j, day.getD (N % day.length) none = some j ∧ FirstB l c day lim (N + 1) (some ((N : Int), (j : Int))) := by
  cases ho : day.getD (N % day.length) none with
  | none =>
    have := hv_none (l := l) (c := c) ho
    omega
  | some j => exact ⟨j, rfl, N, j, rfl, ho, hn, fun m' hm' => h m' hm'⟩
def lawAt (l : List (Int × Int)) (c : Int) (day : List (Option Nat)) (lim : Int) (i : Nat) : Option (Int × Int) := match day.getD i none with
  | none => none
  | some j => if hv l c day (60 * day.length + i) - hv l c day (59 * day.length + i) > 0 then some ((59 + ((lim - hv l c day (59 * day.length + i)) / (hv l c day (60 * day.length + i) - hv l c day (59 * day.length + i)) + 1)) * (day.length : Nat) + (i : Nat), (j : Int)) else none
def lawL (l : List (Int × Int)) (c : Int) (day : List (Option Nat)) (lim : Int) : List (Int × Int) := (List.range day.length).filterMap (lawAt l c day lim)
def lawF (l : List (Int × Int)) (c : Int) (day : List (Option Nat)) (lim : Int) (b : Option (Int × Int)) : Option (Int × Int) := match b with
  | some p => some p
  | none => minO (lawL l c day lim)
theorem more_slope {i j : Nat} (hin : InDay l.length day) (hi : i < day.length) (ho : day.getD i none = some j) (hwl : ∀ j, wl l j ≤ 99) (hc : 1 ≤ c) : hv l c day (60 * day.length + i) - hv l c day (59 * day.length + i) ≤ 98 * day.length := by
  have hj : j < l.length := hin (day.getD i none) (by rw [List.getD_eq_getElem?_getD, List.getElem?_eq_getElem hi]; exact List.getElem_mem hi) j ho
  have l58 := hv_lin (c := c) hi ho hj 58
  have l59 := hv_lin (c := c) hi ho hj 59
  have g := gain_le hwl hc j day
  have e : slope l c day j = max 0 (gain l c j day) := rfl
  simp only [show (58 + 1 : Nat) = 59 from rfl, show (59 + 1 : Nat) = 60 from rfl] at l58 l59
  rw [l58, l59]
  have e1 : ((58 : Nat) : Int) * slope l c day j + slope l c day j = ((59 : Nat) : Int) * slope l c day j := by omega
  omega
theorem law_isFirst {b : Option (Int × Int)} (hin : InDay l.length day) (hd : 0 < day.length) (h0 : 0 ≤ lim) (hb : FirstB l c day lim (60 * day.length) b) : IsFirst l c day lim (lawF l c day lim b) := by
  cases b with
  | some p => exact hb
  | none =>
    refine first_of (lawAt l c day lim) hd fun i hi => ?_
    cases ho : day.getD i none with
    | none => exact .inl ⟨by unfold lawAt; rw [ho], fun j hj => by cases hj⟩
    | some j =>
      have hj : j < l.length := hin (day.getD i none) (by rw [List.getD_eq_getElem?_getD, List.getElem?_eq_getElem hi]; exact List.getElem_mem hi) j ho
      have hlin := fun q => hv_lin (c := c) hi ho hj q
      -- the first days are cold enough
      have low : ∀ q : Nat, q < 60 → hv l c day (q * day.length + i) ≤ lim := fun q hq => by
        have := hb (q * day.length + i) (by
          have : q * day.length ≤ 59 * day.length := Nat.mul_le_mul_right _ (by omega)
          omega)
        refine Int.not_lt.mp fun hlt => this ⟨j, ?_, hlt⟩
        rw [Nat.mul_add_mod_self_right, Nat.mod_eq_of_lt hi]
        exact ho
      have l58 := hlin 58
      have l59 := hlin 59
      have g0 : 0 ≤ slope l c day j := by unfold slope; omega
      generalize slope l c day j = g at hlin l58 l59 g0
      simp only [show (58 + 1 : Nat) = 59 from rfl, show (59 + 1 : Nat) = 60 from rfl] at l58 l59
      have more : hv l c day (60 * day.length + i) - hv l c day (59 * day.length + i) = g := by
        rw [l58, l59]
        have e1 : ((58 : Nat) : Int) * g + g = ((59 : Nat) : Int) * g := by omega
        omega
      have from59 : ∀ d : Nat, hv l c day ((59 + d) * day.length + i) = hv l c day (59 * day.length + i) + d * g := fun d => by
        have := hlin (58 + d)
        rw [show 58 + d + 1 = 59 + d by omega] at this
        rw [this, l58]
        have e1 : ((58 + d : Nat) : Int) * g = ((58 : Nat) : Int) * g + (d : Int) * g := by
          rw [← Int.add_mul]
          simp
        omega
      have h59 := low 59 (by omega)
      by_cases hg : g > 0
      · right
        have hq : 0 ≤ (lim - hv l c day (59 * day.length + i)) / g := Int.ediv_nonneg (by omega) (by omega)
        obtain ⟨d, hdd⟩ : ∃ d : Nat, (lim - hv l c day (59 * day.length + i)) / g = d := ⟨_, (Int.toNat_of_nonneg hq).symm⟩
        have b1 := Int.lt_mul_ediv_self_add (k := g) (x := lim - hv l c day (59 * day.length + i)) hg
        have b2 := Int.mul_ediv_self_le (x := lim - hv l c day (59 * day.length + i)) (k := g) (by omega)
        rw [hdd] at b1 b2
        have cm : (d : Int) * g = g * d := Int.mul_comm _ _
        refine ⟨59 + (d + 1), j, ?_, rfl, ?_, fun q hq => ?_⟩
        · unfold lawAt
          rw [ho, more]
          simp only [hg, if_true, hdd]
          simp
        · rw [from59]
          have : ((d + 1 : Nat) : Int) * g = (d : Int) * g + g := by
            rw [show ((d + 1 : Nat) : Int) = (d : Int) + 1 by simp, Int.add_mul, Int.one_mul]
          omega
        · rcases Nat.lt_or_ge q 60 with h | h
          · exact low q h
          · obtain ⟨k, rfl⟩ : ∃ k, q = 59 + k := ⟨q - 59, by omega⟩
            rw [from59]
            have m1 : (k : Int) * g ≤ (d : Int) * g := Int.mul_le_mul_of_nonneg_right (by omega) g0
            omega
      · left
        have : g = 0 := by omega
        subst this
        refine ⟨?_, fun j' _ q => ?_⟩
        · unfold lawAt
          rw [ho, more]
          simp
        · rcases Nat.lt_or_ge q 60 with h | h
          · exact low q h
          · obtain ⟨k, rfl⟩ : ∃ k, q = 59 + k := ⟨q - 59, by omega⟩
            rw [from59]
            omega
theorem law_thaw {b : Option (Int × Int)} (hin : InDay l.length day) (hd : 0 < day.length) (h0 : 0 ≤ lim) (hb : FirstB l c day lim (60 * day.length) b) : lawF l c day lim b = thawZ l c day lim :=
  first_unique (law_isFirst hin hd h0 hb) (thaw_first hin hd)
end
end Wm

namespace My
open PySem L2 RZ Cc Wm
mutual
/-- plain data of depth n at most -/
def okD : Nat → D → Bool
  | _, .str x => PyData.strOk x
  | _, .ob _ _ _ => false
  | _, .ptup _ => false
  | n + 1, .lst ds => okDs n ds
  | n + 1, .tup ds => okDs n ds
  | 0, .lst _ => false
  | 0, .tup _ => false
  | _, _ => true
def okDs : Nat → List D → Bool
  | _, [] => true
  | n, d :: ds => okD n d && okDs n ds
end
theorem okDs_iff {n : Nat} {ds : List D} : okDs n ds = true ↔ ∀ d ∈ ds, okD n d = true := by
  induction ds with
  | nil => simp [okDs]
  | cons d ds ih => simp [okDs, ih]
mutual
theorem okD_all : ∀ (n : Nat) (d : D), okD n d = true → d.pl = true ∧ d.py.canLay0 = true ∧ d.py.depth ≤ n
  | n, .non, _ => ⟨rfl, rfl, Nat.zero_le _⟩
  | n, .bl _, _ => ⟨rfl, rfl, Nat.zero_le _⟩
  | n, .int _, _ => ⟨rfl, rfl, Nat.zero_le _⟩
  | n, .str x, h => ⟨rfl, by simpa [okD, D.py, PyData.canLay0] using h, Nat.zero_le _⟩
  | n, .ob _ _ _, h => by cases n <;> simp [okD] at h
  | n, .ptup _, h => by cases n <;> simp [okD] at h
  | 0, .lst _, h => by simp [okD] at h
  | 0, .tup _, h => by simp [okD] at h
  | n + 1, .lst ds, h => by
    obtain ⟨h1, h2, h3⟩ := okDs_all n ds (by simpa [okD] using h)
    exact ⟨by simpa [D.pl] using h1, by simpa [D.py, PyData.canLay0] using h2, by simp only [D.py, PyData.depth]; omega⟩
  | n + 1, .tup ds, h => by
    obtain ⟨h1, h2, h3⟩ := okDs_all n ds (by simpa [okD] using h)
    exact ⟨by simpa [D.pl] using h1, by simpa [D.py, PyData.canLay0] using h2, by simp only [D.py, PyData.depth]; omega⟩
theorem okDs_all : ∀ (n : Nat) (ds : List D), okDs n ds = true → D.pls ds = true ∧ PyData.canLayAll0 (D.pys ds) = true ∧ PyData.depthAll (D.pys ds) ≤ n
  | n, [], _ => ⟨rfl, rfl, Nat.zero_le _⟩
  | n, d :: ds, h => by
    have h' : okD n d = true ∧ okDs n ds = true := by simpa [okDs] using h
    obtain ⟨a1, a2, a3⟩ := okD_all n d h'.1
    obtain ⟨b1, b2, b3⟩ := okDs_all n ds h'.2
    exact ⟨by simp [D.pls, a1, b1], by simp [D.pys, PyData.canLayAll0, a2, b2], by simp only [D.pys, PyData.depthAll]; omega⟩
end
theorem ok_pl {n : Nat} {d : D} (h : okD n d = true) : d.pl = true := (okD_all n d h).1
theorem ok_shp {n : Nat} {d : D} (h : okD n d = true) (hn : n ≤ 64) : d.shp = true := by
  obtain ⟨_, h2, h3⟩ := okD_all n d h
  have : d.py.depth ≤ 64 := by omega
  simp only [D.shp, SeqAt.shaped, h2, decide_eq_true this, Bool.and_self]
theorem ok_same {n : Nat} {d : D} (h : okD n d = true) : d.eqv d = true := SeqAt.eqv_refl _ (okD_all n d h).2.1
theorem ok_ints (n : Nat) (ns : List Int) : okDs n (ns.map D.int) = true := okDs_iff.mpr fun d hd => by
  obtain ⟨i, _, rfl⟩ := List.mem_map.mp hd
  cases n <;> rfl
theorem ok_pairs (ps : List (Int × Int)) : okD 2 (.lst (ps.map pairD)) = true := okDs_iff.mpr fun d hd => by
  obtain ⟨p, _, rfl⟩ := List.mem_map.mp hd
  rfl
theorem r_neSame {K : Fg} {n : Nat} {d : D} (h : okD n d = true) (hn : n ≤ 64 := by decide) : R2D K (rNeD K) d d (.bl false) := by
  have := r_ne (K := K) (ok_pl h) (ok_pl h) (ok_shp h hn) (ok_shp h hn)
  rwa [ok_same h] at this
theorem r_neNil {K : Fg} (ps : List (Int × Int)) : R2D K (rNeD K) (.lst (ps.map pairD)) (.lst []) (.bl (!ps.isEmpty)) := by
  have h := ok_pairs ps
  have h0 : okD 2 (.lst []) = true := rfl
  have := r_ne (K := K) (ok_pl h) (ok_pl h0) (ok_shp h (by decide)) (ok_shp h0 (by decide))
  have e : (D.lst (ps.map pairD)).eqv (.lst []) = ps.isEmpty := by
    cases ps with
    | nil => exact ok_same h0
    | cons p r => simp [D.eqv, D.py, D.pys, PyData.eqv, PyData.eqvAll]
  rwa [e] at this
theorem r_isNP {K : Fg} {o : Option (Int × Int)} : R2D K (fun x y H Q => y = .non ∧ Q (.bl (decide (x = .non))) H) (optP o) .non (.bl o.isNone) := by
  have := r_isN (K := K) (d := optP o)
  cases o <;> exact this
theorem r_notNP {K : Fg} {o : Option (Int × Int)} : R2D K (fun x y H Q => y = .non ∧ Q (.bl (!decide (x = .non))) H) (optP o) .non (.bl o.isSome) := by
  have := r_notN (K := K) (d := optP o)
  cases o <;> exact this
theorem optP_fix (o : Option (Int × Int)) : (optP o).fix = true := by cases o <;> rfl
section
variable {P : Program} {w : World} {K : Fg} {mg : Str → Option Value} {base : Heap} {C CI fI CP CD : Addr}
abbrev spLFirst (K : Fg) (C : Addr) : Sp := spOf (α := List (Int × Int) × D × Int × List (Option Nat) × Int) K (fun a => [storeD C a.1 a.2.1, .int a.2.2.1, dayD a.2.2.2.1, .int a.2.2.2.2])
  (fun a => 1 ≤ a.1.length ∧ a.1.length ≤ 100 ∧ InDay a.1.length a.2.2.2.1 ∧ 1 ≤ a.2.2.2.1.length ∧ a.2.2.2.1.length ≤ 12 ∧ 1 ≤ a.2.2.1 ∧ 0 ≤ a.2.2.2.2 ∧ a.2.1.fix = true ∧ ∀ j, wl a.1 j ≤ 99) fun a => optP (thawZ a.1 a.2.2.1 a.2.2.2.1 a.2.2.2.2)
theorem ok_lfirst {f : Addr} {fd : FuncData} (F : Fun K "_law_first" "_law_first" s__law_first f fd) (T : TxtH P w K mg C CI fI CP CD) (C__law_hours : Cal P w K mg base CX0 3 "_law_hours" ["_law_store_here", "_law_cooling", "_law_day_here", "_law_many"] (spLHours K C)) : FnOk P w K mg base CX0 4 f fd ["_law_store_here", "_law_cooling", "_law_day_here", "_law_limit"] (spLFirst K C) := by
  refine F.ok sc__law_first (fun vs H Q E h => ?_) (fun cdv A outer s H vs Q E hr h => ?_)
  · obtain ⟨a, h, _⟩ := h
    exact h.length
  · obtain ⟨⟨l, e, c, day, lim⟩, hvs, ⟨h0, h1, h2, h3, h4, h5, h6, he, hwl⟩, k⟩ := h
    obtain ⟨v, x, y, z, rfl, hw, hx, hy, hz⟩ := hvs.un4
    replace h0 : 1 ≤ l.length := h0
    replace h1 : l.length ≤ 100 := h1
    replace h2 : InDay l.length day := h2
    replace h3 : 1 ≤ day.length := h3
    replace h4 : day.length ≤ 12 := h4
    replace h5 : 1 ≤ c := h5
    replace h6 : 0 ≤ lim := h6
    replace he : e.fix = true := he
    replace hwl : ∀ j, wl l j ≤ 99 := hwl
    replace hw : Dn K H v (storeD C l e) := hw
    replace hy : Dn K H y (dayD day) := hy
    replace hz : Dn K H z (.int lim) := hz
    replace hx : Dn K H x (.int c) := hx
    refine ⟨_, (pss_cons (ps_set (i := 4) sc__law_first.nd rfl (Or.inl rfl) (pe_callB (lenK K) (by rfl) T.len PySem.boot_len (pa_cons (pv 2) pa_nil)))
      (pss_cons (ps_par (i := 5) (j := 6) rfl sc__law_first.nd rfl rfl (by decide) rfl rfl (pa_cons (pe_ix (ixT K) (pe_cal C__law_hours hr pass0 (pa_cons (pv 0) (pa_cons (pv 1) (pa_cons (pv 2) (pa_cons (pe_op op_mul pe_int (pv 4)) pa_nil))))) pe_int (fun _ _ => rfl)) (pa_cons pe_non pa_nil)) (by rfl))
      (pss_cons (ps_for PassesOwn.never rfl (pi_range1 (by rfl) T.range (pa_cons (pe_op op_mul pe_int (pv 4)) pa_nil)) (pg_name (i := 7) sc__law_first.nd rfl (Or.inl rfl)) (pss_one (ps_if (PW.pt (pw_and (pt_cmpR op_isN (pv 6) pe_non (nomark _)) (pw_and1 (pt_cmpR op_gt (pe_ix (ixL K) (pv 5) (pv 7) (fun _ _ => rfl)) (pv 3) (nomark _))))) (pss_one (ps_set (i := 6) sc__law_first.nd rfl (Or.inl rfl) (pe_tup (pa_cons (pv 7) (pa_cons (pe_ix (ixT K) (pv 2) (pe_op op_mod (pe_callTy call_int1 (by rfl) T.int (by decide +kernel) (pa_cons (pv 7) pa_nil)) (pv 4)) (fun _ _ => rfl)) pa_nil))))) pss_nil)))
      (pss_cons (ps_set (i := 8) sc__law_first.nd rfl (Or.inl rfl) (pe_lst pa_nil))
      (pss_cons (ps_for PassesOwn.never rfl (pi_range1 (by rfl) T.range (pa_cons (pv 4) pa_nil)) (pg_name (i := 9) sc__law_first.nd rfl (Or.inl rfl)) (pss_cons (ps_set (i := 10) sc__law_first.nd rfl (Or.inl rfl) (pe_ix (ixL K) (pv 5) (pe_op op_add (pe_op op_mul pe_int (pv 4)) (pv 9)) (fun _ _ => rfl)))
      (pss_cons (ps_set (i := 11) sc__law_first.nd rfl (Or.inl rfl) (pe_op op_sub (pe_ix (ixL K) (pv 5) (pe_op op_add (pe_op op_mul pe_int (pv 4)) (pv 9)) (fun _ _ => rfl)) (pv 10)))
      (pss_one (ps_if (PW.pt (pw_and (pt_cmpR op_notN (pe_ix (ixT K) (pv 2) (pv 9) (fun _ _ => rfl)) pe_non (nomark _)) (pw_and1 (pt_cmpR op_gt (pv 11) pe_int (nomark _))))) (pss_cons (ps_set (i := 12) sc__law_first.nd rfl (Or.inl rfl) (pe_op op_add (pe_op op_fdiv (pe_op op_sub (pv 3) (pv 10)) (pv 11)) pe_int))
      (pss_one (ps_expr (pe_bm PySem.F.plainAttrs_list PySem.F.slot_list_append PySem.F.type_list_append mt_append (pv 8) (pa_cons (pe_tup (pa_cons (pe_op op_add (pe_op op_mul (pe_op op_add pe_int (pv 12)) (pv 4)) (pv 9)) (pa_cons (pe_ix (ixT K) (pv 2) (pv 9) (fun _ _ => rfl)) pa_nil))) pa_nil))))) pss_nil)))))
      (pss_one (ps_ret (pe_ifExp (pt_cmpR op_notN (pv 6) pe_non (nomark _)) (pv 6) (pe_ifExp (pt_cmpR (neK K hr.units) (pv 8) (pe_lst pa_nil) (nomark _)) (pe_callB (minL (K := K) hr.units65) (by rfl) T.min (by decide +kernel) (pa_cons (pv 8) pa_nil)) pe_non))))))))), ?_⟩
    refine s_asg (K := K) (d := .int (day.length : Nat)) (gd_cb (ga1 (gd_var rfl hy)) (rc_len (d := dayD day) (n := day.length) (by simp [D.len]) (by omega))) fun u4 H1 e1 hu4 => ?_
    cases hu4
    dsimp only
    refine s_par (K := K) (d := .lst (hhL l c day (61 * day.length))) (e := .non) (ga2 (gd_op (gd_call (l, e, c, day, 61 * day.length) (ga_cons (gd_var rfl (hw.up e1)) (ga_cons (gd_var rfl (hx.up e1)) (ga2 (gd_var rfl (hy.up e1)) (GD.is (d := .int (61 * ((day.length : Nat) : Int))) (gd_op gd_i (gd_var rfl (.int (day.length : Nat))) (r_intC (.inr ⟨by omega, by omega⟩))) (by simp))))) ⟨h0, h1, h2, h3, show day.length ≤ 1000 by omega, show 61 * day.length ≤ 5000 by omega, he⟩) gd_i (r_ixT (i := 1) rfl)) gd_n) fun u5 u6 H2 e2 hu5 hu6 => ?_
    cases hu6
    cases hu5 with
    | @lst pO x5 _ hpO hdO =>
    have e12 := e1.trans e2
    dsimp only
    have lO := hdO.length
    simp at lO
    refine s_for (K := K) (M := []) (gi_range1 (n := (60 * day.length : Nat)) (ga1 (GD.is (d := .int (60 * ((day.length : Nat) : Int))) (gd_op gd_i (gd_var rfl (.int (day.length : Nat))) (r_intC (.inr ⟨by omega, by omega⟩))) (by simp))) (by omega) (by omega)) fun H3 e3 =>
      ⟨fun i σ' H' => ∃ b v6 v7, σ' = [some v, some x, some y, some z, some (.int (day.length : Nat)), some (.ref pO), some v6, v7, none, none, none, none, none] ∧ But [] H3 H' ∧ FirstB l c day lim i b ∧ Dn K H' v6 (optP b),
      ⟨none, .non, none, rfl, .refl _ _, fun m hm => absurd hm (by omega), .non⟩, fun i σ' H' ⟨_, _, _, _, q, _⟩ => q, ?_, ?_, ?_⟩
    · rintro i σ' H' H'' q ⟨b, v6, v7, rfl, q1, q2, q3⟩
      exact ⟨b, v6, v7, rfl, q1.trans (.of q), q2, q3.up q⟩
    · rintro i d u σ' H' hd hu ⟨b, v6, v7, rfl, q1, q2, q3⟩
      obtain ⟨hi, rfl⟩ : i < 60 * day.length ∧ d = D.int (i : Nat) := by
        rw [List.getElem?_map, Int.toNat_natCast] at hd
        by_cases hi : i < 60 * day.length
        · rw [List.getElem?_range hi] at hd
          exact ⟨hi, (Option.some.inj hd).symm⟩
        · rw [List.getElem?_eq_none (by simpa using hi)] at hd
          cases hd
      cases hu
      have eS : Same H H' := e12.trans (e3.trans fun c o h => q1 c o h (by simp))
      have e2S : Same H2 H' := e3.trans fun c o h => q1 c o h (by simp)
      have hm : i % day.length < day.length := Nat.mod_lt _ (by omega)
      have hO : Dn K H' (.ref pO) (.lst (hhL l c day (61 * day.length))) := .lst (e2S _ _ hpO) (hdO.up e2S)
      dsimp only [gName]
      refine s_when (b := b.isNone && decide (hv l c day i > lim)) (gt_and (gt_test (gd_op (gd_var rfl q3) gd_n r_isNP)) fun _ => gt_test (gd_op (gd_op (gd_var rfl hO) (gd_var rfl (.int (i : Nat))) (r_ixL (z := .int (hv l c day i)) (atI_nat (by simp [show i < 61 * day.length by omega])))) (gd_var rfl (hz.up eS)) r_intB)) (fun hb H4 e4 => ?_) (fun hb H4 e4 => ?_)
      · simp at hb
        obtain ⟨rfl, hgt⟩ := hb
        obtain ⟨j, hj, fb⟩ := FirstB.new h6 q2 hgt
        refine s_asg (K := K) (d := pairD ((i : Int), (j : Int))) (gd_tup (ga2 (gd_var rfl (.int (i : Nat))) (gd_op (gd_var rfl ((hy.up eS).up e4)) (GD.is (d := .int (((i : Nat) : Int) % ((day.length : Nat) : Int))) (gd_op (d := .int (i : Nat)) (e := .int (day.length : Nat)) (gd_cb (ga1 (gd_var rfl (.int (i : Nat)))) rc_int) (gd_var rfl (.int (day.length : Nat))) (r_intC (C := fun _ j => 0 < j) (g := fun a b => a % b) (show (0 : Int) < ((day.length : Nat) : Int) from by omega))) (e := .int ((i % day.length : Nat) : Int)) (by simp)) (r_ixT (z := .int (j : Nat)) (atI_nat (by
          have : day[i % day.length]? = some (some j) := by
            rw [List.getD_eq_getElem?_getD, List.getElem?_eq_getElem hm] at hj
            rw [List.getElem?_eq_getElem hm]
            exact congrArg some hj
          simp [this, optD]))))) (by simp)) fun u5 H5 e5 hu5 => ?_
        exact ⟨some ((i : Int), (j : Int)), _, _, rfl, q1.trans (.of (e4.trans e5)), fb, hu5⟩
      · refine ⟨b, v6, _, rfl, q1.trans (.of e4), q2.step h6 fun hn => ?_, q3.up e4⟩
        subst hn
        simp at hb
        omega
    · rintro σ' H' ⟨b, v6, v7, rfl, q1, q2, q3⟩
      simp only [List.length_map, List.length_range, Int.toNat_natCast] at q2
      have e2S : Same H2 H' := e3.trans fun c o h => q1 c o h (by simp)
      have eS : Same H H' := e12.trans e2S
      have hO : Dn K H' (.ref pO) (.lst (hhL l c day (61 * day.length))) := .lst (e2S _ _ hpO) (hdO.up e2S)
      dsimp only
      refine s_asgN (K := K) (gn_lst ga_nil (by simp)) fun p8 x8 H6 hp8 e6 hx8 hd8 => ?_
      cases hd8
      have n8 : p8 ≠ pO := ne_at hp8 (e2S _ _ hpO)
      have eS6 := eS.trans e6
      dsimp only
      refine s_for (K := K) (M := [p8]) (gi_range1 (n := (day.length : Nat)) (ga1 (gd_var rfl (.int (day.length : Nat)))) (by omega) (by omega)) fun H7 e7 =>
        ⟨fun i σ' H' => ∃ v9 v10 v11 v12 ys, σ' = [some v, some x, some y, some z, some (.int (day.length : Nat)), some (.ref pO), some v6, v7, some (.ref p8), v9, v10, v11, v12] ∧ But [p8] H7 H' ∧ H' p8 = some (.lst ys) ∧ Dns K H' ys (((List.range i).filterMap (lawAt l c day lim)).map pairD),
        ⟨none, none, none, none, [], rfl, .refl _ _, e7 _ _ hx8, .nil⟩, fun i σ' H' ⟨_, _, _, _, _, _, q, _⟩ => q, ?_, ?_, ?_⟩
      · rintro i σ' H' H'' q ⟨v9, v10, v11, v12, ys, rfl, q1, q2, q3⟩
        exact ⟨v9, v10, v11, v12, ys, rfl, q1.trans (.of q), q _ _ q2, q3.up q⟩
      · rintro i d u σ' Hb hd hu ⟨v9, v10, v11, v12, ys, rfl, r1, r2, r3⟩
        obtain ⟨hi, rfl⟩ : i < day.length ∧ d = D.int (i : Nat) := by
          rw [List.getElem?_map, Int.toNat_natCast] at hd
          by_cases hi : i < day.length
          · rw [List.getElem?_range hi] at hd
            exact ⟨hi, (Option.some.inj hd).symm⟩
          · rw [List.getElem?_eq_none (by simpa using hi)] at hd
            cases hd
        cases hu
        have kp : Kp H Hb := (Kp.of (eS6.trans e7)).trans (kp_one r1 (e7 _ _ hx8))
        have kp2 : Kp H' Hb := (Kp.of (e6.trans e7)).trans (kp_one r1 (e7 _ _ hx8))
        have hyb : Dn K Hb y (dayD day) := hy.keep kp (fixs_day day)
        have hzb : Dn K Hb z (.int lim) := hz.keep kp rfl
        have hOb : Dn K Hb (.ref pO) (.lst (hhL l c day (61 * day.length))) := .lst (r1 _ _ ((e6.trans e7) _ _ (e2S _ _ hpO)) (by simpa using n8.symm)) ((hdO.up e2S).keep kp2 (fixs_hh _ _ _ _))
        have i59 : 59 * day.length + i < 61 * day.length := by omega
        have i60 : 60 * day.length + i < 61 * day.length := by omega
        dsimp only [gName]
        have m59 : CMul 59 ((day.length : Nat) : Int) := .inr ⟨by omega, by omega⟩
        have m60 : CMul 60 ((day.length : Nat) : Int) := .inr ⟨by omega, by omega⟩
        refine s_asg (K := K) (d := .int (hv l c day (59 * day.length + i))) (gd_op (gd_var rfl hOb) (GD.is (d := .int (59 * ((day.length : Nat) : Int) + ((i : Nat) : Int))) (gd_op (gd_op gd_i (gd_var rfl (.int (day.length : Nat))) (r_intC m59)) (gd_var rfl (.int (i : Nat))) r_int) (e := .int ((59 * day.length + i : Nat) : Int)) (by simp)) (r_ixL (z := .int (hv l c day (59 * day.length + i))) (atI_nat (by simp [i59])))) fun u10 H8 e8 hu10 => ?_
        cases hu10
        dsimp only
        refine s_asg (K := K) (d := .int (hv l c day (60 * day.length + i) - hv l c day (59 * day.length + i))) (gd_op (gd_op (gd_var rfl (hOb.up e8)) (GD.is (d := .int (60 * ((day.length : Nat) : Int) + ((i : Nat) : Int))) (gd_op (gd_op gd_i (gd_var rfl (.int (day.length : Nat))) (r_intC m60)) (gd_var rfl (.int (i : Nat))) r_int) (e := .int ((60 * day.length + i : Nat) : Int)) (by simp)) (r_ixL (z := .int (hv l c day (60 * day.length + i))) (atI_nat (by simp [i60])))) (gd_var rfl (.int _)) r_int) fun u11 H9 e9 hu11 => ?_
        cases hu11
        have e89 := e8.trans e9
        have hdi : (day.map optD)[i]? = some (optD (day.getD i none)) := by simp [hi]
        have rs : (List.range (i + 1)).filterMap (lawAt l c day lim) = (List.range i).filterMap (lawAt l c day lim) ++ (lawAt l c day lim i).toList := by
          rw [List.range_succ, List.filterMap_append]
          cases h : lawAt l c day lim i <;> simp [h]
        have tA : lawAt l c day lim i = match day.getD i none with
            | none => none
            | some j => if hv l c day (60 * day.length + i) - hv l c day (59 * day.length + i) > 0 then some ((59 + ((lim - hv l c day (59 * day.length + i)) / (hv l c day (60 * day.length + i) - hv l c day (59 * day.length + i)) + 1)) * (day.length : Nat) + (i : Nat), (j : Int)) else none := rfl
        have hlt := fun j (ho : day.getD i none = some j) => more_slope h2 hi ho hwl h5
        generalize day.getD i none = o at hdi tA hlt
        generalize hv l c day (60 * day.length + i) - hv l c day (59 * day.length + i) = more at tA hlt ⊢
        generalize hv l c day (59 * day.length + i) = last at tA ⊢
        dsimp only
        refine s_when (b := o.isSome && decide (more > 0)) (gt_and (gt_test (gd_op (gd_op (gd_var rfl (hyb.up e89)) (gd_var rfl (.int (i : Nat))) (r_ixT (atI_nat hdi))) gd_n r_notN')) fun _ => gt_test (gd_op (K := K) (gd_var rfl (.int more)) gd_i r_intB)) (fun hb Ha ea => ?_) (fun hb Ha ea => ?_)
        · simp at hb
          obtain ⟨ho, hg⟩ := hb
          obtain ⟨j, rfl⟩ := Option.isSome_iff_exists.mp ho
          have hl := hlt j rfl
          refine s_asg (K := K) (d := .int ((lim - last) / more + 1)) (gd_op (gd_op (gd_op (gd_var rfl ((hzb.up e89).up ea)) (gd_var rfl (.int last)) r_int) (gd_var rfl (.int more)) (r_intC (C := CDiv) (show CDiv _ more from ⟨by omega, by omega⟩))) gd_i r_int) fun u12 Hc ec hu12 => ?_
          cases hu12
          have eac := ea.trans ec
          have e8c := e89.trans eac
          have yl := r3.length
          have fl := List.length_filterMap_le (lawAt l c day lim) (List.range i)
          rw [List.length_range] at fl
          rw [List.length_map] at yl
          dsimp only
          refine s_app (K := K) (d := pairD ((59 + ((lim - last) / more + 1)) * (day.length : Nat) + (i : Nat), (j : Int))) (e8c _ _ r2) (at_var rfl) (gd_tup (ga2 (gd_op (gd_op (gd_op gd_i (gd_var rfl (.int ((lim - last) / more + 1))) r_int) (gd_var rfl (.int (day.length : Nat))) (r_intC (.inr ⟨by omega, by omega⟩))) (gd_var rfl (.int (i : Nat))) r_int) (gd_op (gd_var rfl (hyb.up e8c)) (gd_var rfl (.int (i : Nat))) (r_ixT (z := .int (j : Nat)) (atI_nat hdi)))) (by simp)) (by omega) fun ux Hd ed hux => ?_
          have kk := Kp.upd (o := .lst (ys ++ [ux])) (ed _ _ (e8c _ _ r2)) rfl
          have e8d := e8c.trans ed
          have fp : ∀ ps : List (Int × Int), D.fixs (ps.map pairD) = true := fun ps => D.fixs_iff.mpr fun d hd => by
            obtain ⟨p, _, rfl⟩ := List.mem_map.mp hd
            rfl
          refine ⟨_, _, _, _, ys ++ [ux], rfl, r1.trans ((But.of e8d).trans (But.upd (by simp))), upd_same, ?_⟩
          have ti : lawAt l c day lim i = some ((59 + ((lim - last) / more + 1)) * (day.length : Nat) + (i : Nat), (j : Int)) := by
            rw [tA]
            simp [hg]
          rw [rs, ti, List.map_append]
          exact ((r3.up e8d).keep kk (fp _)).app (.cons (hux.keep kk rfl) .nil)
        · have tn : lawAt l c day lim i = none := by
            rw [tA]
            cases o with
            | none => rfl
            | some j =>
              simp at hb
              simp [Int.not_lt.mpr hb]
          have e8a := e89.trans ea
          refine ⟨_, _, _, _, ys, rfl, r1.trans (.of e8a), e8a _ _ r2, ?_⟩
          rw [rs, tn]
          simpa using r3.up e8a
      · rintro σ' Hb ⟨v9, v10, v11, v12, ys, rfl, r1, r2, r3⟩
        simp only [List.length_map, List.length_range, Int.toNat_natCast] at r3
        replace r3 : Dns K Hb ys ((lawL l c day lim).map pairD) := r3
        have kS : Same H Hb := But.fresh (eS6.trans e7) r1 fun m hm => by rw [List.mem_singleton.mp hm]; exact eS.free hp8
        have kp2 : Kp H' Hb := (Kp.of (e6.trans e7)).trans (kp_one r1 (e7 _ _ hx8))
        have h6b : Dn K Hb v6 (optP b) := q3.keep kp2 (optP_fix b)
        have fin := law_thaw (c := c) h2 (by omega) h6 q2
        dsimp only
        refine s_retK (k.up kS) (GD.is (d := optP (lawF l c day lim b)) (gd_if (b := b.isSome) (gt_test (gd_op (gd_var rfl h6b) gd_n r_notNP)) (fun hb => ?_) (fun hb => ?_)) (by rw [fin]))
        · obtain ⟨p, rfl⟩ := Option.isSome_iff_exists.mp hb
          exact gd_var rfl h6b
        · have : b = none := by simpa using hb
          subst this
          show GD K _ _ _ (optP (minO (lawL l c day lim)))
          generalize lawL l c day lim = L at r3
          refine gd_if (b := !L.isEmpty) (gt_test (gd_op (gd_var rfl (.lst r2 r3)) (GN.gd (gn_lst ga_nil (by simp))) (r_neNil L))) (fun hb => ?_) (fun hb => ?_)
          · cases L with
            | nil => cases hb
            | cons p ps => exact gd_cb (ga1 (gd_var rfl (.lst r2 r3))) rc_minP
          · cases L with
            | nil => exact gd_n
            | cons p ps => cases hb
end
end My

/-! the law k31 -/
namespace My
open PySem L2 RZ Cc Wm
/-- what law calls, and its promises -/
structure Calls (P : Program) (w : World) (K : Fg) (mg : Str → Option Value) (base : Heap) (C : Addr) : Prop where
  taken : Cal P w K mg base CX0 1 "_law_taken" ["_law_row", "_law_many"] (spTaken K)
  store : Cal P w K mg base CX0 6 "_law_store" ["_law_row"] (spLStore K C)
  day : Cal P w K mg base CX0 3 "_law_day" ["_law_row", "_law_store_here"] (spLDay K C)
  hours : Cal P w K mg base CX0 3 "_law_hours" ["_law_store_here", "_law_cooling", "_law_day_here", "_law_many"] (spLHours K C)
  first : Cal P w K mg base CX0 4 "_law_first" ["_law_store_here", "_law_cooling", "_law_day_here", "_law_limit"] (spLFirst K C)
  warmths : Cal P w K mg base CX0 7 "warmths" ["store", "cooling", "day", "count"] (spWarmths K C)
  thaw : Cal P w K mg base CX0 7 "first_thaw" ["store", "cooling", "day", "limit"] (spThaw K C)
  len : LenC P w K mg base 1 C (spLenS K C)
def spLaw (K : Fg) : Sp := fun vs H Q _ => ∃ (a : Addr) (ns : List Int), vs = [.ref a] ∧ SqL K H a (ns.map V.int) ∧ ns.length ≤ 63 ∧ ∀ H', Q (.bl true) H'
theorem due_eq {l : List (Int × Int)} {c : Int} {day : List (Option Nat)} (Qn : Nat) (hq : 61 ≤ Qn) (Z : Int) (hZ : Z = (Qn : Int) - 61) :
    (List.range l.length).map (fun k => (run l c (seq day (61 * day.length)) (cold l)).getD k 0 + Z * ((run l c (seq day (61 * day.length)) (cold l)).getD k 0 - (run l c (seq day (60 * day.length)) (cold l)).getD k 0)) = days l c day Qn := by
  rw [seq_days, seq_days]
  refine ext_getD (by simp [days_len]) fun i hi => ?_
  rw [List.length_map, List.length_range] at hi
  rw [days_get l c day i hi Qn]
  simp only [List.getD_eq_getElem?_getD, List.getElem?_map, List.getElem?_range hi, Option.map_some, Option.getD_some]
  rw [← List.getD_eq_getElem?_getD, ← List.getD_eq_getElem?_getD, days_get l c day i hi 61, days_get l c day i hi 60]
  obtain ⟨q, rfl⟩ : ∃ q, Qn = q + 1 := ⟨Qn - 1, by omega⟩
  have a61 := daysD_lin (l := l) (c := c) (d := i) day 60
  have a60 := daysD_lin (l := l) (c := c) (d := i) day 59
  have aQ := daysD_lin (l := l) (c := c) (d := i) day q
  simp only [show (60 + 1 : Nat) = 61 from rfl, show (59 + 1 : Nat) = 60 from rfl] at a61 a60
  rw [a61, a60, aQ]
  generalize max 0 (gain l c i day) = g
  have e1 : ((60 : Nat) : Int) * g - ((59 : Nat) : Int) * g = g := by omega
  have e2 : Z * g = (q : Int) * g - ((60 : Nat) : Int) * g := by
    rw [hZ, ← Int.sub_mul]
    congr 1
    omega
  have e3 : (runD l c i day 0 + ((60 : Nat) : Int) * g - (runD l c i day 0 + ((59 : Nat) : Int) * g)) = g := by omega
  rw [e3, e2]
  omega
section
variable {P : Program} {w : World} {K : Fg} {mg : Str → Option Value} {base : Heap} {C CI fI CP CD : Addr} {σ : L2.St} {H : Hp}
theorem taken_run1 {r : Addr} {n : Int} {tn : TE} {X : XK} {S : Addr × List Int} (h0 : σ[1]? = some (some (.ref r))) (hR : Row K S H r) (hn : GD K tn σ H (.int n)) (h1 : 0 < n) (h2 : n < 1073741824) {Q : VK}
    (k : ∀ k H', 0 ≤ k → k < n → But [r] H H' → Row K S H' r → Q (.int k) H') : tCall (spTaken K) [] X (tCons (tVar 1) (tCons tn tNil)) σ H Q :=
  ⟨.ref r, h0, hn H (Same.refl _) _ fun w H1 e1 hw => by
    cases hw
    exact ⟨S, r, n, rfl, hR.up e1, h1, h2, fun k' H2 a b c d => k k' H2 a b ((But.of e1).trans c) d⟩⟩
theorem gd_pow : GD K (tOp (rI CPow fun i j => .int (i ^ j.toNat)) (tC (.int 10)) (tC (.int 18))) σ H (.int 1000000000000000000) := GD.is (gd_op gd_i gd_i (r_intC (C := CPow) (g := fun i j => i ^ j.toNat) ⟨by decide, by decide, by decide⟩)) (congrArg D.int (by decide))
theorem s_forT {te : TE} {g : TG} {tu : TS} {E : Ends} (R : VK) (hrun : ∀ Q : VK, (∀ v H', R v H' → Q v H') → te σ H Q) (k : ∀ v H', R v H' → tFor (iTup K (fun _ H Q => Q v H)) g tu E σ H') : tFor (iTup K te) g tu E σ H := hrun _ fun v H' hr => k v H' hr
theorem okT (ns : List Int) : okD 1 (.tup (ns.map D.int)) = true := ok_ints 0 ns
theorem okP (o : Option (Int × Int)) : okD 1 (optP o) = true := by cases o <;> rfl
theorem ok_law {f : Addr} {fd : FuncData} (F : Fun K "law" "law" s_law f fd) (T : TxtH P w K mg C CI fI CP CD) (S : Calls P w K mg base C) : FnOk P w K mg base CX0 14 f fd ["_law_script"] (spLaw K) := by
  obtain ⟨C__law_taken, C__law_store, C__law_day, C__law_hours, C__law_first, C_warmths, C_first_thaw, L_Store⟩ := S
  refine F.ok sc_law (fun vs H Q E h => ?_) (fun cdv A outer s H vs Q E hr h => ?_)
  · obtain ⟨a, ns, rfl, _⟩ := h
    rfl
  · refine ⟨_, (pss_cons (ps_set (i := 1) sc_law.nd rfl (Or.inl rfl) (pe_lst (pa_cons (pv 0) (pa_cons pe_int (pa_cons pe_int (pa_cons pe_int pa_nil))))))
      (pss_cons (ps_for PassesOwn.never rfl (pi_range1 (by rfl) T.range (pa_cons pe_int pa_nil)) (pg_name (i := 2) sc_law.nd rfl (Or.inl rfl)) (pss_cons (ps_par (i := 3) (j := 4) rfl sc_law.nd rfl rfl (by decide) rfl rfl (pa_cons (pe_cal C__law_store hr pass0 (pa_cons (pv 1) pa_nil)) (pa_cons (pe_op op_add pe_int (pe_cal C__law_taken hr pass0 (pa_cons (pv 1) (pa_cons pe_int pa_nil)))) pa_nil)) (by rfl))
      (pss_cons (ps_par (i := 5) (j := 6) rfl sc_law.nd rfl rfl (by decide) rfl rfl (pa_cons (pe_cal C__law_day hr pass0 (pa_cons (pv 1) (pa_cons (pv 3) pa_nil))) (pa_cons (pe_cal C__law_taken hr pass0 (pa_cons (pv 1) (pa_cons pe_int pa_nil))) pa_nil)) (by rfl))
      (pss_cons (ps_set (i := 7) sc_law.nd rfl (Or.inl rfl) (pe_callB (lenK K) (by rfl) T.len PySem.boot_len (pa_cons (pv 5) pa_nil)))
      (pss_cons (ps_set (i := 8) sc_law.nd rfl (Or.inl rfl) (pe_ix (ixT K) (pe_cal C__law_hours hr pass0 (pa_cons (pv 3) (pa_cons (pv 4) (pa_cons (pv 5) (pa_cons (pe_op op_mul pe_int (pv 7)) pa_nil))))) pe_int (fun _ _ => rfl)))
      (pss_cons (ps_if (pt_cmpR (neK K hr.units) (pe_cal C_warmths hr pass0 (pa_cons (pv 3) (pa_cons (pv 4) (pa_cons (pv 5) (pa_cons (pv 6) pa_nil))))) (pe_ix (ixL K) (pv 8) (pv 6) (fun _ _ => rfl)) (nomark _)) (pss_one (ps_ret pe_bl)) pss_nil)
      (pss_cons (ps_set (i := 9) sc_law.nd rfl (Or.inr rfl) (pe_op op_sub (pe_op op_fdiv (pe_op op_sub (pe_op op_pow pe_int pe_int) (pv 6)) (pv 7)) pe_int))
      (pss_cons (ps_asg (pe_tup (pa_cons (pe_ix (ixL K) (pv 8) (pe_op op_mul pe_int (pv 7)) (fun _ _ => rfl)) (pa_cons (pe_ix (ixL K) (pv 8) (pe_op op_mul pe_int (pv 7)) (fun _ _ => rfl)) pa_nil))) (pg_tK K (n := 2) rfl (pgs_cons (pg_name (i := 10) sc_law.nd rfl (Or.inr rfl)) (pgs_cons (pg_name (i := 11) sc_law.nd rfl (Or.inr rfl)) pgs_nil))))
      (pss_cons (ps_set (i := 12) sc_law.nd rfl (Or.inl rfl) (pe_callTy (tupK K) (by rfl) T.tuple (by decide +kernel) (pa_cons (pe_lc (own := [("_law_k", 14)]) (g := gName 14) rfl sc_law.nd (pi_range1 (by rfl) T.range (pa_cons (pe_callB (call_lenI L_Store hr) (by rfl) T.len PySem.boot_len (pa_cons (pv 3) pa_nil)) pa_nil)) (blkOk_by (own := [("_law_k", 14)]) (N := ["_law_script", "_law_row", "_law_turn", "_law_store_here", "_law_cooling", "_law_day_here", "_law_count", "_law_size", "_law_found", "_law_days", "_law_here", "_law_there", "_law_due", "_law_limit", "_law_k"]) (sc := defScope s_law) (by decide +kernel)) (fun _ _ _ _ _ => (pg_name (i := 14) sc_law.nd rfl (Or.inl rfl))) (fun _ _ _ _ _ => pts_nil) (fun _ _ _ _ _ => (pe_op op_add (pe_ix (ixT K) (pv 11) (pv 14) (fun _ _ => rfl)) (pe_op op_mul (pv 9) (pe_op op_sub (pe_ix (ixT K) (pv 11) (pv 14) (fun _ _ => rfl)) (pe_ix (ixT K) (pv 10) (pv 14) (fun _ _ => rfl))))))) pa_nil)))
      (pss_cons (ps_if (pt_cmpR (neK K hr.units) (pe_cal C_warmths hr pass0 (pa_cons (pv 3) (pa_cons (pv 4) (pa_cons (pv 5) (pa_cons (pe_op op_mul (pe_op op_add pe_int (pv 9)) (pv 7)) pa_nil))))) (pv 12) (nomark _)) (pss_one (ps_ret pe_bl)) pss_nil)
      (pss_one (ps_for PassesOwn.never rfl (pi_tK K (pe_tup (pa_cons (pe_cal C__law_taken hr pass0 (pa_cons (pv 1) (pa_cons pe_int pa_nil))) (pa_cons (pe_cal C__law_taken hr pass0 (pa_cons (pv 1) (pa_cons pe_int pa_nil))) (pa_cons (pe_op op_sub (pe_op op_pow pe_int pe_int) (pv 6)) pa_nil))))) (pg_name (i := 13) sc_law.nd rfl (Or.inl rfl)) (pss_one (ps_if (pt_cmpR (neK K hr.units) (pe_cal C_first_thaw hr pass0 (pa_cons (pv 3) (pa_cons (pv 4) (pa_cons (pv 5) (pa_cons (pv 13) pa_nil))))) (pe_cal C__law_first hr pass0 (pa_cons (pv 3) (pa_cons (pv 4) (pa_cons (pv 5) (pa_cons (pv 13) pa_nil))))) (nomark _)) (pss_one (ps_ret pe_bl)) pss_nil))))))))))))))
      (pss_one (ps_ret pe_bl)))), ?_⟩
    obtain ⟨a, ns, rfl, hS, hlen, k⟩ := h
    -- the row
    refine ⟨.ref a, rfl, by simp [sizeLine_eq], fun r hr0 => ?_⟩
    have e1 := Same.new (o := .lst [.ref a, .int 0, .int 0, .int 0]) hr0
    have hrow : Row K (a, ns) (upd H r (.lst [.ref a, .int 0, .int 0, .int 0])) r := ⟨0, 0, 0, upd_same, same_l e1 hS, ind_new hS hr0, hlen, by omega⟩
    generalize upd H r (.lst [.ref a, .int 0, .int 0, .int 0]) = H1 at hrow e1 ⊢
    dsimp only
    refine s_for (K := K) (M := [r]) (gi_range1 (n := 4) (ga1 gd_i) (by omega) (by omega)) fun H2 e2 =>
      ⟨fun i σ' H' => ∃ v2 v3 v4 v5 v6 v7 v8 v9 v10 v11 v12 v13, σ' = [some (.ref a), some (.ref r), v2, v3, v4, v5, v6, v7, v8, v9, v10, v11, v12, v13, none] ∧ But [r] H2 H' ∧ Row K (a, ns) H' r,
      ⟨none, none, none, none, none, none, none, none, none, none, none, none, rfl, .refl _ _, hrow.up e2⟩, fun i σ' H' ⟨_, _, _, _, _, _, _, _, _, _, _, _, _, q, _⟩ => q, ?_, ?_, ?_⟩
    · rintro i σ' H' H'' q ⟨v2, v3, v4, v5, v6, v7, v8, v9, v10, v11, v12, v13, rfl, q1, q2⟩
      exact ⟨v2, v3, v4, v5, v6, v7, v8, v9, v10, v11, v12, v13, rfl, q1.trans (.of q), q2.up q⟩
    · rintro i d u σ' H3 hd hu ⟨v2, v3, v4, v5, v6, v7, v8, v9, v10, v11, v12, v13, rfl, q1, R3⟩
      dsimp only [gName]
      -- a store, the cooling
      refine ⟨.ref r, rfl, (a, ns), r, rfl, R3, fun l cc vst H4 LSt b4 R4 hst => ?_⟩
      have fs : (storeD C l (crD cc)).fix = true := fix_st C (cr_fix cc)
      refine taken_run1 (K := K) rfl R4 gd_i (by decide) (by decide) fun cq H5 c1 c2 b5 R5 => ⟨1, cq, rfl, rfl, _, _, rfl, ?_⟩
      have hst5 := dn_but hst R4.at b5 fs
      have hc : ∃ c : Int, 1 + cq = c ∧ 1 ≤ c ∧ c ≤ 5 := ⟨_, rfl, by omega, by omega⟩
      obtain ⟨c, hc, c3, c4⟩ := hc
      dsimp only
      rw [hc]
      -- a day, how many hours
      refine ⟨.ref r, rfl, vst, rfl, (a, ns), r, vst, l, crD cc, rfl, R5, hst5, cr_fix cc, by have := LSt.hi; omega, fun day vd H6 d1 d2 hin b6 R6 hday => ?_⟩
      have hst6 := dn_but hst5 R5.at b6 fs
      refine taken_run1 (K := K) rfl R6 gd_i (by decide) (by decide) fun m H7 m1 m2 b7 R7 => ⟨_, _, rfl, ?_⟩
      have hst7 := dn_but hst6 R6.at b7 fs
      have hday7 := dn_but hday R6.at b7 (fixs_day day)
      obtain ⟨m, rfl⟩ : ∃ n : Nat, m = n := ⟨m.toNat, by omega⟩
      have b27 : But [r] H2 H7 := q1.trans (b4.trans (b5.trans (b6.trans b7)))
      have h100 : l.length ≤ 100 := by have := LSt.hi; omega
      have hwl := fun j => wl9 LSt.each j
      have h1l := LSt.lo
      dsimp only
      refine s_asg (K := K) (d := .int (day.length : Nat)) (gd_cb (ga1 (gd_var rfl hday7)) (rc_len (d := dayD day) (n := day.length) (by simp [D.len]) (by omega))) fun u7 H8 e8 hu7 => ?_
      cases hu7
      dsimp only
      refine s_asg (K := K) (d := .lst (ffL l c day (62 * day.length))) (gd_op (gd_call (l, crD cc, c, day, 62 * day.length) (ga_cons (gd_var rfl (hst7.up e8)) (ga_cons (gd_var rfl (.int c)) (ga2 (gd_var rfl (hday7.up e8)) (GD.is (d := .int (62 * ((day.length : Nat) : Int))) (gd_op gd_i (gd_var rfl (.int (day.length : Nat))) (r_intC (.inr ⟨by omega, by omega⟩))) (by simp))))) ⟨h1l, h100, hin, d1, show day.length ≤ 1000 by omega, show 62 * day.length ≤ 5000 by omega, cr_fix cc⟩) gd_i (r_ixT (i := 0) rfl)) fun u8 H9 e9 hu8 => ?_
      have e79 := e8.trans e9
      have hst9 := hst7.up e79
      have hday9 := hday7.up e79
      dsimp only
      -- the warmth after some hours
      refine s_when (b := false) (gt_test (GD.is (gd_op (d := warmT l c day m) (e := warmT l c day m) (GD.is (gd_call (l, crD cc, c, day, ((m : Nat) : Int)) (ga_cons (gd_var rfl hst9) (ga_cons (gd_var rfl (.int c)) (ga2 (gd_var rfl hday9) (gd_var rfl (.int (m : Nat)))))) ⟨h100, hin, d1, show day.length ≤ 12 by omega, c3, show c ≤ 99 by omega, show (0 : Int) ≤ (m : Nat) by omega, show ((m : Nat) : Int) ≤ 1000000000000000000 by omega⟩) (by
        show D.tup ((warmZ l c day ((m : Nat) : Int)).map D.int) = _
        rw [warm_seq l c day (by omega) m])) (gd_op (gd_var rfl hu8) (gd_var rfl (.int (m : Nat))) (r_ixL (atI_nat (by simp [ffL, show m < 62 * day.length + 1 by omega])))) (r_neSame (n := 1) (okT _))) rfl)) (fun z => nomatch z) fun _ Ha ea => ?_
      have e7a := e79.trans ea
      dsimp only
      -- as many days as fit
      have q61 : 61 ≤ (1000000000000000000 - ((m : Nat) : Int)) / ((day.length : Nat) : Int) := (Int.le_ediv_iff_mul_le (by omega)).mpr (by omega)
      have qm : (1000000000000000000 - ((m : Nat) : Int)) / ((day.length : Nat) : Int) * ((day.length : Nat) : Int) ≤ 1000000000000000000 - ((m : Nat) : Int) := Int.ediv_mul_le _ (by omega)
      have qi : (1000000000000000000 - ((m : Nat) : Int)) / ((day.length : Nat) : Int) ≤ 1000000000000000000 - ((m : Nat) : Int) := Int.ediv_le_self _ (by omega)
      obtain ⟨Qn, hQ⟩ : ∃ Qn : Nat, (1000000000000000000 - ((m : Nat) : Int)) / ((day.length : Nat) : Int) = Qn := ⟨_, (Int.toNat_of_nonneg (by omega)).symm⟩
      rw [hQ] at q61 qm qi
      refine s_asg (K := K) (d := .int ((Qn : Int) - 61)) (GD.is (gd_op (gd_op (gd_op gd_pow (gd_var rfl (.int (m : Nat))) r_int) (gd_var rfl (.int (day.length : Nat))) (r_intC (C := CDiv) (show CDiv _ ((day.length : Nat) : Int) from ⟨by omega, by omega⟩))) gd_i r_int) (by rw [hQ])) fun u9 Hb eb hu9 => ?_
      cases hu9
      have e7b := e7a.trans eb
      dsimp only
      have i60 : 60 * day.length < 62 * day.length + 1 := by omega
      have i61 : 61 * day.length < 62 * day.length + 1 := by omega
      have m60 : CMul 60 ((day.length : Nat) : Int) := .inr ⟨by omega, by omega⟩
      have m61 : CMul 61 ((day.length : Nat) : Int) := .inr ⟨by omega, by omega⟩
      have hF := hu8.up (ea.trans eb)
      refine s_asgT (K := K) (d := warmT l c day (60 * day.length)) (e := warmT l c day (61 * day.length)) (gd_tup (ga2
        (gd_op (gd_var rfl hF) (GD.is (d := .int (60 * ((day.length : Nat) : Int))) (gd_op gd_i (gd_var rfl (.int (day.length : Nat))) (r_intC m60)) (e := .int ((60 * day.length : Nat) : Int)) (by simp)) (r_ixL (atI_nat (by simp [ffL, i60]))))
        (gd_op (gd_var rfl hF) (GD.is (d := .int (61 * ((day.length : Nat) : Int))) (gd_op gd_i (gd_var rfl (.int (day.length : Nat))) (r_intC m61)) (e := .int ((61 * day.length : Nat) : Int)) (by simp)) (r_ixL (atI_nat (by simp [ffL, i61]))))) (by simp)) fun u10 u11 Hc ec hu10 hu11 => ?_
      have e7c := e7b.trans ec
      have due := due_eq (l := l) (c := c) (day := day) Qn (by omega) ((Qn : Int) - 61) rfl
      have l60 := run_len l c (seq day (60 * day.length)) (cold l)
      have l61 := run_len l c (seq day (61 * day.length)) (cold l)
      rw [cold_len] at l60 l61
      change Dn K Hc u10 (.tup ((run l c (seq day (60 * day.length)) (cold l)).map D.int)) at hu10
      change Dn K Hc u11 (.tup ((run l c (seq day (61 * day.length)) (cold l)).map D.int)) at hu11
      generalize run l c (seq day (60 * day.length)) (cold l) = w60 at hu10 due l60
      generalize run l c (seq day (61 * day.length)) (cold l) = w61 at hu11 due l61
      have hst10 := hst7.up e7c
      have hday10 := hday7.up e7c
      dsimp only
      refine s_asg (K := K) (d := .tup ((days l c day Qn).map D.int)) (gd_cb (ga1 (GN.gd (GN.is (gn_map (K := K) (fun d => .int (match d with | .int k => w61.getD k.toNat 0 + ((Qn : Int) - 61) * (w61.getD k.toNat 0 - w60.getD k.toNat 0) | _ => 0)) (fun Hd ed => gi_range1 (n := (l.length : Nat)) (ga1 (gd_cb (ga1 (gd_var rfl (hst10.up ed))) (rc_lenI (k := (l.length : Nat)) (by omega) (by omega) (l, crD cc) rfl (show l.length ≤ 100000 by omega) rfl))) (by omega) (by omega)) (by simp; omega) (fun _ => rfl) (fun _ _ => rfl) (fun d y Hd hd ed hy => ?_)) ?_))) (rc_tuple (.inl rfl) (fixs_ints _))) fun u12 Hd ed hu12 => ?_
      · obtain ⟨q, hq, rfl⟩ := List.mem_map.mp hd
        have hq' : q < l.length := by simpa using hq
        have a60 : (w60.map D.int)[q]? = some (.int (w60.getD q 0)) := by simp [show q < w60.length by omega]
        have a61 : (w61.map D.int)[q]? = some (.int (w61.getD q 0)) := by simp [show q < w61.length by omega]
        exact gd_op (gd_op (gd_var rfl (hu11.up ed)) (gd_var rfl hy) (r_ixT (atI_nat a61))) (gd_op (gd_var rfl (.int ((Qn : Int) - 61))) (gd_op (gd_op (gd_var rfl (hu11.up ed)) (gd_var rfl hy) (r_ixT (atI_nat a61))) (gd_op (gd_var rfl (hu10.up ed)) (gd_var rfl hy) (r_ixT (atI_nat a60))) r_int) (r_intC (C := CMul) (.inl ⟨by omega, by omega⟩))) r_int
      · rw [← due, List.map_map, List.map_map, Int.toNat_natCast]
        exact List.map_congr_left fun k _ => by simp
      have e7d := e7c.trans ed
      dsimp only
      -- the warmth after so many days
      have hm : ((Qn * day.length : Nat) : Int) = (61 + ((Qn : Int) - 61)) * ((day.length : Nat) : Int) := by
        rw [show (61 + ((Qn : Int) - 61)) = (Qn : Int) by omega]
        simp
      have hm2 : ((Qn * day.length : Nat) : Int) ≤ 1000000000000000000 := by
        have : ((Qn * day.length : Nat) : Int) = (Qn : Int) * ((day.length : Nat) : Int) := by simp
        omega
      refine s_when (b := false) (gt_test (GD.is (gd_op (d := .tup ((days l c day Qn).map D.int)) (e := .tup ((days l c day Qn).map D.int)) (GD.is (gd_call (l, crD cc, c, day, ((Qn * day.length : Nat) : Int)) (ga_cons (gd_var rfl (hst7.up e7d)) (ga_cons (gd_var rfl (.int c)) (ga2 (gd_var rfl (hday7.up e7d)) (GD.is (d := .int ((61 + ((Qn : Int) - 61)) * ((day.length : Nat) : Int))) (gd_op (gd_op gd_i (gd_var rfl (.int ((Qn : Int) - 61))) r_int) (gd_var rfl (.int (day.length : Nat))) (r_intC (C := CMul) (.inr ⟨by omega, by omega⟩))) (by rw [← hm]))))) ⟨h100, hin, d1, show day.length ≤ 12 by omega, c3, show c ≤ 99 by omega, show (0 : Int) ≤ ((Qn * day.length : Nat) : Int) by omega, hm2⟩) (by
        show D.tup ((warmZ l c day ((Qn * day.length : Nat) : Int)).map D.int) = _
        rw [warm_seq l c day (by omega), seq_days])) (gd_var rfl hu12) (r_neSame (n := 1) (okT _))) rfl)) (fun z => nomatch z) fun _ He ee => ?_
      have e7e := e7d.trans ee
      have Re := R7.up e7e
      dsimp only
      -- three limits
      refine s_forT (K := K) (fun v H' => ∃ l1 l2 : Int, 0 ≤ l1 ∧ l1 < 30 ∧ 0 ≤ l2 ∧ l2 < 30 ∧ But [r] He H' ∧ Row K (a, ns) H' r ∧ Dn K H' v (.tup [.int l1, .int l2, .int (1000000000000000000 - ((m : Nat) : Int))])) (fun Q' k' => ?_) ?_
      · refine taken_run1 (K := K) rfl Re gd_i (by decide) (by decide) fun l1 Hf l11 l12 bf Rf => ?_
        refine taken_run1 (K := K) rfl Rf gd_i (by decide) (by decide) fun l2 Hg l21 l22 bg Rg => ?_
        refine (gd_op (K := K) gd_pow (gd_var rfl (.int (m : Nat))) r_int) Hg (.refl _) _ fun w Hh eh hw => ?_
        cases hw
        refine ⟨by simp [sizeLine_eq], fun p hp => ?_⟩
        have n := Same.new (o := .tup [.int l1, .int l2, .int (1000000000000000000 - ((m : Nat) : Int))]) hp
        exact k' _ _ ⟨l1, l2, l11, l12, l21, l22, (bf.trans bg).trans (.of (eh.trans n)), Rg.up (eh.trans n), .tup (SqT.of upd_same) (.cons (.int _) (.cons (.int _) (.cons (.int _) .nil)))⟩
      · rintro vt Hf ⟨l1, l2, l11, l12, l21, l22, bf, Rf, ht⟩
        have hstf := dn_but (hst7.up e7e) Re.at bf fs
        have hdayf := dn_but (hday7.up e7e) Re.at bf (fixs_day day)
        have fin : ∀ lim : Int, 0 ≤ lim → lim ≤ 1000000000000000000 → ∀ {σ2 : L2.St} {Hx : Hp} {X1 X2 : XK}, Same Hf Hx → σ2[3]? = some (some vst) → σ2[4]? = some (some (.int c)) → σ2[5]? = some (some vd) → σ2[13]? = some (some (.int lim)) →
            GT (tTest (tOp (rNeD K) (tCall (spThaw K C) [] X1 (tCons (tVar 3) (tCons (tVar 4) (tCons (tVar 5) (tCons (tVar 13) tNil))))) (tCall (spLFirst K C) [] X2 (tCons (tVar 3) (tCons (tVar 4) (tCons (tVar 5) (tCons (tVar 13) tNil))))))) σ2 Hx false := fun lim hl1 hl2 σ2 Hx X1 X2 ex s3 s4 s5 s13 => by
          have ha : GA K (tCons (tVar 3) (tCons (tVar 4) (tCons (tVar 5) (tCons (tVar 13) tNil)))) σ2 Hx [storeD C l (crD cc), .int c, dayD day, .int lim] := ga_cons (gd_var s3 (hstf.up ex)) (ga_cons (gd_var s4 (.int c)) (ga2 (gd_var s5 (hdayf.up ex)) (gd_var s13 (.int lim))))
          exact gt_test (gd_op (d := optP (thawZ l c day lim)) (e := optP (thawZ l c day lim)) (gd_call (l, crD cc, c, day, lim) ha ⟨h100, hin, d1, show day.length ≤ 12 by omega, c3, show c ≤ 99 by omega, hl1, hl2, cr_fix cc, hwl⟩) (gd_call (l, crD cc, c, day, lim) ha ⟨h1l, h100, hin, d1, show day.length ≤ 12 by omega, c3, hl1, cr_fix cc, hwl⟩) (r_neSame (n := 1) (okP _)))
        refine s_for (K := K) (M := []) (gi_tup (K := K) (ds := [.int l1, .int l2, .int (1000000000000000000 - ((m : Nat) : Int))]) (fun H1 e Q q => q _ H1 (.refl _) (ht.up e)) ls_nil rfl) fun Hg eg =>
          ⟨fun i σ' H' => ∃ v13, σ' = [some (.ref a), some (.ref r), some u, some vst, some (.int c), some vd, some (.int (m : Nat)), some (.int (day.length : Nat)), some u8, some (.int ((Qn : Int) - 61)), some u10, some u11, some u12, v13, none] ∧ But [] Hg H', ⟨v13, rfl, .refl _ _⟩, fun i σ' H' ⟨_, _, q⟩ => q, ?_, ?_, ?_⟩
        · rintro i σ' H' H'' q ⟨v13, rfl, g1⟩
          exact ⟨v13, rfl, g1.trans (.of q)⟩
        · rintro i d ux σ' Hx hd hux ⟨v13, rfl, g1⟩
          obtain ⟨lim, rfl, hl1, hl2⟩ : ∃ lim : Int, d = .int lim ∧ 0 ≤ lim ∧ lim ≤ 1000000000000000000 := by
            have := List.mem_of_getElem? hd
            simp only [List.mem_cons, List.not_mem_nil, or_false] at this
            rcases this with rfl | rfl | rfl
            · exact ⟨_, rfl, by omega, by omega⟩
            · exact ⟨_, rfl, by omega, by omega⟩
            · exact ⟨_, rfl, by omega, by omega⟩
          cases hux
          have eS : Same Hf Hx := eg.trans fun c o h => g1 c o h (by simp)
          dsimp only [gName]
          refine s_when (b := false) (fin lim hl1 hl2 eS rfl rfl rfl rfl) (fun z => nomatch z) fun _ Hy ey => ?_
          exact ⟨_, rfl, g1.trans (.of ey)⟩
        · rintro σ' Hx ⟨v13, rfl, g1⟩
          have eS : Same Hf Hx := eg.trans fun c o h => g1 c o h (by simp)
          exact ⟨_, _, _, _, _, _, _, _, _, _, _, _, rfl, (b27.trans (.of e7e)).trans (bf.trans (.of eS)), Rf.up eS⟩
    · rintro σ' H3 ⟨v2, v3, v4, v5, v6, v7, v8, v9, v10, v11, v12, v13, rfl, q1, R3⟩
      dsimp only
      refine s_ret (K := K) (d := .bl true) gd_b fun v H4 e4 hv => ?_
      cases hv
      exact k H4
end
end My

/-! CcGen: a for loop in a generator's body. -/
namespace CcGen
open PySem PySem.Spec PyProof.Rows GenW L2
section
variable {prog : Program} {w : World} {A : Around} {R : GenEnd} {Y : Protocol} {n : Nat} {s₀ : Shared} {c : Code} {fs : List Frame} {s : Shared} {env : Env}
  {K : Flow → Sem PySem.Fin} {J : Value → Sem PySem.Fin} {gd : Bool → Bool} {lv : List Value → List Value}
abbrev upE (env : Env) (e : Value) : Sem PySem.Fin := (do noteFrame e env; theTreesLotGoes e : Sem Unit).wrap (fun _ => .raise e) .raise id id
theorem upE_eq (env : Env) (e : Value) : ((do noteFrame e env; theTreesLotGoes e : Sem Unit).bind fun _ => (.raise e : Sem PySem.Fin)) = upE env e := Sem.bind_eq_wrap _ _
theorem seg_forLoop {target : Expr} {it : Value} {body : List Stmt}
    (h : wpAny (model prog w) (A.over (.forLoop target it body [] env) fs) (pyNext it) (fun r s1 => match r with
      | none => Seg (model prog w) A R Y n s₀ (.block [] env) (leafOf (.ok .next)) fs s1
      | some v => wpAny (model prog w) (A.over (.forLoop target it body [] env) fs) (letOwnedTupleGo target it v) (fun _ s2 =>
          wpAny (model prog w) (A.over (.forLoop target it body [] env) fs) (assign target env v) (fun _ s3 =>
            Seg (model prog w) A R Y n s₀ (.forLoop target it body [] env) ((execs body env).wrap (fun f => match f with
              | .next | .cont => .pure (.again (.forLoop target it body [] env))
              | .brk => .pure (.done .next)
              | .ret v => .pure (.done (.ret v))) (upE env) id id) fs s3)
          (fun x s' => Seg (model prog w) A R Y n s₀ (.forLoop target it body [] env) (upE env x) fs s') s2)
        (fun x s' => Seg (model prog w) A R Y n s₀ (.forLoop target it body [] env) (upE env x) fs s') s1)
      (fun x s' => Seg (model prog w) A R Y n s₀ (.forLoop target it body [] env) (upE env x) fs s') s) :
    Seg (model prog w) A R Y n s₀ (.forLoop target it body [] env) ((model prog w).den (.forLoop target it body [] env)) fs s := by
  show Seg _ A R Y n s₀ _ ((forTurn target it body [] env).onRaise (fun x => do noteFrame x env; theTreesLotGoes x)) fs s
  unfold forTurn
  rw [Sem.onRaise_eq_wrap]
  refine seg_bind_wrap (wpAny_standAt ?_)
  refine seg_bind_wrap (wpAny_onRaise (wpAny_mono h (fun r s1 h1 => ?_) fun x s' hx => wpAny_standAt ?_))
  · cases r with
    | none =>
      show Seg _ A R Y n s₀ _ (.pure (.again (.block [] env))) fs s1
      refine seg_again rfl ?_
      exact h1
    | some v =>
      refine seg_bind_wrap (wpAny_mono h1 (fun _ s2 h2 => ?_) fun x s' hx => ?_)
      · refine seg_bind_wrap (wpAny_mono h2 (fun _ s3 h3 => ?_) fun x s' hx => ?_)
        · rw [Sem.bind_eq_wrap', Sem.wrap_wrap]
          rw [Sem.wrap_congr (execs body env) _ _ (K' := fun f => match f with
            | .next | .cont => .pure (.again (.forLoop target it body [] env))
            | .brk => .pure (.done .next)
            | .ret v => .pure (.done (.ret v))) (H' := upE env)
            (fun f => by cases f <;> rfl) (fun e => by exact upE_eq env e)]
          exact h3
        · rw [upE_eq]; exact hx
      · rw [upE_eq]; exact hx
  · rw [upE_eq]; exact hx
end
section
variable {M : Model} {A : Around} {R : GenEnd} {Y : Protocol} {n : Nat} {s₀ : Shared} {c : Code} {fs : List Frame} {s : Shared} {env : Env}
  {K : Flow → Sem PySem.Fin} {J : Value → Sem PySem.Fin} {gd : Bool → Bool} {lv : List Value → List Value}
theorem seg_For {target iter : Expr} {body : List Stmt} {pos : Pos}
    (h : wpAny M (A.over c fs) (eval iter env) (fun x s1 => wpAny M (A.over c fs) (pyIter x) (fun it s2 =>
        ∀ p, Seg M A R Y n s₀ (.forLoop target it body [] env) (M.den (.forLoop target it body [] env))
          (.ret (fun r => ((match r with | .ok f => (.pure f : Sem Flow) | .error e => .raise e).onRaise (cameBack env)).wrap K J gd lv) none (gd false) (lv []) c p [] :: fs) s2)
        (fun x s' => Seg M A R Y n s₀ c (J x) fs s') s1) (fun x s' => Seg M A R Y n s₀ c (J x) fs s') s)
    (hs : ∀ x, foldedSetIterable iter env x = pure x) :
    Seg M A R Y n s₀ c ((exec (.For target iter body [] pos) env).wrap K J gd lv) fs s := by
  rw [exec_For]
  refine seg_bind_wrap (wpAny_standAt ?_)
  refine seg_bind_wrap (wpAny_mono h (fun x s1 h1 => ?_) fun _ _ hx => hx)
  refine seg_bind_wrap (wpAny_of_eq (hs x) ?_)
  refine seg_bind_wrap (wpAny_standAt ?_)
  refine seg_bind_wrap (wpAny_holding (wpAny_mono h1 (fun it s2 h2 => ?_) fun _ _ hx => hx))
  exact seg_call h2
end
section
variable {X : Cx} {tg : Expr}
def tGFor (wi : TI) (g : TG) (tb : TGn) : TGn := fun D ys σ H => wi σ H fun J H1 => ∃ W : Nat → Nat → List V → L2.St → Hp → Prop, (∃ m, W 0 m ys σ H1) ∧ ∀ i m ys σ H, W i m ys σ H →
  (J.stop i H ∧ D.nx ys σ H) ∨ (J.go i H ∧ ∃ N : List V → L2.St → Hp → Prop, (∀ ys' σ' H', N ys' σ' H' → ∃ m', m' < m ∧ W (i + 1) m' ys' σ' H') ∧ ∀ x H', J.yld i H x H' → g x σ H' fun σ2 H2 => tb { D with nx := N, ct := N, bk := D.nx } ys σ2 H2)
theorem gs_for {iter : Expr} {body : List Stmt} {wi : TI} {g : TG} {tb : TGn} {pos : Pos} (hp : PassesOwn (model X.prog X.w) X.A X.env X.xe) (hc : X.calm = true) (hi : PI X tg iter wi) (hg : PG X tg g) (hb : GSs X body tb)
    (hs : ∀ x, foldedSetIterable iter X.env x = pure x := by intro _; rfl) : GS X (.For tg iter body [] pos) (tGFor wi g tb) := by
  refine ⟨fun A S ip R n ys s₀ c fs K J gd lv s σ H D gc hn k hI ht => ?_⟩
  have hI0 := hI
  obtain ⟨acc, cc, r, I⟩ := hI
  refine seg_For ?_ hs
  rw [gc.over]
  refine wpAny_mono (hi.run _ s σ H _ I ht) (fun v s1 h1 => wpAny_mono h1 (fun itv s2 h2 => ?_) fun x s' hx => k.exc n s₀ x s' hx) fun x s' hx => k.exc n s₀ x s' hx
  obtain ⟨it, fp, tn, Jt, H2, e, I2, T, st2, f2, W, ⟨m0, w0⟩, turn⟩ := h2
  subst e
  intro p
  have gl := fun (kk : Result → Sem PySem.Fin) => gc_loop (k := kk) (c' := .forLoop tg (.ref it) body [] X.env) (l := lv []) (kp := []) (p := p) gc rfl rfl
  have glb := fun (kk : Result → Sem PySem.Fin) => gc_loop (k := kk) (c' := .block [] X.env) (l := lv []) (kp := []) (p := p) gc rfl rfl
  -- what stays true of the iterator's objects
  have stat : ∀ {H' : Hp} {o : Obj}, (∀ b ∈ fp, H' b = none) → ∀ b ∈ fp, FpOk X ((S, o) :: ip) H' b := fun {H' o} hn b hb => by
    obtain ⟨q0, q1, q2, q3, q4, q5⟩ := f2 b hb
    refine ⟨hn b hb, q1, q2, q3, q4, fun p hp => ?_⟩
    rcases List.mem_append.mp hp with z | z
    · exact q5 p (List.mem_append_left _ z)
    · rcases List.mem_cons.mp z with z | z
      · rw [z]; exact q5 (S, lstObj acc cc) (List.mem_append_right _ List.mem_cons_self)
      · exact q5 p (List.mem_append_right _ (List.mem_cons_of_mem _ z))
  have fpS : ∀ b ∈ fp, b ≠ S := fun b hb z => (f2 b hb).2.2.2.2.2 (S, lstObj acc cc) (List.mem_append_right _ List.mem_cons_self) z.symm
  have loop : ∀ (m i n : Nat) (ys : List V) (s₀ s : Shared) (σ : L2.St) (H : Hp), n + ys.length = sizeLine → W i m ys σ H → GI X S ip ys σ H s → tn i s.heap → (∀ b ∈ fp, H b = none) →
      Seg (model X.prog X.w) A R (GY X S) n s₀ (.forLoop tg (.ref it) body [] X.env) ((model X.prog X.w).den (.forLoop tg (.ref it) body [] X.env))
        (.ret (fun r => ((match r with | .ok f => (.pure f : Sem Flow) | .error e => .raise e).onRaise (cameBack X.env)).wrap K J gd lv) none (gd false) (lv []) c p [] :: fs) s := by
    intro m
    induction m using Nat.strongRecOn with
    | ind m ih =>
      intro i n ys s₀ s σ H hn w hI st fr
      have ee : ∀ (n : Nat) (s₀ : Shared) (x : Value) (s' : Shared), X.xe x s' → Seg (model X.prog X.w) A R (GY X S) n s₀ (.forLoop tg (.ref it) body [] X.env)
          (upE X.env x)
          (.ret (fun r => ((match r with | .ok f => (.pure f : Sem Flow) | .error e => .raise e).onRaise (cameBack X.env)).wrap K J gd lv) none (gd false) (lv []) c p [] :: fs) s' := fun n s₀ x s' hx => by
        refine seg_wrap ?_
        rw [(gl _).over]
        refine wpAny_bind (wpAny_mono (hp x s' hx) (fun _ s'' hcb => wpAny_theTreesLotGoes ?_) fun y s'' hcb => ?_)
        · exact seg_leaf (.error x) (seg_cameBack gc k hcb)
        · exact seg_leaf (.error y) (seg_cameBack gc k hcb)
      refine seg_forLoop ?_
      rw [(gl _).over]
      obtain ⟨acc, cc, r, I⟩ := hI
      rcases turn i m ys σ H w with ⟨stop, qn⟩ | ⟨go, N, hN, step⟩
      · refine wpAny_mono (T.done X rfl rfl rfl hc i _ s σ H X.xe I (stat fr) st stop) (fun r' s4 h4 => ?_) fun x s' hx => ee n s₀ x s' hx
        obtain ⟨hr, I4⟩ := h4
        subst hr
        exact seg_leaf (.ok .next) (k.ok n ys s₀ s4 .next hn ⟨σ, H, ⟨acc, cc, r, I4⟩, qn⟩)
      · refine wpAny_mono (T.item X rfl rfl rfl hc i _ s σ H X.xe I (stat fr) st go) (fun r' s4 h4 => ?_) fun x s' hx => ee n s₀ x s' hx
        obtain ⟨u, hr, h4⟩ := h4
        subst hr
        refine wpAny_mono h4 (fun _ s5 h5 => ?_) fun x s' hx => ee n s₀ x s' hx
        obtain ⟨x, H5, I5, r5, y5, st5, fr5⟩ := h5
        have I5' := I5.pinned (stat fr5) (T.obj _ _ st5)
        refine wpAny_mono (hg.run _ s5 σ H5 x u _ I5' r5 (step x H5 y5)) (fun _ s6 h6 => ?_) fun x s' hx => ee n s₀ x s' hx
        obtain ⟨σ6, H6, I6, q6⟩ := h6
        have gip : ∀ q ∈ ip ++ pinsAt fp s5.heap, q.1 ≠ S := fun q hq => (List.mem_append.mp hq).elim (fun z => gc.ip q z) fun z => fpS q.1 (of_pinsAt z).1
        have gb : ∀ kk, GC X S (ip ++ pinsAt fp s5.heap) A (.forLoop tg (.ref it) body [] X.env) (.ret kk none (gd false) (lv []) c p [] :: fs) id := fun kk => ⟨(gl kk).pn, gip, (gl kk).apart, (gl kk).over, (gl kk).split, (gl kk).guard, (gl kk).gd⟩
        have again : ∀ (n' : Nat) (ys' : List V) (s₀' s7 : Shared) (σ7 : L2.St) (H7 : Hp), n' + ys'.length = sizeLine → GI X S (ip ++ pinsAt fp s5.heap) ys' σ7 H7 s7 → N ys' σ7 H7 →
            Seg (model X.prog X.w) A R (GY X S) n' s₀' (.forLoop tg (.ref it) body [] X.env) (.pure (.again (.forLoop tg (.ref it) body [] X.env)))
              (.ret (fun r => ((match r with | .ok f => (.pure f : Sem Flow) | .error e => .raise e).onRaise (cameBack X.env)).wrap K J gd lv) none (gd false) (lv []) c p [] :: fs) s7 := fun n' ys' s₀' s7 σ7 H7 hn' hG n7 => by
          obtain ⟨m', hm, w7⟩ := hN ys' σ7 H7 n7
          obtain ⟨acc7, cc7, r7, I7⟩ := hG
          have I7' : Inv X (((S, lstObj acc7 cc7) :: ip) ++ pinsAt fp s5.heap) σ7 H7 s7 := I7
          refine seg_again rfl (ih m' hm (i + 1) n' ys' s₀' s7 σ7 H7 hn' w7 ⟨acc7, cc7, r7, I7'.unpinned⟩ (T.keep _ _ _ st5 fun b hb o e => (I7'.pin (b, o) (List.mem_append_right _ (List.mem_append_right _ (mem_pinsAt hb e)))).1) fun b hb => ?_)
          obtain ⟨o, e, d⟩ := T.obj _ _ st5 b hb
          exact (I7'.pin (b, o) (List.mem_append_right _ (List.mem_append_right _ (mem_pinsAt hb e)))).2.1
        have back : ∀ {ys' : List V} {σ7 : L2.St} {H7 : Hp} {s7 : Shared}, GI X S (ip ++ pinsAt fp s5.heap) ys' σ7 H7 s7 → GI X S ip ys' σ7 H7 s7 := fun {ys' σ7 H7 s7} hG => by
          obtain ⟨acc7, cc7, r7, I7⟩ := hG
          have I7' : Inv X (((S, lstObj acc7 cc7) :: ip) ++ pinsAt fp s5.heap) σ7 H7 s7 := I7
          exact ⟨acc7, cc7, r7, I7'.unpinned⟩
        refine hb.run A S (ip ++ pinsAt fp s5.heap) R n ys s₀ _ _ _ _ id id s6 σ6 H6 { D with nx := N, ct := N, bk := D.nx } (gb _) hn ⟨fun n' ys' s₀' s7 f hn' hs7 => ?_, fun n' s₀' x s7 hx => ee n' s₀' x s7 hx⟩ ⟨acc, cc, r, I6⟩ q6
        cases f with
        | next =>
          obtain ⟨σ7, H7, G7, n7⟩ := hs7
          exact again n' ys' s₀' s7 σ7 H7 hn' G7 n7
        | cont =>
          obtain ⟨σ7, H7, G7, n7⟩ := hs7
          exact again n' ys' s₀' s7 σ7 H7 hn' G7 n7
        | brk =>
          obtain ⟨σ7, H7, G7, n7⟩ := hs7
          exact seg_leaf (.ok .next) (k.ok n' ys' s₀' s7 .next hn' ⟨σ7, H7, back G7, n7⟩)
        | ret u =>
          obtain ⟨v7, σ7, H7, G7, r7, n7⟩ := hs7
          exact seg_leaf (.ok (.ret u)) (k.ok n' ys' s₀' s7 (.ret u) hn' ⟨v7, σ7, H7, back G7, r7, n7⟩)
  exact loop m0 0 n ys s₀ s2 σ H2 hn w0 ⟨acc, cc, r, I2⟩ st2 fun b hb => (f2 b hb).1
end
end CcGen

namespace My
open PySem L2 RZ Cc CcGen PyProof.Rows
abbrev pwK : Program := PySem.Challenge.pw_coldcrates_k31_warmth_hour_by_hour
theorem all_mk {w : World} {K : Fg} {h : Heap} {mg : Str → Option Value} {fa : Addr} (X : K.In h) (G : h.Ns mainGlobals mg) (hfa : mg "law" = some (.ref fa))
    {C CE : Addr}
    {oc_is_number kV_is_number dc_is_number pm_is_number ct_is_number cd_is_number : Value}
    {od_is_number an_is_number : Option Addr}
    {sl_is_number : Array (Option Value)}
    {f_is_number : Addr}
    {oc_is_word kV_is_word dc_is_word pm_is_word ct_is_word cd_is_word : Value}
    {od_is_word an_is_word : Option Addr}
    {sl_is_word : Array (Option Value)}
    {f_is_word : Addr}
    {oc_is_door kV_is_door dc_is_door pm_is_door ct_is_door cd_is_door : Value}
    {od_is_door an_is_door : Option Addr}
    {sl_is_door : Array (Option Value)}
    {f_is_door : Addr}
    {oc_doors_fit kV_doors_fit dc_doors_fit pm_doors_fit ct_doors_fit cd_doors_fit : Value}
    {od_doors_fit an_doors_fit : Option Addr}
    {sl_doors_fit : Array (Option Value)}
    {f_doors_fit : Addr}
    {oc_crates_fit kV_crates_fit dc_crates_fit pm_crates_fit ct_crates_fit cd_crates_fit : Value}
    {od_crates_fit an_crates_fit : Option Addr}
    {sl_crates_fit : Array (Option Value)}
    {f_crates_fit : Addr}
    {oc_places_behind kV_places_behind dc_places_behind pm_places_behind ct_places_behind cd_places_behind : Value}
    {od_places_behind an_places_behind : Option Addr}
    {sl_places_behind : Array (Option Value)}
    {f_places_behind : Addr}
    {oc_has_door kV_has_door dc_has_door pm_has_door ct_has_door cd_has_door : Value}
    {od_has_door an_has_door : Option Addr}
    {sl_has_door : Array (Option Value)}
    {f_has_door : Addr}
    {oc_check_number kV_check_number dc_check_number pm_check_number ct_check_number cd_check_number : Value}
    {od_check_number an_check_number : Option Addr}
    {sl_check_number : Array (Option Value)}
    {f_check_number : Addr}
    {oc_check_day kV_check_day dc_check_day pm_check_day ct_check_day cd_check_day : Value}
    {od_check_day an_check_day : Option Addr}
    {sl_check_day : Array (Option Value)}
    {f_check_day : Addr}
    {oc_warmth_of kV_warmth_of dc_warmth_of pm_warmth_of ct_warmth_of cd_warmth_of : Value}
    {od_warmth_of an_warmth_of : Option Addr}
    {sl_warmth_of : Array (Option Value)}
    {f_warmth_of : Addr}
    {oc_all_cold kV_all_cold dc_all_cold pm_all_cold ct_all_cold cd_all_cold : Value}
    {od_all_cold an_all_cold : Option Addr}
    {sl_all_cold : Array (Option Value)}
    {f_all_cold : Addr}
    {oc_cooled kV_cooled dc_cooled pm_cooled ct_cooled cd_cooled : Value}
    {od_cooled an_cooled : Option Addr}
    {sl_cooled : Array (Option Value)}
    {f_cooled : Addr}
    {oc_risen kV_risen dc_risen pm_risen ct_risen cd_risen : Value}
    {od_risen an_risen : Option Addr}
    {sl_risen : Array (Option Value)}
    {f_risen : Addr}
    {oc_behind_hours kV_behind_hours dc_behind_hours pm_behind_hours ct_behind_hours cd_behind_hours : Value}
    {od_behind_hours an_behind_hours : Option Addr}
    {sl_behind_hours : Array (Option Value)}
    {f_behind_hours : Addr}
    {oc_behind_days kV_behind_days dc_behind_days pm_behind_days ct_behind_days cd_behind_days : Value}
    {od_behind_days an_behind_days : Option Addr}
    {sl_behind_days : Array (Option Value)}
    {f_behind_days : Addr}
    {oc_warmths kV_warmths dc_warmths pm_warmths ct_warmths cd_warmths : Value}
    {od_warmths an_warmths : Option Addr}
    {sl_warmths : Array (Option Value)}
    {f_warmths : Addr}
    {oc_heights_in kV_heights_in dc_heights_in pm_heights_in ct_heights_in cd_heights_in : Value}
    {od_heights_in an_heights_in : Option Addr}
    {sl_heights_in : Array (Option Value)}
    {f_heights_in : Addr}
    {oc_days_until kV_days_until dc_days_until pm_days_until ct_days_until cd_days_until : Value}
    {od_days_until an_days_until : Option Addr}
    {sl_days_until : Array (Option Value)}
    {f_days_until : Addr}
    {oc_first_thaw kV_first_thaw dc_first_thaw pm_first_thaw ct_first_thaw cd_first_thaw : Value}
    {od_first_thaw an_first_thaw : Option Addr}
    {sl_first_thaw : Array (Option Value)}
    {f_first_thaw : Addr}
    {oc__law_taken kV__law_taken dc__law_taken pm__law_taken ct__law_taken cd__law_taken : Value}
    {od__law_taken an__law_taken : Option Addr}
    {sl__law_taken : Array (Option Value)}
    {f__law_taken : Addr}
    {oc__law_store kV__law_store dc__law_store pm__law_store ct__law_store cd__law_store : Value}
    {od__law_store an__law_store : Option Addr}
    {sl__law_store : Array (Option Value)}
    {f__law_store : Addr}
    {oc__law_day kV__law_day dc__law_day pm__law_day ct__law_day cd__law_day : Value}
    {od__law_day an__law_day : Option Addr}
    {sl__law_day : Array (Option Value)}
    {f__law_day : Addr}
    {oc__law_hours kV__law_hours dc__law_hours pm__law_hours ct__law_hours cd__law_hours : Value}
    {od__law_hours an__law_hours : Option Addr}
    {sl__law_hours : Array (Option Value)}
    {f__law_hours : Addr}
    {oc__law_first kV__law_first dc__law_first pm__law_first ct__law_first cd__law_first : Value}
    {od__law_first an__law_first : Option Addr}
    {sl__law_first : Array (Option Value)}
    {f__law_first : Addr}
    {oc_law kV_law dc_law pm_law ct_law cd_law : Value}
    {od_law an_law : Option Addr}
    {sl_law : Array (Option Value)}
    {f_law : Addr}
    {oc_m__init__ kV_m__init__ dc_m__init__ pm_m__init__ ct_m__init__ cd_m__init__ : Value}
    {od_m__init__ an_m__init__ : Option Addr}
    {sl_m__init__ : Array (Option Value)}
    {f_m__init__ : Addr}
    {oc_m__len__ kV_m__len__ dc_m__len__ pm_m__len__ ct_m__len__ cd_m__len__ : Value}
    {od_m__len__ an_m__len__ : Option Addr}
    {sl_m__len__ : Array (Option Value)}
    {f_m__len__ : Addr}
    {p_pdoors : Addr}
    {r_pdoors : List Value}
    {oc_pdoors kV_pdoors dc_pdoors pm_pdoors ct_pdoors cd_pdoors : Value}
    {od_pdoors an_pdoors : Option Addr}
    {sl_pdoors : Array (Option Value)}
    {f_pdoors : Addr}
    {e_InvalidStore : Addr}
    {nm_InvalidStore qn_InvalidStore : Str}
    {N_InvalidStore : Addr}
    {bs_InvalidStore sub_InvalidStore : List Value}
    {sn_InvalidStore : List Str}
    {ab_InvalidStore : Bool}
    {col_InvalidStore : Option Bool}
    {dd_InvalidStore : Option Addr}
    {k0_InvalidStore k1_InvalidStore k2_InvalidStore k3_InvalidStore k5_InvalidStore : Option Value}
    {fI_InvalidStore cda_InvalidStore ccI_InvalidStore : Addr}
    {ocI_InvalidStore dcI_InvalidStore pmI_InvalidStore ctI_InvalidStore cclI_InvalidStore clI_InvalidStore : Value}
    {odI_InvalidStore anI_InvalidStore cddI_InvalidStore cldI_InvalidStore : Option Addr}
    {slI_InvalidStore ccsI_InvalidStore cslI_InvalidStore : Array (Option Value)}
    {vsI_InvalidStore : Array Value}
    {fileI_InvalidStore : Str}
    {tfI_InvalidStore : Tok}
    {t_LETTERS : Tok}
    {t_LONGEST_WORD : Tok}
    {t_MOST_DOORS : Tok}
    {t_MOST_WARMTH : Tok}
    {t_MOST_BEHIND : Tok}
    {t_MOST_PLACES : Tok}
    {t_MOST_CRATES : Tok}
    {t_MOST_COOLING : Tok}
    {t_MOST_HOURS : Tok}
    {t_FAR : Tok}
    (a_is_number : PySem.W.nsIn K mainGlobals "is_number" = some (some (.ref f_is_number)))
    (l_is_number : K.lookup f_is_number = some ⟨oc_is_number, od_is_number, .func (PySem.W.fnOf "is_number" "is_number" (defArgs s_is_number) (defBody s_is_number) (defScope s_is_number) .none kV_is_number dc_is_number pm_is_number an_is_number cd_is_number ct_is_number), sl_is_number⟩)
    (c_is_number : PySem.W.codeIn K cd_is_number "is_number" = true)
    (k_is_number : PySem.W.keepIn K (.ref f_is_number) = true)
    (a_is_word : PySem.W.nsIn K mainGlobals "is_word" = some (some (.ref f_is_word)))
    (l_is_word : K.lookup f_is_word = some ⟨oc_is_word, od_is_word, .func (PySem.W.fnOf "is_word" "is_word" (defArgs s_is_word) (defBody s_is_word) (defScope s_is_word) .none kV_is_word dc_is_word pm_is_word an_is_word cd_is_word ct_is_word), sl_is_word⟩)
    (c_is_word : PySem.W.codeIn K cd_is_word "is_word" = true)
    (k_is_word : PySem.W.keepIn K (.ref f_is_word) = true)
    (a_is_door : PySem.W.nsIn K mainGlobals "is_door" = some (some (.ref f_is_door)))
    (l_is_door : K.lookup f_is_door = some ⟨oc_is_door, od_is_door, .func (PySem.W.fnOf "is_door" "is_door" (defArgs s_is_door) (defBody s_is_door) (defScope s_is_door) .none kV_is_door dc_is_door pm_is_door an_is_door cd_is_door ct_is_door), sl_is_door⟩)
    (c_is_door : PySem.W.codeIn K cd_is_door "is_door" = true)
    (k_is_door : PySem.W.keepIn K (.ref f_is_door) = true)
    (a_doors_fit : PySem.W.nsIn K mainGlobals "doors_fit" = some (some (.ref f_doors_fit)))
    (l_doors_fit : K.lookup f_doors_fit = some ⟨oc_doors_fit, od_doors_fit, .func (PySem.W.fnOf "doors_fit" "doors_fit" (defArgs s_doors_fit) (defBody s_doors_fit) (defScope s_doors_fit) .none kV_doors_fit dc_doors_fit pm_doors_fit an_doors_fit cd_doors_fit ct_doors_fit), sl_doors_fit⟩)
    (c_doors_fit : PySem.W.codeIn K cd_doors_fit "doors_fit" = true)
    (k_doors_fit : PySem.W.keepIn K (.ref f_doors_fit) = true)
    (a_crates_fit : PySem.W.nsIn K mainGlobals "crates_fit" = some (some (.ref f_crates_fit)))
    (l_crates_fit : K.lookup f_crates_fit = some ⟨oc_crates_fit, od_crates_fit, .func (PySem.W.fnOf "crates_fit" "crates_fit" (defArgs s_crates_fit) (defBody s_crates_fit) (defScope s_crates_fit) .none kV_crates_fit dc_crates_fit pm_crates_fit an_crates_fit cd_crates_fit ct_crates_fit), sl_crates_fit⟩)
    (c_crates_fit : PySem.W.codeIn K cd_crates_fit "crates_fit" = true)
    (k_crates_fit : PySem.W.keepIn K (.ref f_crates_fit) = true)
    (a_places_behind : PySem.W.nsIn K mainGlobals "places_behind" = some (some (.ref f_places_behind)))
    (l_places_behind : K.lookup f_places_behind = some ⟨oc_places_behind, od_places_behind, .func (PySem.W.fnOf "places_behind" "places_behind" (defArgs s_places_behind) (defBody s_places_behind) (defScope s_places_behind) .none kV_places_behind dc_places_behind pm_places_behind an_places_behind cd_places_behind ct_places_behind), sl_places_behind⟩)
    (c_places_behind : PySem.W.codeIn K cd_places_behind "places_behind" = true)
    (k_places_behind : PySem.W.keepIn K (.ref f_places_behind) = true)
    (a_has_door : PySem.W.nsIn K mainGlobals "has_door" = some (some (.ref f_has_door)))
    (l_has_door : K.lookup f_has_door = some ⟨oc_has_door, od_has_door, .func (PySem.W.fnOf "has_door" "has_door" (defArgs s_has_door) (defBody s_has_door) (defScope s_has_door) .none kV_has_door dc_has_door pm_has_door an_has_door cd_has_door ct_has_door), sl_has_door⟩)
    (c_has_door : PySem.W.codeIn K cd_has_door "has_door" = true)
    (k_has_door : PySem.W.keepIn K (.ref f_has_door) = true)
    (a_check_number : PySem.W.nsIn K mainGlobals "check_number" = some (some (.ref f_check_number)))
    (l_check_number : K.lookup f_check_number = some ⟨oc_check_number, od_check_number, .func (PySem.W.fnOf "check_number" "check_number" (defArgs s_check_number) (defBody s_check_number) (defScope s_check_number) .none kV_check_number dc_check_number pm_check_number an_check_number cd_check_number ct_check_number), sl_check_number⟩)
    (c_check_number : PySem.W.codeIn K cd_check_number "check_number" = true)
    (k_check_number : PySem.W.keepIn K (.ref f_check_number) = true)
    (a_check_day : PySem.W.nsIn K mainGlobals "check_day" = some (some (.ref f_check_day)))
    (l_check_day : K.lookup f_check_day = some ⟨oc_check_day, od_check_day, .func (PySem.W.fnOf "check_day" "check_day" (defArgs s_check_day) (defBody s_check_day) (defScope s_check_day) .none kV_check_day dc_check_day pm_check_day an_check_day cd_check_day ct_check_day), sl_check_day⟩)
    (c_check_day : PySem.W.codeIn K cd_check_day "check_day" = true)
    (k_check_day : PySem.W.keepIn K (.ref f_check_day) = true)
    (a_warmth_of : PySem.W.nsIn K mainGlobals "warmth_of" = some (some (.ref f_warmth_of)))
    (l_warmth_of : K.lookup f_warmth_of = some ⟨oc_warmth_of, od_warmth_of, .func (PySem.W.fnOf "warmth_of" "warmth_of" (defArgs s_warmth_of) (defBody s_warmth_of) (defScope s_warmth_of) .none kV_warmth_of dc_warmth_of pm_warmth_of an_warmth_of cd_warmth_of ct_warmth_of), sl_warmth_of⟩)
    (c_warmth_of : PySem.W.codeIn K cd_warmth_of "warmth_of" = true)
    (k_warmth_of : PySem.W.keepIn K (.ref f_warmth_of) = true)
    (a_all_cold : PySem.W.nsIn K mainGlobals "all_cold" = some (some (.ref f_all_cold)))
    (l_all_cold : K.lookup f_all_cold = some ⟨oc_all_cold, od_all_cold, .func (PySem.W.fnOf "all_cold" "all_cold" (defArgs s_all_cold) (defBody s_all_cold) (defScope s_all_cold) .none kV_all_cold dc_all_cold pm_all_cold an_all_cold cd_all_cold ct_all_cold), sl_all_cold⟩)
    (c_all_cold : PySem.W.codeIn K cd_all_cold "all_cold" = true)
    (k_all_cold : PySem.W.keepIn K (.ref f_all_cold) = true)
    (a_cooled : PySem.W.nsIn K mainGlobals "cooled" = some (some (.ref f_cooled)))
    (l_cooled : K.lookup f_cooled = some ⟨oc_cooled, od_cooled, .func (PySem.W.fnOf "cooled" "cooled" (defArgs s_cooled) (defBody s_cooled) (defScope s_cooled) .none kV_cooled dc_cooled pm_cooled an_cooled cd_cooled ct_cooled), sl_cooled⟩)
    (c_cooled : PySem.W.codeIn K cd_cooled "cooled" = true)
    (k_cooled : PySem.W.keepIn K (.ref f_cooled) = true)
    (a_risen : PySem.W.nsIn K mainGlobals "risen" = some (some (.ref f_risen)))
    (l_risen : K.lookup f_risen = some ⟨oc_risen, od_risen, .func (PySem.W.fnOf "risen" "risen" (defArgs s_risen) (defBody s_risen) (defScope s_risen) .none kV_risen dc_risen pm_risen an_risen cd_risen ct_risen), sl_risen⟩)
    (c_risen : PySem.W.codeIn K cd_risen "risen" = true)
    (k_risen : PySem.W.keepIn K (.ref f_risen) = true)
    (a_behind_hours : PySem.W.nsIn K mainGlobals "behind_hours" = some (some (.ref f_behind_hours)))
    (l_behind_hours : K.lookup f_behind_hours = some ⟨oc_behind_hours, od_behind_hours, .func (PySem.W.fnOf "behind_hours" "behind_hours" (defArgs s_behind_hours) (defBody s_behind_hours) (defScope s_behind_hours) .none kV_behind_hours dc_behind_hours pm_behind_hours an_behind_hours cd_behind_hours ct_behind_hours), sl_behind_hours⟩)
    (c_behind_hours : PySem.W.codeIn K cd_behind_hours "behind_hours" = true)
    (k_behind_hours : PySem.W.keepIn K (.ref f_behind_hours) = true)
    (a_behind_days : PySem.W.nsIn K mainGlobals "behind_days" = some (some (.ref f_behind_days)))
    (l_behind_days : K.lookup f_behind_days = some ⟨oc_behind_days, od_behind_days, .func (PySem.W.fnOf "behind_days" "behind_days" (defArgs s_behind_days) (defBody s_behind_days) (defScope s_behind_days) .none kV_behind_days dc_behind_days pm_behind_days an_behind_days cd_behind_days ct_behind_days), sl_behind_days⟩)
    (c_behind_days : PySem.W.codeIn K cd_behind_days "behind_days" = true)
    (k_behind_days : PySem.W.keepIn K (.ref f_behind_days) = true)
    (a_warmths : PySem.W.nsIn K mainGlobals "warmths" = some (some (.ref f_warmths)))
    (l_warmths : K.lookup f_warmths = some ⟨oc_warmths, od_warmths, .func (PySem.W.fnOf "warmths" "warmths" (defArgs s_warmths) (defBody s_warmths) (defScope s_warmths) .none kV_warmths dc_warmths pm_warmths an_warmths cd_warmths ct_warmths), sl_warmths⟩)
    (c_warmths : PySem.W.codeIn K cd_warmths "warmths" = true)
    (k_warmths : PySem.W.keepIn K (.ref f_warmths) = true)
    (a_heights_in : PySem.W.nsIn K mainGlobals "heights_in" = some (some (.ref f_heights_in)))
    (l_heights_in : K.lookup f_heights_in = some ⟨oc_heights_in, od_heights_in, .func (PySem.W.fnOf "heights_in" "heights_in" (defArgs s_heights_in) (defBody s_heights_in) (defScope s_heights_in) .none kV_heights_in dc_heights_in pm_heights_in an_heights_in cd_heights_in ct_heights_in), sl_heights_in⟩)
    (c_heights_in : PySem.W.codeIn K cd_heights_in "heights_in" = true)
    (k_heights_in : PySem.W.keepIn K (.ref f_heights_in) = true)
    (a_days_until : PySem.W.nsIn K mainGlobals "days_until" = some (some (.ref f_days_until)))
    (l_days_until : K.lookup f_days_until = some ⟨oc_days_until, od_days_until, .func (PySem.W.fnOf "days_until" "days_until" (defArgs s_days_until) (defBody s_days_until) (defScope s_days_until) .none kV_days_until dc_days_until pm_days_until an_days_until cd_days_until ct_days_until), sl_days_until⟩)
    (c_days_until : PySem.W.codeIn K cd_days_until "days_until" = true)
    (k_days_until : PySem.W.keepIn K (.ref f_days_until) = true)
    (a_first_thaw : PySem.W.nsIn K mainGlobals "first_thaw" = some (some (.ref f_first_thaw)))
    (l_first_thaw : K.lookup f_first_thaw = some ⟨oc_first_thaw, od_first_thaw, .func (PySem.W.fnOf "first_thaw" "first_thaw" (defArgs s_first_thaw) (defBody s_first_thaw) (defScope s_first_thaw) .none kV_first_thaw dc_first_thaw pm_first_thaw an_first_thaw cd_first_thaw ct_first_thaw), sl_first_thaw⟩)
    (c_first_thaw : PySem.W.codeIn K cd_first_thaw "first_thaw" = true)
    (k_first_thaw : PySem.W.keepIn K (.ref f_first_thaw) = true)
    (a__law_taken : PySem.W.nsIn K mainGlobals "_law_taken" = some (some (.ref f__law_taken)))
    (l__law_taken : K.lookup f__law_taken = some ⟨oc__law_taken, od__law_taken, .func (PySem.W.fnOf "_law_taken" "_law_taken" (defArgs s__law_taken) (defBody s__law_taken) (defScope s__law_taken) .none kV__law_taken dc__law_taken pm__law_taken an__law_taken cd__law_taken ct__law_taken), sl__law_taken⟩)
    (c__law_taken : PySem.W.codeIn K cd__law_taken "_law_taken" = true)
    (k__law_taken : PySem.W.keepIn K (.ref f__law_taken) = true)
    (a__law_store : PySem.W.nsIn K mainGlobals "_law_store" = some (some (.ref f__law_store)))
    (l__law_store : K.lookup f__law_store = some ⟨oc__law_store, od__law_store, .func (PySem.W.fnOf "_law_store" "_law_store" (defArgs s__law_store) (defBody s__law_store) (defScope s__law_store) .none kV__law_store dc__law_store pm__law_store an__law_store cd__law_store ct__law_store), sl__law_store⟩)
    (c__law_store : PySem.W.codeIn K cd__law_store "_law_store" = true)
    (k__law_store : PySem.W.keepIn K (.ref f__law_store) = true)
    (a__law_day : PySem.W.nsIn K mainGlobals "_law_day" = some (some (.ref f__law_day)))
    (l__law_day : K.lookup f__law_day = some ⟨oc__law_day, od__law_day, .func (PySem.W.fnOf "_law_day" "_law_day" (defArgs s__law_day) (defBody s__law_day) (defScope s__law_day) .none kV__law_day dc__law_day pm__law_day an__law_day cd__law_day ct__law_day), sl__law_day⟩)
    (c__law_day : PySem.W.codeIn K cd__law_day "_law_day" = true)
    (k__law_day : PySem.W.keepIn K (.ref f__law_day) = true)
    (a__law_hours : PySem.W.nsIn K mainGlobals "_law_hours" = some (some (.ref f__law_hours)))
    (l__law_hours : K.lookup f__law_hours = some ⟨oc__law_hours, od__law_hours, .func (PySem.W.fnOf "_law_hours" "_law_hours" (defArgs s__law_hours) (defBody s__law_hours) (defScope s__law_hours) .none kV__law_hours dc__law_hours pm__law_hours an__law_hours cd__law_hours ct__law_hours), sl__law_hours⟩)
    (c__law_hours : PySem.W.codeIn K cd__law_hours "_law_hours" = true)
    (k__law_hours : PySem.W.keepIn K (.ref f__law_hours) = true)
    (a__law_first : PySem.W.nsIn K mainGlobals "_law_first" = some (some (.ref f__law_first)))
    (l__law_first : K.lookup f__law_first = some ⟨oc__law_first, od__law_first, .func (PySem.W.fnOf "_law_first" "_law_first" (defArgs s__law_first) (defBody s__law_first) (defScope s__law_first) .none kV__law_first dc__law_first pm__law_first an__law_first cd__law_first ct__law_first), sl__law_first⟩)
    (c__law_first : PySem.W.codeIn K cd__law_first "_law_first" = true)
    (k__law_first : PySem.W.keepIn K (.ref f__law_first) = true)
    (a_law : PySem.W.nsIn K mainGlobals "law" = some (some (.ref f_law)))
    (l_law : K.lookup f_law = some ⟨oc_law, od_law, .func (PySem.W.fnOf "law" "law" (defArgs s_law) (defBody s_law) (defScope s_law) .none kV_law dc_law pm_law an_law cd_law ct_law), sl_law⟩)
    (c_law : PySem.W.codeIn K cd_law "law" = true)
    (k_law : PySem.W.keepIn K (.ref f_law) = true)
    (a_Store : PySem.W.nsIn K mainGlobals "Store" = some (some (.ref C)))
    (a_m__init__ : PySem.W.findIn K (.ref C) "__init__" = some (some (.ref f_m__init__)))
    (i_m__init__ : PySem.W.isFn K (.ref f_m__init__) = true)
    (l_m__init__ : K.lookup f_m__init__ = some ⟨oc_m__init__, od_m__init__, .func (PySem.W.fnOf "__init__" "Store.__init__" (defArgs s_Store___init__) (defBody s_Store___init__) (defScope s_Store___init__) .none kV_m__init__ dc_m__init__ pm_m__init__ an_m__init__ cd_m__init__ ct_m__init__), sl_m__init__⟩)
    (c_m__init__ : PySem.W.codeIn K cd_m__init__ "Store.__init__" = true)
    (k_m__init__ : PySem.W.keepIn K (.ref f_m__init__) = true)
    (a_m__len__ : PySem.W.findIn K (.ref C) "__len__" = some (some (.ref f_m__len__)))
    (i_m__len__ : PySem.W.isFn K (.ref f_m__len__) = true)
    (l_m__len__ : K.lookup f_m__len__ = some ⟨oc_m__len__, od_m__len__, .func (PySem.W.fnOf "__len__" "Store.__len__" (defArgs s_Store___len__) (defBody s_Store___len__) (defScope s_Store___len__) .none kV_m__len__ dc_m__len__ pm_m__len__ an_m__len__ cd_m__len__ ct_m__len__), sl_m__len__⟩)
    (c_m__len__ : PySem.W.codeIn K cd_m__len__ "Store.__len__" = true)
    (k_m__len__ : PySem.W.keepIn K (.ref f_m__len__) = true)
    (a_pdoors : PySem.W.findIn K (.ref C) "doors" = some (some (.ref p_pdoors)))
    (g_pdoors : PySem.W.specialIn K (.ref p_pdoors) "__get__" = some (some (.builtin "property.__get__")))
    (t_pdoors : PySem.W.takesIn K (.ref p_pdoors) = some true)
    (e_pdoors : PySem.W.recIn K p_pdoors "property" = some (.ref f_pdoors :: r_pdoors))
    (l_pdoors : K.lookup f_pdoors = some ⟨oc_pdoors, od_pdoors, .func (PySem.W.fnOf "doors" "Store.doors" (defArgs s_Store_doors) (defBody s_Store_doors) (defScope s_Store_doors) .none kV_pdoors dc_pdoors pm_pdoors an_pdoors cd_pdoors ct_pdoors), sl_pdoors⟩)
    (c_pdoors : PySem.W.codeIn K cd_pdoors "Store.doors" = true)
    (k_pdoors : PySem.W.keepIn K (.ref f_pdoors) = true)
    (s_pg : PySem.W.plainGet K C Str.empty = true)
    (s_hd : PySem.W.hasDictIn K C = true)
    (s_po : PySem.W.plainOver K C = true)
    (s_sa : PySem.W.findIn K (.ref C) "__setattr__" = some (some (.builtin "object.__setattr__")))
    (s_mk : PySem.W.makesIn K C = true)
    (s_kc : PySem.W.keepIn K (.ref C) = true)
    (s_nplaces : PySem.W.findIn K (.ref C) "_places" = some none)
    (s_nsize : PySem.W.findIn K (.ref C) "_size" = some none)
    (s_ndoors : PySem.W.findIn K (.ref C) "_doors" = some none)
    (s_ncrates : PySem.W.findIn K (.ref C) "_crates" = some none)
    (a_InvalidStore : PySem.W.nsIn K mainGlobals "InvalidStore" = some (some (.ref e_InvalidStore)))
    (ob_InvalidStore : K.lookup e_InvalidStore = some (excClassObj nm_InvalidStore qn_InvalidStore e_InvalidStore N_InvalidStore bs_InvalidStore [.ref CE, .type "ValueError", .type "Exception", .type "BaseException", .type "object"] true sn_InvalidStore sub_InvalidStore ab_InvalidStore col_InvalidStore dd_InvalidStore k0_InvalidStore k1_InvalidStore k2_InvalidStore k3_InvalidStore k5_InvalidStore "ValueError.__new__"))
    (sa_InvalidStore : PySem.W.findIn K (.ref e_InvalidStore) "__setattr__" = some (some (.builtin "object.__setattr__")))
    (iC_InvalidStore : PySem.W.findIn K (.ref e_InvalidStore) "__init__" = some (some (.ref fI_InvalidStore)))
    (tC_InvalidStore : PySem.W.typeIn K (.ref fI_InvalidStore) = some (.type "function"))
    (ve_InvalidStore : PySem.W.subIn K (.ref e_InvalidStore) (.type "ValueError") = some true)
    (slf_InvalidStore : PySem.W.mroIn K e_InvalidStore (.ref e_InvalidStore) = some true)
    (op_InvalidStore : PySem.W.nsIn K cStatics "thirdparty.any" = some none)
    (al_InvalidStore : PySem.W.ks_superIn K e_InvalidStore e_InvalidStore "__init__" = some (some (.builtin "ValueError.__init__")))
    (li_InvalidStore : K.lookup fI_InvalidStore = some ⟨ocI_InvalidStore, odI_InvalidStore, .func (PySem.W.ksFn "__init__" "InvalidStore.__init__" (defArgs s_InvalidStore___init__) (defBody s_InvalidStore___init__) (defScope s_InvalidStore___init__) .none .none dcI_InvalidStore pmI_InvalidStore anI_InvalidStore (.ref cda_InvalidStore) ctI_InvalidStore ccI_InvalidStore), slI_InvalidStore⟩)
    (ci_InvalidStore : PySem.W.codeIn K (.ref cda_InvalidStore) "InvalidStore.__init__" = true)
    (cd_InvalidStore : K.lookup cda_InvalidStore = some ⟨cclI_InvalidStore, cddI_InvalidStore, .fields vsI_InvalidStore, ccsI_InvalidStore⟩)
    (v2_InvalidStore : vsI_InvalidStore[2]? = some (.str fileI_InvalidStore tfI_InvalidStore))
    (fi_InvalidStore : ((PySem.Challenge.pw_coldcrates_k31_warmth_hour_by_hour.main.file : Str) == fileI_InvalidStore) = true)
    (cc_InvalidStore : K.lookup ccI_InvalidStore = some ⟨clI_InvalidStore, cldI_InvalidStore, .cell (some (.ref e_InvalidStore)), cslI_InvalidStore⟩)
    (no_InvalidStore : PySem.W.findIn K (.ref e_InvalidStore) "part" = some none)
    (kC_InvalidStore : PySem.W.keepIn K (.ref e_InvalidStore) = true)
    (exC_InvalidStore : PySem.W.subIn K (.ref e_InvalidStore) (.type "BaseException") = some true)
    (tyC_InvalidStore : PySem.W.typeIn K (.ref e_InvalidStore) = some (.type "type"))
    (z_isinstance : PySem.W.nsIn K mainGlobals "isinstance" = some none)
    (z_int : PySem.W.nsIn K mainGlobals "int" = some none)
    (z_bool : PySem.W.nsIn K mainGlobals "bool" = some none)
    (z_str : PySem.W.nsIn K mainGlobals "str" = some none)
    (z_len : PySem.W.nsIn K mainGlobals "len" = some none)
    (z_all : PySem.W.nsIn K mainGlobals "all" = some none)
    (z_tuple : PySem.W.nsIn K mainGlobals "tuple" = some none)
    (z_sum : PySem.W.nsIn K mainGlobals "sum" = some none)
    (z_min : PySem.W.nsIn K mainGlobals "min" = some none)
    (z_zip : PySem.W.nsIn K mainGlobals "zip" = some none)
    (z_range : PySem.W.nsIn K mainGlobals "range" = some none)
    (z_super : PySem.W.nsIn K mainGlobals "super" = some none)
    (z_enumerate : PySem.W.nsIn K mainGlobals "enumerate" = some none)
    (z_list : PySem.W.nsIn K mainGlobals "list" = some none)
    (z_max : PySem.W.nsIn K mainGlobals "max" = some none)
    (z_divmod : PySem.W.nsIn K mainGlobals "divmod" = some none)
    (v_LETTERS : PySem.W.nsIn K mainGlobals "LETTERS" = some (some (.str "abcdefghijklmnopqrstuvwxyz" t_LETTERS)))
    (v_LONGEST_WORD : PySem.W.nsIn K mainGlobals "LONGEST_WORD" = some (some (.int 8 t_LONGEST_WORD)))
    (v_MOST_DOORS : PySem.W.nsIn K mainGlobals "MOST_DOORS" = some (some (.int 4 t_MOST_DOORS)))
    (v_MOST_WARMTH : PySem.W.nsIn K mainGlobals "MOST_WARMTH" = some (some (.int 99 t_MOST_WARMTH)))
    (v_MOST_BEHIND : PySem.W.nsIn K mainGlobals "MOST_BEHIND" = some (some (.int 4 t_MOST_BEHIND)))
    (v_MOST_PLACES : PySem.W.nsIn K mainGlobals "MOST_PLACES" = some (some (.int 6 t_MOST_PLACES)))
    (v_MOST_CRATES : PySem.W.nsIn K mainGlobals "MOST_CRATES" = some (some (.int 5 t_MOST_CRATES)))
    (v_MOST_COOLING : PySem.W.nsIn K mainGlobals "MOST_COOLING" = some (some (.int 99 t_MOST_COOLING)))
    (v_MOST_HOURS : PySem.W.nsIn K mainGlobals "MOST_HOURS" = some (some (.int 12 t_MOST_HOURS)))
    (v_FAR : PySem.W.nsIn K mainGlobals "FAR" = some (some (.int 1000000000000000000 t_FAR))) :
    ∃ fd : FuncData, (∀ (s : Shared) (v : Value), BindsTo s fd ⟨[v], []⟩ [("_law_script", v)]) ∧ ∀ base : Heap, K.In base → base.Ns mainGlobals mg → FnOk pwK w K mg base CX0 14 fa fd ["_law_script"] (spLaw K) := by
  have e := hfa.symm.trans (PySem.W.mg_of X G a_law)
  cases e
  have SC_InvalidStore : CcX.SupC pwK K e_InvalidStore fI_InvalidStore "InvalidStore.__init__" "part" (defBody s_InvalidStore___init__) (defArgs s_InvalidStore___init__) (defScope s_InvalidStore___init__) := { cls := ⟨_, _, _, _, _, _, _, _, _, _, _, _, _, _, _, ob_InvalidStore, rfl⟩, sa := sa_InvalidStore, noN := no_InvalidStore, iC := iC_InvalidStore, tC := tC_InvalidStore, kC := kC_InvalidStore, exC := exC_InvalidStore, veC := ve_InvalidStore, slfC := slf_InvalidStore, tyC := tyC_InvalidStore, opq := op_InvalidStore, alg := al_InvalidStore, top := by decide +kernel, fn := ⟨_, _, _, _, _, _, _, _, _, _, _, _, _, _, _, _, _, _, li_InvalidStore, ci_InvalidStore, cd_InvalidStore, v2_InvalidStore, fi_InvalidStore, cc_InvalidStore⟩ }
  have SI_InvalidStore : CcX.SupI pwK w K mg e_InvalidStore fI_InvalidStore "part" := CcX.sup_of (ar := "part") SC_InvalidStore (.inl rfl) (fun e he => by
    simp only [List.mem_cons, List.not_mem_nil, or_false] at he
    rcases he with rfl | rfl | rfl
    · exact .inl ⟨_, _, _, rfl, by decide +kernel⟩
    · exact .inr ⟨_, _, rfl⟩
    · exact .inl ⟨_, _, _, rfl, by decide +kernel⟩) (by decide) (by decide +kernel) (PySem.W.mg_none_of X G z_super)
  have F_is_number := fun_mk (st := s_is_number) l_is_number c_is_number k_is_number
  have b_is_number := F_is_number.binds (ps := ["value", "low", "high"]) fun _ _ _ _ _ _ us hl => match us, hl with | [_, _, _], _ => rfl
  have F_is_word := fun_mk (st := s_is_word) l_is_word c_is_word k_is_word
  have b_is_word := F_is_word.binds (ps := ["value"]) fun _ _ _ _ _ _ us hl => match us, hl with | [_], _ => rfl
  have F_is_door := fun_mk (st := s_is_door) l_is_door c_is_door k_is_door
  have b_is_door := F_is_door.binds (ps := ["value"]) fun _ _ _ _ _ _ us hl => match us, hl with | [_], _ => rfl
  have F_doors_fit := fun_mk (st := s_doors_fit) l_doors_fit c_doors_fit k_doors_fit
  have b_doors_fit := F_doors_fit.binds (ps := ["doors"]) fun _ _ _ _ _ _ us hl => match us, hl with | [_], _ => rfl
  have F_crates_fit := fun_mk (st := s_crates_fit) l_crates_fit c_crates_fit k_crates_fit
  have b_crates_fit := F_crates_fit.binds (ps := ["crates", "size"]) fun _ _ _ _ _ _ us hl => match us, hl with | [_, _], _ => rfl
  have F_places_behind := fun_mk (st := s_places_behind) l_places_behind c_places_behind k_places_behind
  have b_places_behind := F_places_behind.binds (ps := ["doors"]) fun _ _ _ _ _ _ us hl => match us, hl with | [_], _ => rfl
  have F_has_door := fun_mk (st := s_has_door) l_has_door c_has_door k_has_door
  have b_has_door := F_has_door.binds (ps := ["store", "door"]) fun _ _ _ _ _ _ us hl => match us, hl with | [_, _], _ => rfl
  have F_check_number := fun_mk (st := s_check_number) l_check_number c_check_number k_check_number
  have b_check_number := F_check_number.binds (ps := ["value", "low", "high"]) fun _ _ _ _ _ _ us hl => match us, hl with | [_, _, _], _ => rfl
  have F_check_day := fun_mk (st := s_check_day) l_check_day c_check_day k_check_day
  have b_check_day := F_check_day.binds (ps := ["store", "day"]) fun _ _ _ _ _ _ us hl => match us, hl with | [_, _], _ => rfl
  have F_warmth_of := fun_mk (st := s_warmth_of) l_warmth_of c_warmth_of k_warmth_of
  have b_warmth_of := F_warmth_of.binds (ps := ["store", "doors"]) fun _ _ _ _ _ _ us hl => match us, hl with | [_, _], _ => rfl
  have F_all_cold := fun_mk (st := s_all_cold) l_all_cold c_all_cold k_all_cold
  have b_all_cold := F_all_cold.binds (ps := ["store"]) fun _ _ _ _ _ _ us hl => match us, hl with | [_], _ => rfl
  have F_cooled := fun_mk (st := s_cooled) l_cooled c_cooled k_cooled
  have b_cooled := F_cooled.binds (ps := ["warm", "by"]) fun _ _ _ _ _ _ us hl => match us, hl with | [_, _], _ => rfl
  have F_risen := fun_mk (st := s_risen) l_risen c_risen k_risen
  have b_risen := F_risen.binds (ps := ["store", "warm", "door"]) fun _ _ _ _ _ _ us hl => match us, hl with | [_, _, _], _ => rfl
  have F_behind_hours := fun_mk (st := s_behind_hours) l_behind_hours c_behind_hours k_behind_hours
  have b_behind_hours := F_behind_hours.binds (ps := ["store", "cooling", "hours", "warm"]) fun _ _ _ _ _ _ us hl => match us, hl with | [_, _, _, _], _ => rfl
  have F_behind_days := fun_mk (st := s_behind_days) l_behind_days c_behind_days k_behind_days
  have b_behind_days := F_behind_days.binds (ps := ["store", "cooling", "day", "days"]) fun _ _ _ _ _ _ us hl => match us, hl with | [_, _, _, _], _ => rfl
  have F_warmths := fun_mk (st := s_warmths) l_warmths c_warmths k_warmths
  have b_warmths := F_warmths.binds (ps := ["store", "cooling", "day", "count"]) fun _ _ _ _ _ _ us hl => match us, hl with | [_, _, _, _], _ => rfl
  have F_heights_in := fun_mk (st := s_heights_in) l_heights_in c_heights_in k_heights_in
  have b_heights_in := F_heights_in.binds (ps := ["store", "cooling", "hours"]) fun _ _ _ _ _ _ us hl => match us, hl with | [_, _, _], _ => rfl
  have F_days_until := fun_mk (st := s_days_until) l_days_until c_days_until k_days_until
  have b_days_until := F_days_until.binds (ps := ["heights", "limit"]) fun _ _ _ _ _ _ us hl => match us, hl with | [_, _], _ => rfl
  have F_first_thaw := fun_mk (st := s_first_thaw) l_first_thaw c_first_thaw k_first_thaw
  have b_first_thaw := F_first_thaw.binds (ps := ["store", "cooling", "day", "limit"]) fun _ _ _ _ _ _ us hl => match us, hl with | [_, _, _, _], _ => rfl
  have F__law_taken := fun_mk (st := s__law_taken) l__law_taken c__law_taken k__law_taken
  have b__law_taken := F__law_taken.binds (ps := ["_law_row", "_law_many"]) fun _ _ _ _ _ _ us hl => match us, hl with | [_, _], _ => rfl
  have F__law_store := fun_mk (st := s__law_store) l__law_store c__law_store k__law_store
  have b__law_store := F__law_store.binds (ps := ["_law_row"]) fun _ _ _ _ _ _ us hl => match us, hl with | [_], _ => rfl
  have F__law_day := fun_mk (st := s__law_day) l__law_day c__law_day k__law_day
  have b__law_day := F__law_day.binds (ps := ["_law_row", "_law_store_here"]) fun _ _ _ _ _ _ us hl => match us, hl with | [_, _], _ => rfl
  have F__law_hours := fun_mk (st := s__law_hours) l__law_hours c__law_hours k__law_hours
  have b__law_hours := F__law_hours.binds (ps := ["_law_store_here", "_law_cooling", "_law_day_here", "_law_many"]) fun _ _ _ _ _ _ us hl => match us, hl with | [_, _, _, _], _ => rfl
  have F__law_first := fun_mk (st := s__law_first) l__law_first c__law_first k__law_first
  have b__law_first := F__law_first.binds (ps := ["_law_store_here", "_law_cooling", "_law_day_here", "_law_limit"]) fun _ _ _ _ _ _ us hl => match us, hl with | [_, _, _, _], _ => rfl
  have F_law := fun_mk (st := s_law) l_law c_law k_law
  have F_m__init__ := fun_mk (st := s_Store___init__) l_m__init__ c_m__init__ k_m__init__
  have b_m__init__ := F_m__init__.binds (ps := ["self", "doors", "crates"]) fun _ _ _ _ _ _ us hl => match us, hl with | [_, _, _], _ => rfl
  have F_m__len__ := fun_mk (st := s_Store___len__) l_m__len__ c_m__len__ k_m__len__
  have b_m__len__ := F_m__len__.binds (ps := ["self"]) fun _ _ _ _ _ _ us hl => match us, hl with | [_], _ => rfl
  have F_pdoors := fun_mk (st := s_Store_doors) l_pdoors c_pdoors k_pdoors
  have b_pdoors := F_pdoors.binds (ps := ["self"]) fun _ _ _ _ _ _ us hl => match us, hl with | [_], _ => rfl
  have T1 : Txt K mg := ⟨(PySem.W.mg_none_of X G z_isinstance), (PySem.W.mg_none_of X G z_int), (PySem.W.mg_none_of X G z_bool), (PySem.W.mg_none_of X G z_str), (PySem.W.mg_none_of X G z_len), (PySem.W.mg_none_of X G z_all), ⟨_, (PySem.W.mg_of X G v_LETTERS), ⟨_, rfl⟩⟩, ⟨_, (PySem.W.mg_of X G v_LONGEST_WORD), ⟨_, rfl⟩⟩⟩
  have T2 : Txt2 K mg := { toTxt := T1, tuple := (PySem.W.mg_none_of X G z_tuple), sum := (PySem.W.mg_none_of X G z_sum), min := (PySem.W.mg_none_of X G z_min), zip := (PySem.W.mg_none_of X G z_zip), range := (PySem.W.mg_none_of X G z_range), m_MOST_DOORS := ⟨_, (PySem.W.mg_of X G v_MOST_DOORS), ⟨_, rfl⟩⟩, m_MOST_WARMTH := ⟨_, (PySem.W.mg_of X G v_MOST_WARMTH), ⟨_, rfl⟩⟩, m_MOST_BEHIND := ⟨_, (PySem.W.mg_of X G v_MOST_BEHIND), ⟨_, rfl⟩⟩, m_MOST_PLACES := ⟨_, (PySem.W.mg_of X G v_MOST_PLACES), ⟨_, rfl⟩⟩, m_MOST_CRATES := ⟨_, (PySem.W.mg_of X G v_MOST_CRATES), ⟨_, rfl⟩⟩ }
  have TS : TxtS pwK w K mg C e_InvalidStore fI_InvalidStore 0 0 := { toTxt2 := T2, cls := ⟨s_pg, s_hd, s_po, s_sa⟩, nPl := s_nplaces, nSz := s_nsize, nDo := s_ndoors, nCr := s_ncrates, g_Store := ⟨_, (PySem.W.mg_of X G a_Store), rfl⟩, x_InvalidStore := ⟨(PySem.W.mg_of X G a_InvalidStore), SI_InvalidStore⟩ }
  have TH : TxtH pwK w K mg C e_InvalidStore fI_InvalidStore 0 0 := { toTxtS := TS, list := (PySem.W.mg_none_of X G z_list), max := (PySem.W.mg_none_of X G z_max), enumerate := (PySem.W.mg_none_of X G z_enumerate), divmod := (PySem.W.mg_none_of X G z_divmod), m_MOST_COOLING := ⟨_, (PySem.W.mg_of X G v_MOST_COOLING), ⟨_, rfl⟩⟩, m_MOST_HOURS := ⟨_, (PySem.W.mg_of X G v_MOST_HOURS), ⟨_, rfl⟩⟩, m_FAR := ⟨_, (PySem.W.mg_of X G v_FAR), ⟨_, rfl⟩⟩ }
  refine ⟨PySem.W.fnOf "law" "law" (defArgs s_law) (defBody s_law) (defScope s_law) .none kV_law dc_law pm_law an_law cd_law ct_law, fun s v => .of_eq rfl, fun base _ _ => ?_⟩
  have C_is_number : Cal pwK w K mg base CX0 1 "is_number" ["value", "low", "high"] (spIsNumber K) := ⟨_, _, ok_is_number F_is_number T1, (PySem.W.mg_of X G a_is_number), k_is_number, b_is_number⟩
  have C_is_word : Cal pwK w K mg base CX0 1 "is_word" ["value"] (spIsWord K) := ⟨_, _, ok_is_word F_is_word T1, (PySem.W.mg_of X G a_is_word), k_is_word, b_is_word⟩
  have C_is_door : Cal pwK w K mg base CX0 2 "is_door" ["value"] (spIsDoor K) := ⟨_, _, ok_is_door F_is_door T2 C_is_number, (PySem.W.mg_of X G a_is_door), k_is_door, b_is_door⟩
  have C_doors_fit : Cal pwK w K mg base CX0 3 "doors_fit" ["doors"] (spDoorsFit K) := ⟨_, _, ok_doors_fit F_doors_fit T2 C_is_door, (PySem.W.mg_of X G a_doors_fit), k_doors_fit, b_doors_fit⟩
  have C_crates_fit : Cal pwK w K mg base CX0 3 "crates_fit" ["crates", "size"] (spCratesFit K) := ⟨_, _, ok_crates_fit F_crates_fit T2 C_is_word, (PySem.W.mg_of X G a_crates_fit), k_crates_fit, b_crates_fit⟩
  have C_places_behind : Cal pwK w K mg base CX0 1 "places_behind" ["doors"] (spPlacesBehind K) := ⟨_, _, ok_places_behind F_places_behind T2, (PySem.W.mg_of X G a_places_behind), k_places_behind, b_places_behind⟩
  have L_Store : LenC pwK w K mg base 1 C (spLenS K C) := ⟨_, _, ok_len F_m__len__ TS, b_m__len__, a_m__len__, i_m__len__⟩
  have C_has_door : Cal pwK w K mg base CX0 3 "has_door" ["store", "door"] (spHasDoor K C) := ⟨_, _, ok_has_door F_has_door TS C_is_number L_Store, (PySem.W.mg_of X G a_has_door), k_has_door, b_has_door⟩
  have C_Store : CMk pwK w K mg base (L2.CX pwK w) 4 "Store" C ["self", "doors", "crates"] (spInit K C e_InvalidStore) := ⟨_, _, ⟨s_mk, a_m__init__, i_m__init__, s_kc⟩, ok_init F_m__init__ TS C_doors_fit C_places_behind C_crates_fit, (PySem.W.mg_of X G a_Store), b_m__init__⟩
  have M_doors : CPrp pwK w K mg base CX0 1 C "doors" (getSp C "_doors") := ⟨_, _, _, TS.cls, ⟨a_pdoors, g_pdoors, t_pdoors, _, e_pdoors⟩, fn_getter l_pdoors c_pdoors sc_Store_doors rfl rfl TS.cls s_ndoors, b_pdoors⟩
  have C_check_number : Cal pwK w K mg base CX0 2 "check_number" ["value", "low", "high"] (spChkNum K) := ⟨_, _, ok_check_number F_check_number TH C_is_number, (PySem.W.mg_of X G a_check_number), k_check_number, b_check_number⟩
  have C_check_day : Cal pwK w K mg base CX0 4 "check_day" ["store", "day"] (spChkDay K C) := ⟨_, _, ok_check_day F_check_day TH C_has_door, (PySem.W.mg_of X G a_check_day), k_check_day, b_check_day⟩
  have C_warmth_of : Cal pwK w K mg base CX0 3 "warmth_of" ["store", "doors"] (spWarmth K C) := ⟨_, _, ok_warmth_of F_warmth_of TH M_doors, (PySem.W.mg_of X G a_warmth_of), k_warmth_of, b_warmth_of⟩
  have C_all_cold : Cal pwK w K mg base CX0 3 "all_cold" ["store"] (spCold K C) := ⟨_, _, ok_all_cold F_all_cold TH L_Store, (PySem.W.mg_of X G a_all_cold), k_all_cold, b_all_cold⟩
  have C_cooled : Cal pwK w K mg base CX0 1 "cooled" ["warm", "by"] (spCool K) := ⟨_, _, ok_cooled F_cooled TH, (PySem.W.mg_of X G a_cooled), k_cooled, b_cooled⟩
  have C_risen : Cal pwK w K mg base CX0 4 "risen" ["store", "warm", "door"] (spRise K C) := ⟨_, _, ok_risen F_risen TH C_warmth_of, (PySem.W.mg_of X G a_risen), k_risen, b_risen⟩
  have C_behind_hours : Cal pwK w K mg base CX0 5 "behind_hours" ["store", "cooling", "hours", "warm"] (spHours K C) := ⟨_, _, ok_behind_hours F_behind_hours TH C_risen C_cooled, (PySem.W.mg_of X G a_behind_hours), k_behind_hours, b_behind_hours⟩
  have C_behind_days : Cal pwK w K mg base CX0 6 "behind_days" ["store", "cooling", "day", "days"] (spDays K C) := ⟨_, _, ok_behind_days F_behind_days TH C_all_cold C_behind_hours, (PySem.W.mg_of X G a_behind_days), k_behind_days, b_behind_days⟩
  have C_warmths : Cal pwK w K mg base CX0 7 "warmths" ["store", "cooling", "day", "count"] (spWarmths K C) := ⟨_, _, ok_warmths F_warmths TH C_check_number C_check_day C_behind_days C_behind_hours, (PySem.W.mg_of X G a_warmths), k_warmths, b_warmths⟩
  have C_heights_in : Cal pwK w K mg base CX0 5 "heights_in" ["store", "cooling", "hours"] (spHeights K C) := ⟨_, _, ok_heights_in F_heights_in TH C_all_cold C_risen C_cooled, (PySem.W.mg_of X G a_heights_in), k_heights_in, b_heights_in⟩
  have C_days_until : Cal pwK w K mg base CX0 1 "days_until" ["heights", "limit"] (spUntil K) := ⟨_, _, ok_days_until F_days_until TH, (PySem.W.mg_of X G a_days_until), k_days_until, b_days_until⟩
  have C_first_thaw : Cal pwK w K mg base CX0 7 "first_thaw" ["store", "cooling", "day", "limit"] (spThaw K C) := ⟨_, _, ok_first_thaw F_first_thaw TH C_check_number C_check_day C_heights_in C_days_until, (PySem.W.mg_of X G a_first_thaw), k_first_thaw, b_first_thaw⟩
  have C__law_taken : Cal pwK w K mg base CX0 1 "_law_taken" ["_law_row", "_law_many"] (spTaken K) := ⟨_, _, ok_taken F__law_taken T2, (PySem.W.mg_of X G a__law_taken), k__law_taken, b__law_taken⟩
  have C__law_store : Cal pwK w K mg base CX0 6 "_law_store" ["_law_row"] (spLStore K C) := ⟨_, _, ok_lstore F__law_store TH C__law_taken C_Store, (PySem.W.mg_of X G a__law_store), k__law_store, b__law_store⟩
  have C__law_day : Cal pwK w K mg base CX0 3 "_law_day" ["_law_row", "_law_store_here"] (spLDay K C) := ⟨_, _, ok_lday F__law_day TH C__law_taken L_Store, (PySem.W.mg_of X G a__law_day), k__law_day, b__law_day⟩
  have C__law_hours : Cal pwK w K mg base CX0 3 "_law_hours" ["_law_store_here", "_law_cooling", "_law_day_here", "_law_many"] (spLHours K C) := ⟨_, _, ok_lhours F__law_hours TH L_Store M_doors, (PySem.W.mg_of X G a__law_hours), k__law_hours, b__law_hours⟩
  have C__law_first : Cal pwK w K mg base CX0 4 "_law_first" ["_law_store_here", "_law_cooling", "_law_day_here", "_law_limit"] (spLFirst K C) := ⟨_, _, ok_lfirst F__law_first TH C__law_hours, (PySem.W.mg_of X G a__law_first), k__law_first, b__law_first⟩
  exact ok_law F_law TH (CI := e_InvalidStore) (CP := 0) (CD := 0) ⟨C__law_taken, C__law_store, C__law_day, C__law_hours, C__law_first, C_warmths, C_first_thaw, L_Store⟩
end My

open PySem PySem.W PyProof.Rows
set_option maxRecDepth 100000 in
set_option maxHeartbeats 0 in
theorem PySem.Challenge.cw_coldcrates_k31_warmth_hour_by_hour_holds : PySem.Challenge.rw_coldcrates_k31_warmth_hour_by_hour.Holds := by
  w_on; o_law; k_head; (case hw => w_witness2)
  k_fill
  refine L2.walk_of (l := PySem.Challenge.rw_coldcrates_k31_warmth_hour_by_hour) (n := 63) (k := 14) (x := "_law_script") (CX := fun _ => L2.CX0) (sp := fun w => My.spLaw _) rfl (by decide) rfl ⟨rfl, by decide, by decide⟩ (fun w h Y => PySem.W.kIn_of Y) ?F (fun _ _ a ns hl _ hS => ⟨a, ns, rfl, hS, hl, fun _ => rfl⟩) fun _ _ _ _ _ z => z
  case F =>
    intro w mg fa h KX G hmg
    refine' My.all_mk KX G hmg ?a_is_number ?l_is_number ?c_is_number ?k_is_number ?a_is_word ?l_is_word ?c_is_word ?k_is_word ?a_is_door ?l_is_door ?c_is_door ?k_is_door ?a_doors_fit ?l_doors_fit ?c_doors_fit ?k_doors_fit ?a_crates_fit ?l_crates_fit ?c_crates_fit ?k_crates_fit ?a_places_behind ?l_places_behind ?c_places_behind ?k_places_behind ?a_has_door ?l_has_door ?c_has_door ?k_has_door ?a_check_number ?l_check_number ?c_check_number ?k_check_number ?a_check_day ?l_check_day ?c_check_day ?k_check_day ?a_warmth_of ?l_warmth_of ?c_warmth_of ?k_warmth_of ?a_all_cold ?l_all_cold ?c_all_cold ?k_all_cold ?a_cooled ?l_cooled ?c_cooled ?k_cooled ?a_risen ?l_risen ?c_risen ?k_risen ?a_behind_hours ?l_behind_hours ?c_behind_hours ?k_behind_hours ?a_behind_days ?l_behind_days ?c_behind_days ?k_behind_days ?a_warmths ?l_warmths ?c_warmths ?k_warmths ?a_heights_in ?l_heights_in ?c_heights_in ?k_heights_in ?a_days_until ?l_days_until ?c_days_until ?k_days_until ?a_first_thaw ?l_first_thaw ?c_first_thaw ?k_first_thaw ?a__law_taken ?l__law_taken ?c__law_taken ?k__law_taken ?a__law_store ?l__law_store ?c__law_store ?k__law_store ?a__law_day ?l__law_day ?c__law_day ?k__law_day ?a__law_hours ?l__law_hours ?c__law_hours ?k__law_hours ?a__law_first ?l__law_first ?c__law_first ?k__law_first ?a_law ?l_law ?c_law ?k_law ?a_Store ?a_m__init__ ?i_m__init__ ?l_m__init__ ?c_m__init__ ?k_m__init__ ?a_m__len__ ?i_m__len__ ?l_m__len__ ?c_m__len__ ?k_m__len__ ?a_pdoors ?g_pdoors ?t_pdoors ?e_pdoors ?l_pdoors ?c_pdoors ?k_pdoors ?s_pg ?s_hd ?s_po ?s_sa ?s_mk ?s_kc ?s_nplaces ?s_nsize ?s_ndoors ?s_ncrates ?a_InvalidStore ?ob_InvalidStore ?sa_InvalidStore ?iC_InvalidStore ?tC_InvalidStore ?ve_InvalidStore ?slf_InvalidStore ?op_InvalidStore ?al_InvalidStore ?li_InvalidStore ?ci_InvalidStore ?cd_InvalidStore ?v2_InvalidStore ?fi_InvalidStore ?cc_InvalidStore ?no_InvalidStore ?kC_InvalidStore ?exC_InvalidStore ?tyC_InvalidStore ?z_isinstance ?z_int ?z_bool ?z_str ?z_len ?z_all ?z_tuple ?z_sum ?z_min ?z_zip ?z_range ?z_super ?z_enumerate ?z_list ?z_max ?z_divmod ?v_LETTERS ?v_LONGEST_WORD ?v_MOST_DOORS ?v_MOST_WARMTH ?v_MOST_BEHIND ?v_MOST_PLACES ?v_MOST_CRATES ?v_MOST_COOLING ?v_MOST_HOURS ?v_FAR
    (case a_is_number => first | k_is | k_exc | rfl | kernel_rfl)
    (case l_is_number => first | k_is | k_exc | rfl | kernel_rfl)
    (case c_is_number => first | k_is | k_exc | rfl | kernel_rfl)
    (case k_is_number => first | k_is | k_exc | rfl | kernel_rfl)
    (case a_is_word => first | k_is | k_exc | rfl | kernel_rfl)
    (case l_is_word => first | k_is | k_exc | rfl | kernel_rfl)
    (case c_is_word => first | k_is | k_exc | rfl | kernel_rfl)
    (case k_is_word => first | k_is | k_exc | rfl | kernel_rfl)
    (case a_is_door => first | k_is | k_exc | rfl | kernel_rfl)
    (case l_is_door => first | k_is | k_exc | rfl | kernel_rfl)
    (case c_is_door => first | k_is | k_exc | rfl | kernel_rfl)
    (case k_is_door => first | k_is | k_exc | rfl | kernel_rfl)
    (case a_doors_fit => first | k_is | k_exc | rfl | kernel_rfl)
    (case l_doors_fit => first | k_is | k_exc | rfl | kernel_rfl)
    (case c_doors_fit => first | k_is | k_exc | rfl | kernel_rfl)
    (case k_doors_fit => first | k_is | k_exc | rfl | kernel_rfl)
    (case a_crates_fit => first | k_is | k_exc | rfl | kernel_rfl)
    (case l_crates_fit => first | k_is | k_exc | rfl | kernel_rfl)
    (case c_crates_fit => first | k_is | k_exc | rfl | kernel_rfl)
    (case k_crates_fit => first | k_is | k_exc | rfl | kernel_rfl)
    (case a_places_behind => first | k_is | k_exc | rfl | kernel_rfl)
    (case l_places_behind => first | k_is | k_exc | rfl | kernel_rfl)
    (case c_places_behind => first | k_is | k_exc | rfl | kernel_rfl)
    (case k_places_behind => first | k_is | k_exc | rfl | kernel_rfl)
    (case a_has_door => first | k_is | k_exc | rfl | kernel_rfl)
    (case l_has_door => first | k_is | k_exc | rfl | kernel_rfl)
    (case c_has_door => first | k_is | k_exc | rfl | kernel_rfl)
    (case k_has_door => first | k_is | k_exc | rfl | kernel_rfl)
    (case a_check_number => first | k_is | k_exc | rfl | kernel_rfl)
    (case l_check_number => first | k_is | k_exc | rfl | kernel_rfl)
    (case c_check_number => first | k_is | k_exc | rfl | kernel_rfl)
    (case k_check_number => first | k_is | k_exc | rfl | kernel_rfl)
    (case a_check_day => first | k_is | k_exc | rfl | kernel_rfl)
    (case l_check_day => first | k_is | k_exc | rfl | kernel_rfl)
    (case c_check_day => first | k_is | k_exc | rfl | kernel_rfl)
    (case k_check_day => first | k_is | k_exc | rfl | kernel_rfl)
    (case a_warmth_of => first | k_is | k_exc | rfl | kernel_rfl)
    (case l_warmth_of => first | k_is | k_exc | rfl | kernel_rfl)
    (case c_warmth_of => first | k_is | k_exc | rfl | kernel_rfl)
    (case k_warmth_of => first | k_is | k_exc | rfl | kernel_rfl)
    (case a_all_cold => first | k_is | k_exc | rfl | kernel_rfl)
    (case l_all_cold => first | k_is | k_exc | rfl | kernel_rfl)
    (case c_all_cold => first | k_is | k_exc | rfl | kernel_rfl)
    (case k_all_cold => first | k_is | k_exc | rfl | kernel_rfl)
    (case a_cooled => first | k_is | k_exc | rfl | kernel_rfl)
    (case l_cooled => first | k_is | k_exc | rfl | kernel_rfl)
    (case c_cooled => first | k_is | k_exc | rfl | kernel_rfl)
    (case k_cooled => first | k_is | k_exc | rfl | kernel_rfl)
    (case a_risen => first | k_is | k_exc | rfl | kernel_rfl)
    (case l_risen => first | k_is | k_exc | rfl | kernel_rfl)
    (case c_risen => first | k_is | k_exc | rfl | kernel_rfl)
    (case k_risen => first | k_is | k_exc | rfl | kernel_rfl)
    (case a_behind_hours => first | k_is | k_exc | rfl | kernel_rfl)
    (case l_behind_hours => first | k_is | k_exc | rfl | kernel_rfl)
    (case c_behind_hours => first | k_is | k_exc | rfl | kernel_rfl)
    (case k_behind_hours => first | k_is | k_exc | rfl | kernel_rfl)
    (case a_behind_days => first | k_is | k_exc | rfl | kernel_rfl)
    (case l_behind_days => first | k_is | k_exc | rfl | kernel_rfl)
    (case c_behind_days => first | k_is | k_exc | rfl | kernel_rfl)
    (case k_behind_days => first | k_is | k_exc | rfl | kernel_rfl)
    (case a_warmths => first | k_is | k_exc | rfl | kernel_rfl)
    (case l_warmths => first | k_is | k_exc | rfl | kernel_rfl)
    (case c_warmths => first | k_is | k_exc | rfl | kernel_rfl)
    (case k_warmths => first | k_is | k_exc | rfl | kernel_rfl)
    (case a_heights_in => first | k_is | k_exc | rfl | kernel_rfl)
    (case l_heights_in => first | k_is | k_exc | rfl | kernel_rfl)
    (case c_heights_in => first | k_is | k_exc | rfl | kernel_rfl)
    (case k_heights_in => first | k_is | k_exc | rfl | kernel_rfl)
    (case a_days_until => first | k_is | k_exc | rfl | kernel_rfl)
    (case l_days_until => first | k_is | k_exc | rfl | kernel_rfl)
    (case c_days_until => first | k_is | k_exc | rfl | kernel_rfl)
    (case k_days_until => first | k_is | k_exc | rfl | kernel_rfl)
    (case a_first_thaw => first | k_is | k_exc | rfl | kernel_rfl)
    (case l_first_thaw => first | k_is | k_exc | rfl | kernel_rfl)
    (case c_first_thaw => first | k_is | k_exc | rfl | kernel_rfl)
    (case k_first_thaw => first | k_is | k_exc | rfl | kernel_rfl)
    (case a__law_taken => first | k_is | k_exc | rfl | kernel_rfl)
    (case l__law_taken => first | k_is | k_exc | rfl | kernel_rfl)
    (case c__law_taken => first | k_is | k_exc | rfl | kernel_rfl)
    (case k__law_taken => first | k_is | k_exc | rfl | kernel_rfl)
    (case a__law_store => first | k_is | k_exc | rfl | kernel_rfl)
    (case l__law_store => first | k_is | k_exc | rfl | kernel_rfl)
    (case c__law_store => first | k_is | k_exc | rfl | kernel_rfl)
    (case k__law_store => first | k_is | k_exc | rfl | kernel_rfl)
    (case a__law_day => first | k_is | k_exc | rfl | kernel_rfl)
    (case l__law_day => first | k_is | k_exc | rfl | kernel_rfl)
    (case c__law_day => first | k_is | k_exc | rfl | kernel_rfl)
    (case k__law_day => first | k_is | k_exc | rfl | kernel_rfl)
    (case a__law_hours => first | k_is | k_exc | rfl | kernel_rfl)
    (case l__law_hours => first | k_is | k_exc | rfl | kernel_rfl)
    (case c__law_hours => first | k_is | k_exc | rfl | kernel_rfl)
    (case k__law_hours => first | k_is | k_exc | rfl | kernel_rfl)
    (case a__law_first => first | k_is | k_exc | rfl | kernel_rfl)
    (case l__law_first => first | k_is | k_exc | rfl | kernel_rfl)
    (case c__law_first => first | k_is | k_exc | rfl | kernel_rfl)
    (case k__law_first => first | k_is | k_exc | rfl | kernel_rfl)
    (case a_law => first | k_is | k_exc | rfl | kernel_rfl)
    (case l_law => first | k_is | k_exc | rfl | kernel_rfl)
    (case c_law => first | k_is | k_exc | rfl | kernel_rfl)
    (case k_law => first | k_is | k_exc | rfl | kernel_rfl)
    (case a_Store => first | k_is | k_exc | rfl | kernel_rfl)
    (case a_m__init__ => first | k_is | k_exc | rfl | kernel_rfl)
    (case i_m__init__ => first | k_is | k_exc | rfl | kernel_rfl)
    (case l_m__init__ => first | k_is | k_exc | rfl | kernel_rfl)
    (case c_m__init__ => first | k_is | k_exc | rfl | kernel_rfl)
    (case k_m__init__ => first | k_is | k_exc | rfl | kernel_rfl)
    (case a_m__len__ => first | k_is | k_exc | rfl | kernel_rfl)
    (case i_m__len__ => first | k_is | k_exc | rfl | kernel_rfl)
    (case l_m__len__ => first | k_is | k_exc | rfl | kernel_rfl)
    (case c_m__len__ => first | k_is | k_exc | rfl | kernel_rfl)
    (case k_m__len__ => first | k_is | k_exc | rfl | kernel_rfl)
    (case a_pdoors => first | k_is | k_exc | rfl | kernel_rfl)
    (case g_pdoors => first | k_is | k_exc | rfl | kernel_rfl)
    (case t_pdoors => first | k_is | k_exc | rfl | kernel_rfl)
    (case e_pdoors => first | k_is | k_exc | rfl | kernel_rfl)
    (case l_pdoors => first | k_is | k_exc | rfl | kernel_rfl)
    (case c_pdoors => first | k_is | k_exc | rfl | kernel_rfl)
    (case k_pdoors => first | k_is | k_exc | rfl | kernel_rfl)
    (case s_pg => first | k_is | k_exc | rfl | kernel_rfl)
    (case s_hd => first | k_is | k_exc | rfl | kernel_rfl)
    (case s_po => first | k_is | k_exc | rfl | kernel_rfl)
    (case s_sa => first | k_is | k_exc | rfl | kernel_rfl)
    (case s_mk => first | k_is | k_exc | rfl | kernel_rfl)
    (case s_kc => first | k_is | k_exc | rfl | kernel_rfl)
    (case s_nplaces => first | k_is | k_exc | rfl | kernel_rfl)
    (case s_nsize => first | k_is | k_exc | rfl | kernel_rfl)
    (case s_ndoors => first | k_is | k_exc | rfl | kernel_rfl)
    (case s_ncrates => first | k_is | k_exc | rfl | kernel_rfl)
    (case a_InvalidStore => first | k_is | k_exc | rfl | kernel_rfl)
    (case ob_InvalidStore => first | k_is | k_exc | rfl | kernel_rfl)
    (case sa_InvalidStore => first | k_is | k_exc | rfl | kernel_rfl)
    (case iC_InvalidStore => first | k_is | k_exc | rfl | kernel_rfl)
    (case tC_InvalidStore => first | k_is | k_exc | rfl | kernel_rfl)
    (case ve_InvalidStore => first | k_is | k_exc | rfl | kernel_rfl)
    (case slf_InvalidStore => first | k_is | k_exc | rfl | kernel_rfl)
    (case op_InvalidStore => first | k_is | k_exc | rfl | kernel_rfl)
    (case al_InvalidStore => first | k_is | k_exc | rfl | kernel_rfl)
    (case li_InvalidStore => first | k_is | k_exc | rfl | kernel_rfl)
    (case ci_InvalidStore => first | k_is | k_exc | rfl | kernel_rfl)
    (case cd_InvalidStore => first | k_is | k_exc | rfl | kernel_rfl)
    (case v2_InvalidStore => first | k_is | k_exc | rfl | kernel_rfl)
    (case fi_InvalidStore => first | k_is | k_exc | rfl | kernel_rfl)
    (case cc_InvalidStore => first | k_is | k_exc | rfl | kernel_rfl)
    (case no_InvalidStore => first | k_is | k_exc | rfl | kernel_rfl)
    (case kC_InvalidStore => first | k_is | k_exc | rfl | kernel_rfl)
    (case exC_InvalidStore => first | k_is | k_exc | rfl | kernel_rfl)
    (case tyC_InvalidStore => first | k_is | k_exc | rfl | kernel_rfl)
    (case z_isinstance => first | k_is | k_exc | rfl | kernel_rfl)
    (case z_int => first | k_is | k_exc | rfl | kernel_rfl)
    (case z_bool => first | k_is | k_exc | rfl | kernel_rfl)
    (case z_str => first | k_is | k_exc | rfl | kernel_rfl)
    (case z_len => first | k_is | k_exc | rfl | kernel_rfl)
    (case z_all => first | k_is | k_exc | rfl | kernel_rfl)
    (case z_tuple => first | k_is | k_exc | rfl | kernel_rfl)
    (case z_sum => first | k_is | k_exc | rfl | kernel_rfl)
    (case z_min => first | k_is | k_exc | rfl | kernel_rfl)
    (case z_zip => first | k_is | k_exc | rfl | kernel_rfl)
    (case z_range => first | k_is | k_exc | rfl | kernel_rfl)
    (case z_super => first | k_is | k_exc | rfl | kernel_rfl)
    (case z_enumerate => first | k_is | k_exc | rfl | kernel_rfl)
    (case z_list => first | k_is | k_exc | rfl | kernel_rfl)
    (case z_max => first | k_is | k_exc | rfl | kernel_rfl)
    (case z_divmod => first | k_is | k_exc | rfl | kernel_rfl)
    (case v_LETTERS => first | k_is | k_exc | rfl | kernel_rfl)
    (case v_LONGEST_WORD => first | k_is | k_exc | rfl | kernel_rfl)
    (case v_MOST_DOORS => first | k_is | k_exc | rfl | kernel_rfl)
    (case v_MOST_WARMTH => first | k_is | k_exc | rfl | kernel_rfl)
    (case v_MOST_BEHIND => first | k_is | k_exc | rfl | kernel_rfl)
    (case v_MOST_PLACES => first | k_is | k_exc | rfl | kernel_rfl)
    (case v_MOST_CRATES => first | k_is | k_exc | rfl | kernel_rfl)
    (case v_MOST_COOLING => first | k_is | k_exc | rfl | kernel_rfl)
    (case v_MOST_HOURS => first | k_is | k_exc | rfl | kernel_rfl)
    (case v_FAR => first | k_is | k_exc | rfl | kernel_rfl)
