import PyProof.Rows.All
import Wide.All
import OpenK.AllK
import Wide.FinOn
import HandS.ForMost
import HandS.Wide
import HandS.IsInst
import HandS.Deep
import HandS.SortRule
import HandS.SortInts
import HandS.TupLe
import HandS.Zip
import HandS.Codes
import PySem.Challenge.RW_pinchfold_k07_how_many_plans
set_option Elab.async false
set_option linter.all false
set_option autoImplicit false
set_option maxRecDepth 100000
set_option maxHeartbeats 4000000
/-! A layer of pure values over the abstract heap. -/
namespace Pf
open PySem PySem.Spec PyProof.Rows L2

abbrev Fg := PySem.W.Frag
/-- beyond G, G' has only what is new to H -/
def Nw (G H G' : Hp) : Prop := ∀ a o, G' a = some o → G a = some o ∨ H a = none
/-- all but M stays -/
def SB (M : Addr → Prop) (H H' : Hp) : Prop := ∀ a o, ¬ M a → H a = some o → H' a = some o
/-- a step: the still part G grows to G', the heap H becomes H', but for M all of H stays -/
structure Gr (M : Addr → Prop) (G H G' H' : Hp) : Prop where
  g : Same G G'
  i : Same G' H'
  h : SB M H H'
  n : Nw G H G'
abbrev M0 : Addr → Prop := fun _ => False
theorem SB.refl {M : Addr → Prop} {H : Hp} : SB M H H := fun _ _ _ h => h
theorem SB.trans {M : Addr → Prop} {H H1 H2 : Hp} (a : SB M H H1) (b : SB M H1 H2) : SB M H H2 := fun c o n h => b c o n (a c o n h)
theorem SB.of {M : Addr → Prop} {H H' : Hp} (a : Same H H') : SB M H H' := fun c o _ h => a c o h
theorem SB.same {H H' : Hp} (a : SB M0 H H') : Same H H' := fun c o h => a c o (fun z => z) h
theorem Gr.refl {M : Addr → Prop} {G H : Hp} (i : Same G H) : Gr M G H G H := ⟨Same.refl G, i, SB.refl, fun _ _ h => .inl h⟩
theorem Gr.trans {M : Addr → Prop} {G H G1 H1 G2 H2 : Hp} (x : Gr M G H G1 H1) (y : Gr M G1 H1 G2 H2) (mm : ∀ a, M a → G2 a = none ∨ H a = none ∨ G a ≠ none := by intro _ z; exact z.elim) : Gr M G H G2 H2 :=
  ⟨x.g.trans y.g, y.i, x.h.trans y.h, fun a o e => by
    rcases y.n a o e with z | z
    · exact x.n a o z
    · cases q : H a with
      | none => exact .inr rfl
      | some u =>
        by_cases m : M a
        · rcases mm a m with k | k | k
          · rw [k] at e; cases e
          · rw [k] at q; cases q
          · cases r : G a with
            | none => exact absurd r k
            | some u' =>
              have e1 := (x.g.trans y.g) a u' r
              rw [e] at e1
              exact .inl e1.symm
        · rw [x.h a u m q] at z; cases z⟩
theorem Gr.same {G H G' H' : Hp} (x : Gr M0 G H G' H') : Same H H' := x.h.same
theorem Gr.wk {M : Addr → Prop} {G H G' H' : Hp} (x : Gr M0 G H G' H') : Gr M G H G' H' := ⟨x.g, x.i, SB.of x.same, x.n⟩
/-- G has nothing of what H had outside -/
theorem Gr.out {M : Addr → Prop} {G H G' H' : Hp} (x : Gr M G H G' H') {p : Addr} {o : HO} (hg : G p = none) (hh : H p = some o) : G' p = none := by
  cases q : G' p with
  | none => rfl
  | some u =>
    rcases x.n p u q with z | z
    · rw [hg] at z; cases z
    · rw [hh] at z; cases z

def uni (A B : Hp) : Hp := fun a => match A a with
  | some o => some o
  | none => B a
theorem uni_l {A B : Hp} : Same A (uni A B) := fun a o h => by unfold uni; rw [h]
theorem uni_c {A B : Hp} {a : Addr} {o : HO} (h : uni A B a = some o) : A a = some o ∨ B a = some o := by
  unfold uni at h
  cases q : A a with
  | some u => rw [q] at h; exact .inl h
  | none => rw [q] at h; exact .inr h
theorem uni_r {A B H : Hp} (x : Same A H) (y : Same B H) : Same B (uni A B) := fun a o h => by
  unfold uni
  cases q : A a with
  | none => exact h
  | some u =>
    have e1 := x a u q
    have e2 := y a o h
    rw [e1] at e2
    exact e2
theorem uni_i {A B H : Hp} (x : Same A H) (y : Same B H) : Same (uni A B) H := fun a o h => by
  rcases uni_c h with z | z
  · exact x a o z
  · exact y a o z

/-! ### values -/
class Rep (α : Type) where
  rep : Hp → V → α → Prop
  mono : ∀ {G G' : Hp} {v : V} {x : α}, Same G G' → rep G v x → rep G' v x
abbrev rep {α : Type} [Rep α] : Hp → V → α → Prop := Rep.rep
instance : Rep Int := ⟨fun _ v x => v = .int x, fun _ h => h⟩
instance : Rep Bool := ⟨fun _ v x => v = .bl x, fun _ h => h⟩
instance : Rep Str := ⟨fun _ v x => v = .str x, fun _ h => h⟩
instance : Rep Unit := ⟨fun _ v _ => v = .non, fun _ h => h⟩
theorem paired_mono {α : Type} [Rep α] {G G' : Hp} (e : Same G G') {vs : List V} {xs : List α} (h : Paired (rep G) vs xs) : Paired (rep G') vs xs := Paired.mapP h fun _ _ r => Rep.mono e r
instance {α : Type} [Rep α] : Rep (List α) := ⟨fun G v xs => ∃ a vs, v = .ref a ∧ G a = some (.lst vs) ∧ Paired (rep G) vs xs,
  fun e ⟨a, vs, h1, h2, h3⟩ => ⟨a, vs, h1, e _ _ h2, paired_mono e h3⟩⟩
/-- a tuple of any length, of one kind -/
structure Tup (α : Type) where
  l : List α
  deriving DecidableEq
instance {α : Type} [Rep α] : Rep (Tup α) := ⟨fun G v xs => ∃ a vs, v = .ref a ∧ G a = some (.tup vs) ∧ Paired (rep G) vs xs.l,
  fun e ⟨a, vs, h1, h2, h3⟩ => ⟨a, vs, h1, e _ _ h2, paired_mono e h3⟩⟩
instance {α β : Type} [Rep α] [Rep β] : Rep (α × β) := ⟨fun G v x => ∃ a u w, v = .ref a ∧ G a = some (.tup [u, w]) ∧ rep G u x.1 ∧ rep G w x.2,
  fun e ⟨a, u, w, h1, h2, h3, h4⟩ => ⟨a, u, w, h1, e _ _ h2, Rep.mono e h3, Rep.mono e h4⟩⟩
/-- a tuple of three -/
structure Tri (α β γ : Type) where
  a : α
  b : β
  c : γ
  deriving DecidableEq
instance {α β γ : Type} [Rep α] [Rep β] [Rep γ] : Rep (Tri α β γ) := ⟨fun G v x => ∃ a u w z, v = .ref a ∧ G a = some (.tup [u, w, z]) ∧ rep G u x.a ∧ rep G w x.b ∧ rep G z x.c,
  fun e ⟨a, u, w, z, h1, h2, h3, h4, h5⟩ => ⟨a, u, w, z, h1, e _ _ h2, Rep.mono e h3, Rep.mono e h4, Rep.mono e h5⟩⟩
theorem rep_int {G : Hp} {v : V} {x : Int} (h : rep G v x) : v = .int x := h
theorem rep_bl {G : Hp} {v : V} {x : Bool} (h : rep G v x) : v = .bl x := h
theorem rep_str {G : Hp} {v : V} {x : Str} (h : rep G v x) : v = .str x := h
theorem paired_len {α : Type} [Rep α] {G : Hp} {vs : List V} {xs : List α} (h : Paired (rep G) vs xs) : vs.length = xs.length := Paired.length h
theorem paired_get {α β : Type} {R : α → β → Prop} : ∀ {vs : List α} {xs : List β} {i : Nat} {x : β}, Paired R vs xs → xs[i]? = some x → ∃ v, vs[i]? = some v ∧ R v x
  | _, _, _, _, .nil, e => by simp at e
  | _, _, 0, _, .cons r _, e => by simp at e; subst e; exact ⟨_, rfl, r⟩
  | _, _, i + 1, x, .cons _ t, e => by
    obtain ⟨u, h1, h2⟩ := paired_get (i := i) (x := x) t (by simpa using e)
    exact ⟨u, by simpa using h1, h2⟩
theorem paired_get' {α β : Type} {R : α → β → Prop} : ∀ {vs : List α} {xs : List β} {i : Nat} {v : α}, Paired R vs xs → vs[i]? = some v → ∃ x, xs[i]? = some x ∧ R v x
  | _, _, _, _, .nil, e => by simp at e
  | _, _, 0, _, .cons r _, e => by simp at e; subst e; exact ⟨_, rfl, r⟩
  | _, _, i + 1, x, .cons _ t, e => by
    obtain ⟨u, h1, h2⟩ := paired_get' (i := i) (v := x) t (by simpa using e)
    exact ⟨u, by simpa using h1, h2⟩
theorem paired_app {α β : Type} {R : α → β → Prop} : ∀ {vs us : List α} {xs ys : List β}, Paired R vs xs → Paired R us ys → Paired R (vs ++ us) (xs ++ ys)
  | _, _, _, _, .nil, h => h
  | _, _, _, _, .cons r t, h => .cons r (paired_app t h)
theorem paired_drop {α β : Type} {R : α → β → Prop} : ∀ {vs : List α} {xs : List β} (n : Nat), Paired R vs xs → Paired R (vs.drop n) (xs.drop n)
  | _, _, 0, h => h
  | _, _, _ + 1, .nil => .nil
  | _, _, n + 1, .cons _ t => paired_drop n t
theorem paired_take {α β : Type} {R : α → β → Prop} : ∀ {vs : List α} {xs : List β} (n : Nat), Paired R vs xs → Paired R (vs.take n) (xs.take n)
  | _, _, 0, _ => .nil
  | _, _, _ + 1, .nil => .nil
  | _, _, n + 1, .cons r t => .cons r (paired_take n t)
theorem paired_ints {G : Hp} : ∀ {vs : List V} {xs : List Int}, Paired (rep G) vs xs → vs = xs.map V.int
  | _, _, .nil => rfl
  | _, _, .cons r t => by rw [rep_int r, paired_ints t]; rfl
theorem paired_of_ints {G : Hp} : ∀ (xs : List Int), Paired (rep G) (xs.map V.int) xs
  | [] => .nil
  | _ :: xs => .cons rfl (paired_of_ints xs)
theorem paired_bls {G : Hp} : ∀ {vs : List V} {xs : List Bool}, Paired (rep G) vs xs → vs = xs.map V.bl
  | _, _, .nil => rfl
  | _, _, .cons r t => by rw [rep_bl r, paired_bls t]; rfl

/-! ### what evaluates to what -/
section
variable {α β γ δ : Type} [Rep α] [Rep β] [Rep γ] [Rep δ]
def Ev (te : TE) (σ : L2.St) (G : Hp) (x : α) : Prop := ∀ H, Same G H → ∀ Q : VK, (∀ v G' H', Gr M0 G H G' H' → rep G' v x → Q v H') → te σ H Q
def EvT (tt : TT) (σ : L2.St) (G : Hp) (b : Bool) : Prop := ∀ H, Same G H → ∀ Q : Bool → Hp → Prop, (∀ G' H', Gr M0 G H G' H' → Q b H') → tt σ H Q
def EvAs (ta : TA) (σ : L2.St) (G : Hp) (xs : List α) : Prop := ∀ H, Same G H → ∀ Q : List V → Hp → Prop, (∀ vs G' H', Gr M0 G H G' H' → Paired (rep G') vs xs → Q vs H') → ta σ H Q
/-- a two-place operation on values -/
def Ev2 (r : R2) (v u : V) (G : Hp) (z : γ) : Prop := ∀ H, Same G H → ∀ Q : VK, (∀ w G' H', Gr M0 G H G' H' → rep G' w z → Q w H') → r v u H Q
theorem gr_up {G G1 H G' H' : Hp} (e : Same G G1) (i : Same G1 H) (g : Gr M0 G H G' H') : Gr M0 G1 H (uni G' G1) H' :=
  ⟨uni_r g.i (i.trans g.same), uni_i g.i (i.trans g.same), g.h, fun a o q => by
    rcases uni_c q with z | z
    · rcases g.n a o z with y | y
      · exact .inl (e a o y)
      · exact .inr y
    · exact .inl z⟩
variable {σ : L2.St} {G G1 : Hp} {te ta tb tc : TE} {tt tu : TT} {x : α} {y : β} {z : γ} {r r' : R2}
theorem Ev.mono (h : Ev te σ G x) (e : Same G G1) : Ev te σ G1 x := fun H i Q q => h H (e.trans i) Q fun v G' H' g k => q v (uni G' G1) H' (gr_up e i g) (Rep.mono uni_l k)
theorem EvT.mono {b : Bool} (h : EvT tt σ G b) (e : Same G G1) : EvT tt σ G1 b := fun H i Q q => h H (e.trans i) Q fun G' H' g => q (uni G' G1) H' (gr_up e i g)
theorem EvAs.mono {ta : TA} {xs : List α} (h : EvAs ta σ G xs) (e : Same G G1) : EvAs ta σ G1 xs := fun H i Q q => h H (e.trans i) Q fun v G' H' g k => q v (uni G' G1) H' (gr_up e i g) (paired_mono uni_l k)
theorem Ev.cast {x' : α} (h : Ev te σ G x) (e : x = x') : Ev te σ G x' := e ▸ h
theorem EvT.cast {b b' : Bool} (h : EvT tt σ G b) (e : b = b') : EvT tt σ G b' := e ▸ h
theorem ev_var {i : Nat} {v : V} (h : σ[i]? = some (some v)) (k : rep G v x) : Ev (tVar i) σ G x := fun H i Q q => ⟨v, h, q v G H (Gr.refl i) k⟩
theorem ev_c {v : V} (k : rep G v x) : Ev (tC v) σ G x := fun H i Q q => q v G H (Gr.refl i) k
theorem ev_int {n : Int} : Ev (tC (.int n)) σ G n := ev_c rfl
theorem ev_bl {n : Bool} : Ev (tC (.bl n)) σ G n := ev_c rfl
theorem ev_str {n : Str} : Ev (tC (.str n)) σ G n := ev_c rfl
theorem ev_non : Ev (tC .non) σ G () := ev_c rfl
/-- two, then a step on their values -/
theorem ev2 (ha : Ev ta σ G x) (hb : Ev tb σ G y) (hr : ∀ v u G', Same G G' → rep G' v x → rep G' u y → Ev2 r v u G' z) : Ev (tOp r ta tb) σ G z := fun H i Q q =>
  ha H i _ fun v G1 H1 g1 k1 => (hb.mono g1.g) H1 g1.i _ fun u G2 H2 g2 k2 =>
    hr v u G2 (g1.g.trans g2.g) (Rep.mono g2.g k1) k2 H2 g2.i Q fun w G3 H3 g3 k3 => q w G3 H3 ((g1.trans g2).trans g3) k3
theorem ev_I0 {g : Int → Int → V} {i j : Int} (hz : ∀ G', rep G' (g i j) z) (ha : Ev ta σ G i) (hb : Ev tb σ G j) : Ev (tOp (rI0 g) ta tb) σ G z :=
  ev2 ha hb fun v u G' _ k1 k2 H h Q q => ⟨i, j, k1, k2, q _ G' H (Gr.refl h) (hz G')⟩
theorem ev_I {C : Int → Int → Prop} {g : Int → Int → V} {i j : Int} (hz : ∀ G', rep G' (g i j) z) (hc : C i j) (ha : Ev ta σ G i) (hb : Ev tb σ G j) : Ev (tOp (rI C g) ta tb) σ G z :=
  ev2 ha hb fun v u G' _ k1 k2 H h Q q => ⟨i, j, k1, k2, hc, q _ G' H (Gr.refl h) (hz G')⟩
variable {i j : Int}
theorem ev_add (ha : Ev ta σ G i) (hb : Ev tb σ G j) : Ev (tOp (rI0 fun i j => .int (i + j)) ta tb) σ G (i + j) := ev_I0 (fun _ => rfl) ha hb
theorem ev_sub (ha : Ev ta σ G i) (hb : Ev tb σ G j) : Ev (tOp (rI0 fun i j => .int (i - j)) ta tb) σ G (i - j) := ev_I0 (fun _ => rfl) ha hb
theorem ev_mul (ha : Ev ta σ G i) (hb : Ev tb σ G j) (hc : CMul i j) : Ev (tOp (rI CMul fun i j => .int (i * j)) ta tb) σ G (i * j) := ev_I (fun _ => rfl) hc ha hb
theorem ev_mulW (ha : Ev ta σ G i) (hb : Ev tb σ G j) (hc : CMulW i j) : Ev (tOp (rI CMulW fun i j => .int (i * j)) ta tb) σ G (i * j) := ev_I (fun _ => rfl) hc ha hb
theorem ev_fdiv (ha : Ev ta σ G i) (hb : Ev tb σ G j) (hc : CDiv i j) : Ev (tOp (rI CDiv fun i j => .int (i / j)) ta tb) σ G (i / j) := ev_I (fun _ => rfl) hc ha hb
theorem ev_fdivW (ha : Ev ta σ G i) (hb : Ev tb σ G j) (hc : CDivW i j) : Ev (tOp (rI CDivW fun i j => .int (i / j)) ta tb) σ G (i / j) := ev_I (fun _ => rfl) hc ha hb
theorem ev_mod (ha : Ev ta σ G i) (hb : Ev tb σ G j) (hc : 0 < j) : Ev (tOp (rI (fun _ j => 0 < j) fun i j => .int (i % j)) ta tb) σ G (i % j) := ev_I (fun _ => rfl) hc ha hb
theorem ev_pow (ha : Ev ta σ G i) (hb : Ev tb σ G j) (hc : CPow i j) : Ev (tOp (rI CPow fun i j => .int (i ^ j.toNat)) ta tb) σ G (i ^ j.toNat) := ev_I (fun _ => rfl) hc ha hb
theorem ev_lt (ha : Ev ta σ G i) (hb : Ev tb σ G j) : Ev (tOp (rI0 fun i j => .bl (decide (i < j))) ta tb) σ G (decide (i < j)) := ev_I0 (fun _ => rfl) ha hb
theorem ev_le (ha : Ev ta σ G i) (hb : Ev tb σ G j) : Ev (tOp (rI0 fun i j => .bl (decide (i ≤ j))) ta tb) σ G (decide (i ≤ j)) := ev_I0 (fun _ => rfl) ha hb
theorem ev_gt (ha : Ev ta σ G i) (hb : Ev tb σ G j) : Ev (tOp (rI0 fun i j => .bl (decide (j < i))) ta tb) σ G (decide (j < i)) := ev_I0 (fun _ => rfl) ha hb
theorem ev_ge (ha : Ev ta σ G i) (hb : Ev tb σ G j) : Ev (tOp (rI0 fun i j => .bl (decide (j ≤ i))) ta tb) σ G (decide (j ≤ i)) := ev_I0 (fun _ => rfl) ha hb
theorem v_int_eq {i j : Int} : decide (V.int i = V.int j) = decide (i = j) := by
  by_cases h : i = j
  · rw [decide_eq_true h, decide_eq_true (congrArg V.int h)]
  · rw [decide_eq_false h, decide_eq_false (fun e => h (V.int.inj e))]
theorem v_str_eq {i j : Str} : decide (V.str i = V.str j) = decide (i = j) := by
  by_cases h : i = j
  · rw [decide_eq_true h, decide_eq_true (congrArg V.str h)]
  · rw [decide_eq_false h, decide_eq_false (fun e => h (V.str.inj e))]
theorem v_bl_eq {i j : Bool} : decide (V.bl i = V.bl j) = decide (i = j) := by
  by_cases h : i = j
  · rw [decide_eq_true h, decide_eq_true (congrArg V.bl h)]
  · rw [decide_eq_false h, decide_eq_false (fun e => h (V.bl.inj e))]
theorem ev_eqI (ha : Ev ta σ G i) (hb : Ev tb σ G j) : Ev (tOp rEq ta tb) σ G (decide (i = j)) :=
  ev2 ha hb fun v u G' _ k1 k2 H h Q q => by
    cases k1; cases k2
    exact ⟨rfl, q _ G' H (Gr.refl h) (by rw [v_int_eq]; rfl)⟩
theorem ev_neI (ha : Ev ta σ G i) (hb : Ev tb σ G j) : Ev (tOp rNe ta tb) σ G (!decide (i = j)) :=
  ev2 ha hb fun v u G' _ k1 k2 H h Q q => by
    cases k1; cases k2
    exact ⟨rfl, q _ G' H (Gr.refl h) (by rw [v_int_eq]; rfl)⟩
theorem ev_eqS {i j : Str} (ha : Ev ta σ G i) (hb : Ev tb σ G j) : Ev (tOp rEq ta tb) σ G (decide (i = j)) :=
  ev2 ha hb fun v u G' _ k1 k2 H h Q q => by
    cases k1; cases k2
    exact ⟨rfl, q _ G' H (Gr.refl h) (by rw [v_str_eq]; rfl)⟩
theorem ev_neS {i j : Str} (ha : Ev ta σ G i) (hb : Ev tb σ G j) : Ev (tOp rNe ta tb) σ G (!decide (i = j)) :=
  ev2 ha hb fun v u G' _ k1 k2 H h Q q => by
    cases k1; cases k2
    exact ⟨rfl, q _ G' H (Gr.refl h) (by rw [v_str_eq]; rfl)⟩
theorem ev_eqB {i j : Bool} (ha : Ev ta σ G i) (hb : Ev tb σ G j) : Ev (tOp rEq ta tb) σ G (decide (i = j)) :=
  ev2 ha hb fun v u G' _ k1 k2 H h Q q => by
    cases k1; cases k2
    exact ⟨rfl, q _ G' H (Gr.refl h) (by rw [v_bl_eq]; rfl)⟩
theorem ev_neB {i j : Bool} (ha : Ev ta σ G i) (hb : Ev tb σ G j) : Ev (tOp rNe ta tb) σ G (!decide (i = j)) :=
  ev2 ha hb fun v u G' _ k1 k2 H h Q q => by
    cases k1; cases k2
    exact ⟨rfl, q _ G' H (Gr.refl h) (by rw [v_bl_eq]; rfl)⟩
theorem ev_neg (ha : Ev ta σ G i) : Ev (tUn (rU fun i => .int (-i)) ta) σ G (-i) := fun H h Q q => ha H h _ fun v G' H' g k => ⟨i, k, q _ G' H' g rfl⟩
/-! tests -/
theorem et_test {b : Bool} (h : Ev te σ G b) : EvT (tTest te) σ G b := fun H i Q q => h H i _ fun v G' H' g k => ⟨b, k, q G' H' g⟩
theorem et_B {b : Bool} (h : Ev te σ G b) : EvT (tB te) σ G b := fun H i Q q => h H i _ fun v G' H' g k => ⟨b, k, q G' H' g⟩
theorem et_yes : EvT tYes σ G true := fun H i Q q => q G H (Gr.refl i)
theorem et_not {b : Bool} (h : EvT tt σ G b) : EvT (tNot tt) σ G (!b) := fun H i Q q => h H i _ fun G' H' g => q G' H' g
theorem et_and {a b : Bool} (h1 : EvT tt σ G a) (h2 : a = true → EvT tu σ G b) : EvT (tAnd tt tu) σ G (a && b) := fun H i Q q => h1 H i _ fun G1 H1 g1 => by
  cases a with
  | true =>
    show tu σ H1 Q
    exact ((h2 rfl).mono g1.g) H1 g1.i Q fun G2 H2 g2 => q G2 H2 (g1.trans g2)
  | false =>
    show Q false H1
    exact q G1 H1 g1
theorem et_or {a b : Bool} (h1 : EvT tt σ G a) (h2 : a = false → EvT tu σ G b) : EvT (tOr tt tu) σ G (a || b) := fun H i Q q => h1 H i _ fun G1 H1 g1 => by
  cases a with
  | false =>
    show tu σ H1 Q
    exact ((h2 rfl).mono g1.g) H1 g1.i Q fun G2 H2 g2 => q G2 H2 (g1.trans g2)
  | true =>
    show Q true H1
    exact q G1 H1 g1
theorem ev_andV {a b : Bool} (h1 : Ev ta σ G a) (h2 : a = true → Ev tb σ G b) : Ev (tAndV ta tb) σ G (a && b) := fun H i Q q => h1 H i _ fun v G1 H1 g1 k1 => ⟨a, k1, by
  cases a with
  | true =>
    show tb σ H1 Q
    exact ((h2 rfl).mono g1.g) H1 g1.i Q fun v G2 H2 g2 k2 => q v G2 H2 (g1.trans g2) k2
  | false =>
    show Q (.bl false) H1
    exact q _ G1 H1 g1 rfl⟩
theorem ev_orV {a b : Bool} (h1 : Ev ta σ G a) (h2 : a = false → Ev tb σ G b) : Ev (tOrV ta tb) σ G (a || b) := fun H i Q q => h1 H i _ fun v G1 H1 g1 k1 => ⟨a, k1, by
  cases a with
  | false =>
    show tb σ H1 Q
    exact ((h2 rfl).mono g1.g) H1 g1.i Q fun v G2 H2 g2 k2 => q v G2 H2 (g1.trans g2) k2
  | true =>
    show Q (.bl true) H1
    exact q _ G1 H1 g1 rfl⟩
theorem ev_notV {a : Bool} (h1 : Ev ta σ G a) : Ev (tNotV ta) σ G (!a) := fun H i Q q => h1 H i _ fun v G1 H1 g1 k1 => ⟨a, k1, q _ G1 H1 g1 rfl⟩
theorem ev_if {b : Bool} {x y : α} (h : EvT tt σ G b) (h1 : b = true → Ev ta σ G x) (h2 : b = false → Ev tb σ G y) : Ev (tIf tt ta tb) σ G (if b = true then x else y) := fun H i Q q => h H i _ fun G1 H1 g1 => by
  cases b with
  | true =>
    show ta σ H1 Q
    exact ((h1 rfl).mono g1.g) H1 g1.i Q fun v G2 H2 g2 k2 => q v G2 H2 (g1.trans g2) k2
  | false =>
    show tb σ H1 Q
    exact ((h2 rfl).mono g1.g) H1 g1.i Q fun v G2 H2 g2 k2 => q v G2 H2 (g1.trans g2) k2
/-! a < b < c -/
theorem ev_chain {a b : Bool} (ha : Ev ta σ G x) (hb : Ev tb σ G y) (hc : a = true → Ev tc σ G z)
    (hr : ∀ v u G', Same G G' → rep G' v x → rep G' u y → Ev2 r v u G' a) (hr' : ∀ u w G', Same G G' → rep G' u y → rep G' w z → Ev2 r' u w G' b) : Ev (tChain r r' ta tb tc) σ G (a && b) := fun H i Q q =>
  ha H i _ fun v G1 H1 g1 k1 => (hb.mono g1.g) H1 g1.i _ fun u G2 H2 g2 k2 => hr v u G2 (g1.g.trans g2.g) (Rep.mono g2.g k1) k2 H2 g2.i _ fun w G3 H3 g3 k3 => ⟨a, k3, by
    have g13 := (g1.trans g2).trans g3
    cases a with
    | true =>
      show tc σ H3 _
      exact ((hc rfl).mono g13.g) H3 g3.i _ fun w4 G4 H4 g4 k4 => hr' u w4 G4 (g13.g.trans g4.g) (Rep.mono (g3.g.trans g4.g) k2) k4 H4 g4.i Q fun w5 G5 H5 g5 k5 => q w5 G5 H5 ((g13.trans g4).trans g5) k5
    | false =>
      show Q (.bl false) H3
      exact q _ G3 H3 g13 rfl⟩
theorem r_I0 {g : Int → Int → V} {i j : Int} (hz : ∀ G', rep G' (g i j) z) : ∀ v u G', Same G G' → rep G' v i → rep G' u j → Ev2 (rI0 g) v u G' z := fun v u G' _ k1 k2 H h Q q => ⟨i, j, k1, k2, q _ G' H (Gr.refl h) (hz G')⟩
theorem r_lt : ∀ v u G', Same G G' → rep G' v i → rep G' u j → Ev2 (rI0 fun i j => .bl (decide (i < j))) v u G' (decide (i < j)) := r_I0 fun _ => rfl
theorem r_le : ∀ v u G', Same G G' → rep G' v i → rep G' u j → Ev2 (rI0 fun i j => .bl (decide (i ≤ j))) v u G' (decide (i ≤ j)) := r_I0 fun _ => rfl
/-! displays -/
theorem evs_nil : EvAs (α := α) tNil σ G [] := fun H i Q q => q [] G H (Gr.refl i) .nil
theorem evs_cons {tr : TA} {xs : List α} (ha : Ev ta σ G x) (hr : EvAs tr σ G xs) : EvAs (tCons ta tr) σ G (x :: xs) := fun H i Q q =>
  ha H i _ fun v G1 H1 g1 k1 => (hr.mono g1.g) H1 g1.i _ fun vs G2 H2 g2 k2 => q _ G2 H2 (g1.trans g2) (.cons (Rep.mono g2.g k1) k2)
/-- a new object that stays still -/
theorem gr_new {G H : Hp} {p : Addr} {o : HO} (i : Same G H) (np : H p = none) : Gr M0 G H (upd G p o) (upd H p o) :=
  ⟨fun a u e => by rw [upd_ne (fun z => by subst z; rw [i _ _ e] at np; cases np)]; exact e,
   fun a u e => by
     by_cases h : a = p
     · subst h; rw [upd_same] at e ⊢; exact e
     · rw [upd_ne h] at e ⊢; exact i a u e,
   SB.of fun a u e => by rw [upd_ne (ne_of_none e np)]; exact e,
   fun a u e => by
     by_cases h : a = p
     · subst h; exact .inr np
     · rw [upd_ne h] at e; exact .inl e⟩
theorem sl_small {n : Nat} (h : n ≤ 100000) : n ≤ sizeLine := Nat.le_trans h (by decide)
theorem sl_lt {n : Nat} (h : n < 100000) : n < sizeLine := Nat.lt_of_lt_of_le h (by decide)
theorem ev_lst {tr : TA} {xs : List α} (h : EvAs tr σ G xs) (hl : xs.length ≤ 100000) : Ev (tLst tr) σ G xs := fun H i Q q =>
  h H i _ fun vs G1 H1 g1 k1 => ⟨by rw [paired_len k1]; exact sl_small hl, fun p np => q _ (upd G1 p (.lst vs)) _ (g1.trans (gr_new g1.i np)) ⟨p, vs, rfl, upd_same, paired_mono (gr_new (o := .lst vs) g1.i np).g k1⟩⟩
theorem ev_tupn {tr : TA} {xs : List α} (h : EvAs tr σ G xs) (hl : xs.length ≤ 100000) : Ev (tTup tr) σ G (Tup.mk xs) := fun H i Q q =>
  h H i _ fun vs G1 H1 g1 k1 => ⟨by rw [paired_len k1]; exact sl_small hl, fun p np => q _ (upd G1 p (.tup vs)) _ (g1.trans (gr_new g1.i np)) ⟨p, vs, rfl, upd_same, paired_mono (gr_new (o := .tup vs) g1.i np).g k1⟩⟩
theorem ev_tup2 (ha : Ev ta σ G x) (hb : Ev tb σ G y) : Ev (tTup (tCons ta (tCons tb tNil))) σ G (x, y) := fun H i Q q =>
  ha H i _ fun v G1 H1 g1 k1 => (hb.mono g1.g) H1 g1.i _ fun u G2 H2 g2 k2 => ⟨by show 2 ≤ sizeLine; decide, fun p np =>
    q _ (upd G2 p (.tup [v, u])) _ ((g1.trans g2).trans (gr_new g2.i np)) ⟨p, v, u, rfl, upd_same, Rep.mono (g2.g.trans (gr_new g2.i np).g) k1, Rep.mono (gr_new g2.i np).g k2⟩⟩
theorem ev_tup3 (ha : Ev ta σ G x) (hb : Ev tb σ G y) (hc : Ev tc σ G z) : Ev (tTup (tCons ta (tCons tb (tCons tc tNil)))) σ G (Tri.mk x y z) := fun H i Q q =>
  ha H i _ fun v G1 H1 g1 k1 => (hb.mono g1.g) H1 g1.i _ fun u G2 H2 g2 k2 => (hc.mono (g1.g.trans g2.g)) H2 g2.i _ fun w G3 H3 g3 k3 => ⟨by show 3 ≤ sizeLine; decide, fun p np =>
    q _ (upd G3 p (.tup [v, u, w])) _ (((g1.trans g2).trans g3).trans (gr_new g3.i np)) ⟨p, v, u, w, rfl, upd_same, Rep.mono (g2.g.trans (g3.g.trans (gr_new g3.i np).g)) k1, Rep.mono (g3.g.trans (gr_new g3.i np).g) k2, Rep.mono (gr_new g3.i np).g k3⟩⟩
end
end Pf

namespace Pf
open PySem PySem.Spec PyProof.Rows L2

/-! ### changes of what is not still -/
theorem Gr.mut {M : Addr → Prop} {Ge He G H : Hp} {p : Addr} {o : HO} (x : Gr M Ge He G H) (hp : He p = none ∨ M p) (hg : G p = none) : Gr M Ge He G (upd H p o) :=
  ⟨x.g, fun a u e => by rw [upd_ne (ne_of_none e hg)]; exact x.i a u e,
   fun a u m e => by
     have ne : a ≠ p := fun z => by
       subst z
       rcases hp with h | h
       · rw [h] at e; cases e
       · exact m h
     rw [upd_ne ne]; exact x.h a u m e, x.n⟩
theorem same_mut {G H : Hp} {p : Addr} {o : HO} (i : Same G H) (hg : G p = none) : Same G (upd H p o) := fun a u e => by rw [upd_ne (ne_of_none e hg)]; exact i a u e
theorem same_new {H : Hp} {p : Addr} (h : H p = none) {o : HO} : Same H (upd H p o) := fun b u q => by rw [upd_ne (ne_of_none q h)]; exact q
/-- what stands outside becomes still -/
theorem Gr.still {M : Addr → Prop} {Ge He G H : Hp} {p : Addr} {o : HO} (x : Gr M Ge He G H) (hp : He p = none) (hg : G p = none) (hh : H p = some o) : Gr M Ge He (upd G p o) H :=
  ⟨x.g.trans (same_new hg), fun a u e => by
     by_cases h : a = p
     · subst h; rw [upd_same] at e; cases e; exact hh
     · rw [upd_ne h] at e; exact x.i a u e,
   x.h, fun a u e => by
     by_cases h : a = p
     · subst h; exact .inr hp
     · rw [upd_ne h] at e; exact x.n a u e⟩
theorem same_still {G H : Hp} {p : Addr} {o : HO} (i : Same G H) (hh : H p = some o) : Same (upd G p o) H := fun a u e => by
  by_cases h : a = p
  · subst h; rw [upd_same] at e; cases e; exact hh
  · rw [upd_ne h] at e; exact i a u e
/-- kinds whose values do not lean on the heap -/
class Flat (α : Type) [Rep α] : Prop where
  any : ∀ {G G' : Hp} {v : V} {x : α}, rep G v x → rep G' v x
instance : Flat Int := ⟨fun h => h⟩
instance : Flat Bool := ⟨fun h => h⟩
instance : Flat Str := ⟨fun h => h⟩
instance : Flat Unit := ⟨fun h => h⟩
section
variable {α β γ δ ε ζ : Type} [Rep α] [Rep β] [Rep γ] [Rep δ] [Rep ε] [Rep ζ]
/-- a list that is still being made -/
def Ml (G H : Hp) (p : Addr) (xs : List α) : Prop := G p = none ∧ ∃ vs, H p = some (.lst vs) ∧ Paired (rep G) vs xs
theorem Ml.step {M : Addr → Prop} {G H G' H' : Hp} {p : Addr} {xs : List α} (m : Ml G H p xs) (g : Gr M G H G' H') (hp : ¬ M p) : Ml G' H' p xs := by
  obtain ⟨h1, vs, h2, h3⟩ := m
  exact ⟨g.out h1 h2, vs, g.h p _ hp h2, paired_mono g.g h3⟩
theorem Ml.step0 {G H G' H' : Hp} {p : Addr} {xs : List α} (m : Ml G H p xs) (g : Gr M0 G H G' H') : Ml G' H' p xs := m.step g (fun z => z)
theorem Ml.other {G H : Hp} {p q : Addr} {o : HO} {xs : List α} (m : Ml G H p xs) (ne : p ≠ q) : Ml G (upd H q o) p xs := by
  obtain ⟨h1, vs, h2, h3⟩ := m
  exact ⟨h1, vs, by rw [upd_ne ne]; exact h2, h3⟩
theorem Ml.sq {K : Fg} {G H : Hp} {p : Addr} {xs : List α} (m : Ml G H p xs) : ∃ vs, SqL K H p vs := by
  obtain ⟨_, vs, h, _⟩ := m
  exact ⟨vs, .inl (.inl h)⟩

def EvG (te : TE) (σ : L2.St) (G : Hp) (x : α) : Prop := Ev te σ G x
variable {σ : L2.St} {G H G1 H1 : Hp} {te ta tb tc td tf : TE} {tt tu : TT} {x : α} {y : β} {z : γ} {r r' : R2} {K : Fg}
/-- an expression of a flat kind, over a heap of which more is taken as still -/
theorem Ev.flat [Flat α] {Q : VK} (h : Ev te σ G1 x) (i : Same G1 H) (g : Same G H) (k : ∀ v H', Gr M0 G H G H' → Same H H' → rep G v x → Q v H') : te σ H Q :=
  h H i Q fun v G' H' g' r => k v H' ⟨Same.refl G, g.trans g'.same, g'.h, fun _ _ e => .inl e⟩ g'.same (Flat.any r)
theorem EvT.flat {b : Bool} {Q : Bool → Hp → Prop} (h : EvT tt σ G1 b) (i : Same G1 H) (g : Same G H) (k : ∀ H', Gr M0 G H G H' → Same H H' → Q b H') : tt σ H Q :=
  h H i Q fun G' H' g' => k H' ⟨Same.refl G, g.trans g'.same, g'.h, fun _ _ e => .inl e⟩ g'.same
theorem Ml.rep {p : Addr} {xs : List α} (m : Ml G H p xs) (i : Same G H) : ∃ o, H p = some o ∧ Same G (upd G p o) ∧ Same (upd G p o) H ∧ Pf.rep (upd G p o) (.ref p) xs := by
  obtain ⟨h1, vs, h2, h3⟩ := m
  exact ⟨_, h2, same_new h1, same_still i h2, p, vs, rfl, upd_same, paired_mono (same_new h1) h3⟩

/-! ### subscripts, len -/
def ix [Inhabited α] (xs : List α) (i : Int) : α := (xs[i.toNat]?).getD default
theorem ix_nat [Inhabited α] {xs : List α} {n : Nat} {v : α} (h : xs[n]? = some v) : ix xs (n : Int) = v := by unfold ix; rw [Int.toNat_natCast, h]; rfl
theorem at_ix [Inhabited α] {vs : List V} {xs : List α} {i : Int} (p : Paired (Pf.rep G) vs xs) (h : 0 ≤ i ∧ i < xs.length) : ∃ v, atI vs i = some v ∧ Pf.rep G v (ix xs i) := by
  have hi : i.toNat < xs.length := by omega
  obtain ⟨v, h1, h2⟩ := paired_get p (List.getElem?_eq_getElem hi)
  refine ⟨v, ?_, ?_⟩
  · have e : i = ((i.toNat : Nat) : Int) := by omega
    rw [e]; exact atI_nat h1
  · unfold ix; rw [List.getElem?_eq_getElem hi]; exact h2
theorem ev_ixL [Inhabited α] {xs : List α} {i : Int} (ha : Ev ta σ G xs) (hb : Ev tb σ G i) (h : 0 ≤ i ∧ i < xs.length) : Ev (tOp (rIxL K) ta tb) σ G (ix xs i) :=
  ev2 ha hb fun v u G' _ k1 k2 H hh Q q => by
    obtain ⟨a, vs, rfl, h2, h3⟩ := k1
    cases k2
    obtain ⟨w, e1, e2⟩ := at_ix h3 h
    exact ⟨a, vs, i, w, rfl, rfl, .inl (.inl (hh _ _ h2)), e1, q w G' H (Gr.refl hh) e2⟩
theorem ev_ixT [Inhabited α] {xs : Tup α} {i : Int} (ha : Ev ta σ G xs) (hb : Ev tb σ G i) (h : 0 ≤ i ∧ i < xs.l.length) : Ev (tOp (rIxT K) ta tb) σ G (ix xs.l i) :=
  ev2 ha hb fun v u G' _ k1 k2 H hh Q q => by
    obtain ⟨a, vs, rfl, h2, h3⟩ := k1
    cases k2
    obtain ⟨w, e1, e2⟩ := at_ix h3 h
    exact ⟨a, vs, i, w, rfl, rfl, .inl (.inl (hh _ _ h2)), e1, q w G' H (Gr.refl hh) e2⟩
theorem ev_ixLast [Inhabited α] {xs : List α} (ha : Ev ta σ G xs) (hb : Ev tb σ G (-1 : Int)) (h : xs ≠ []) : Ev (tOp (rIxL K) ta tb) σ G (xs.getLastD default) :=
  ev2 ha hb fun v u G' _ k1 k2 H hh Q q => by
    obtain ⟨a, vs, rfl, h2, h3⟩ := k1
    cases k2
    have hl := paired_len h3
    have hx : xs.length ≠ 0 := fun e => h (List.length_eq_zero_iff.mp e)
    obtain ⟨w, e1, e2⟩ := paired_get h3 (i := xs.length - 1) (List.getElem?_eq_getElem (by omega))
    refine ⟨a, vs, -1, w, rfl, rfl, .inl (.inl (hh _ _ h2)), ?_, q w G' H (Gr.refl hh) ?_⟩
    · unfold atI ixN
      rw [if_neg (by decide), if_pos (by omega)]
      show vs[((-1 : Int) + vs.length).toNat]? = some w
      rw [show ((-1 : Int) + vs.length).toNat = xs.length - 1 by omega]
      exact e1
    · have e3 : xs.getLastD default = xs[xs.length - 1] := by
        rw [List.getLastD_eq_getLast?, List.getLast?_eq_getElem?, List.getElem?_eq_getElem (by omega)]
        rfl
      rw [e3]; exact e2
theorem ev_fst {x : α × β} (ha : Ev ta σ G x) : Ev (tOp (rIxT K) ta (tC (.int 0))) σ G x.1 := fun H i Q q => ha H i _ fun v G1 H1 g1 k1 => by
  obtain ⟨a, u, w, rfl, h2, h3, h4⟩ := k1
  exact ⟨a, [u, w], 0, u, rfl, rfl, .inl (.inl (g1.i _ _ h2)), rfl, q u G1 H1 g1 h3⟩
theorem ev_snd {x : α × β} (ha : Ev ta σ G x) : Ev (tOp (rIxT K) ta (tC (.int 1))) σ G x.2 := fun H i Q q => ha H i _ fun v G1 H1 g1 k1 => by
  obtain ⟨a, u, w, rfl, h2, h3, h4⟩ := k1
  exact ⟨a, [u, w], 1, w, rfl, rfl, .inl (.inl (g1.i _ _ h2)), rfl, q w G1 H1 g1 h4⟩
theorem ev_t0 {x : Tri α β γ} (ha : Ev ta σ G x) : Ev (tOp (rIxT K) ta (tC (.int 0))) σ G x.a := fun H i Q q => ha H i _ fun v G1 H1 g1 k1 => by
  obtain ⟨a, u, w, z, rfl, h2, h3, h4, h5⟩ := k1
  exact ⟨a, [u, w, z], 0, u, rfl, rfl, .inl (.inl (g1.i _ _ h2)), rfl, q u G1 H1 g1 h3⟩
theorem ev_t1 {x : Tri α β γ} (ha : Ev ta σ G x) : Ev (tOp (rIxT K) ta (tC (.int 1))) σ G x.b := fun H i Q q => ha H i _ fun v G1 H1 g1 k1 => by
  obtain ⟨a, u, w, z, rfl, h2, h3, h4, h5⟩ := k1
  exact ⟨a, [u, w, z], 1, w, rfl, rfl, .inl (.inl (g1.i _ _ h2)), rfl, q w G1 H1 g1 h4⟩
theorem ev_t2 {x : Tri α β γ} (ha : Ev ta σ G x) : Ev (tOp (rIxT K) ta (tC (.int 2))) σ G x.c := fun H i Q q => ha H i _ fun v G1 H1 g1 k1 => by
  obtain ⟨a, u, w, z, rfl, h2, h3, h4, h5⟩ := k1
  exact ⟨a, [u, w, z], 2, z, rfl, rfl, .inl (.inl (g1.i _ _ h2)), rfl, q z G1 H1 g1 h5⟩
/-- a built-in of one argument, of two -/
theorem ev_B1 {r : List V → Hp → VK → Prop} (ha : Ev ta σ G x) (hr : ∀ v G' H, Same G G' → Same G' H → rep G' v x → ∀ Q : VK, (∀ w G2 H2, Gr M0 G' H G2 H2 → rep G2 w y → Q w H2) → r [v] H Q) : Ev (tCB r (tCons ta tNil)) σ G y := fun H i Q q =>
  ha H i _ fun v G1 H1 g1 k1 => hr v G1 H1 g1.g g1.i k1 Q fun w G2 H2 g2 k2 => q w G2 H2 (g1.trans g2) k2
theorem ev_B2 {r : List V → Hp → VK → Prop} (ha : Ev ta σ G x) (hb : Ev tb σ G y) (hr : ∀ v u G' H, Same G G' → Same G' H → rep G' v x → rep G' u y → ∀ Q : VK, (∀ w G2 H2, Gr M0 G' H G2 H2 → rep G2 w z → Q w H2) → r [v, u] H Q) : Ev (tCB r (tCons ta (tCons tb tNil))) σ G z := fun H i Q q =>
  ha H i _ fun v G1 H1 g1 k1 => (hb.mono g1.g) H1 g1.i _ fun u G2 H2 g2 k2 => hr v u G2 H2 (g1.g.trans g2.g) g2.i (Rep.mono g2.g k1) k2 Q fun w G3 H3 g3 k3 => q w G3 H3 ((g1.trans g2).trans g3) k3
abbrev rLen (K : Fg) : List V → Hp → VK → Prop := fun xs H Q => ∃ p ys, xs = [.ref p] ∧ (SqL K H p ys ∨ SqT K H p ys) ∧ Q (.int ys.length) H
theorem ev_lenL {xs : List α} (ha : Ev ta σ G xs) : Ev (tCB (rLen K) (tCons ta tNil)) σ G (xs.length : Int) := ev_B1 ha fun v G' H _ i k Q q => by
  obtain ⟨a, vs, rfl, h2, h3⟩ := k
  exact ⟨a, vs, rfl, .inl (.inl (.inl (i _ _ h2))), q _ G' H (Gr.refl i) (by rw [paired_len h3]; rfl)⟩
theorem ev_lenT {xs : Tup α} (ha : Ev ta σ G xs) : Ev (tCB (rLen K) (tCons ta tNil)) σ G (xs.l.length : Int) := ev_B1 ha fun v G' H _ i k Q q => by
  obtain ⟨a, vs, rfl, h2, h3⟩ := k
  exact ⟨a, vs, rfl, .inr (.inl (.inl (i _ _ h2))), q _ G' H (Gr.refl i) (by rw [paired_len h3]; rfl)⟩
theorem ev_sum {xs : List Int} (ha : Ev ta σ G xs) : Ev (tCB (rSum K) (tCons ta tNil)) σ G xs.sum := ev_B1 ha fun v G' H _ i k Q q => by
  obtain ⟨a, vs, rfl, h2, h3⟩ := k
  exact ⟨a, xs, rfl, .inl (.inl (by rw [← paired_ints h3]; exact i _ _ h2)), q _ G' H (Gr.refl i) rfl⟩
theorem ev_all {xs : List Bool} (ha : Ev ta σ G xs) : Ev (tCB (rAll K) (tCons ta tNil)) σ G (xs.all id) := ev_B1 ha fun v G' H _ i k Q q => by
  obtain ⟨a, vs, rfl, h2, h3⟩ := k
  exact ⟨a, xs, rfl, .inl (.inl (by rw [← paired_bls h3]; exact i _ _ h2)), q _ G' H (Gr.refl i) rfl⟩
theorem ev_any {xs : List Bool} (ha : Ev ta σ G xs) : Ev (tCB (rAny K) (tCons ta tNil)) σ G (xs.any id) := ev_B1 ha fun v G' H _ i k Q q => by
  obtain ⟨a, vs, rfl, h2, h3⟩ := k
  exact ⟨a, xs, rfl, .inl (.inl (by rw [← paired_bls h3]; exact i _ _ h2)), q _ G' H (Gr.refl i) rfl⟩
abbrev rAbs : List V → Hp → VK → Prop := fun xs H Q => ∃ i, xs = [.int i] ∧ Q (.int (if i < 0 then -i else i)) H
abbrev rMax2 : List V → Hp → VK → Prop := fun xs H Q => ∃ i j, xs = [.int i, .int j] ∧ Q (.int (if j > i then j else i)) H
abbrev rMin2 : List V → Hp → VK → Prop := fun xs H Q => ∃ i j, xs = [.int i, .int j] ∧ Q (.int (if j < i then j else i)) H
abbrev rInt1 : List V → Hp → VK → Prop := fun xs H Q => (∃ i, xs = [.int i] ∧ Q (.int i) H) ∨ ∃ k, xs = [.bl k] ∧ Q (.int (if k then 1 else 0)) H
theorem ev_abs {i : Int} (ha : Ev ta σ G i) : Ev (tCB rAbs (tCons ta tNil)) σ G (if i < 0 then -i else i) := ev_B1 ha fun v G' H _ h k Q q => ⟨i, by rw [rep_int k], q _ G' H (Gr.refl h) rfl⟩
theorem ev_max2 {i j : Int} (ha : Ev ta σ G i) (hb : Ev tb σ G j) : Ev (tCB rMax2 (tCons ta (tCons tb tNil))) σ G (if j > i then j else i) := ev_B2 ha hb fun v u G' H _ h k1 k2 Q q => ⟨i, j, by rw [rep_int k1, rep_int k2], q _ G' H (Gr.refl h) rfl⟩
theorem ev_min2 {i j : Int} (ha : Ev ta σ G i) (hb : Ev tb σ G j) : Ev (tCB rMin2 (tCons ta (tCons tb tNil))) σ G (if j < i then j else i) := ev_B2 ha hb fun v u G' H _ h k1 k2 Q q => ⟨i, j, by rw [rep_int k1, rep_int k2], q _ G' H (Gr.refl h) rfl⟩
theorem ev_intB {b : Bool} (ha : Ev ta σ G b) : Ev (tCB rInt1 (tCons ta tNil)) σ G (if b = true then (1 : Int) else 0) := ev_B1 ha fun v G' H _ h k Q q => .inr ⟨b, by rw [rep_bl k], q _ G' H (Gr.refl h) rfl⟩
abbrev rTupOf (K : Fg) : List V → Hp → VK → Prop := fun xs H Q => ∃ p ys, xs = [.ref p] ∧ ((SqL K H p ys ∧ ∀ l, H l = none → Q (.ref l) (upd H l (.tup ys))) ∨ (SqT K H p ys ∧ Q (.ref p) H))
abbrev rListOf (K : Fg) : List V → Hp → VK → Prop := fun xs H Q => ∃ p ys, xs = [.ref p] ∧ (SqL K H p ys ∨ SqT K H p ys) ∧ ∀ l, H l = none → Q (.ref l) (upd H l (.lst ys))
theorem ev_tupleL {xs : List α} (ha : Ev ta σ G xs) : Ev (tCB (rTupOf K) (tCons ta tNil)) σ G (Tup.mk xs) := ev_B1 ha fun v G' H _ i k Q q => by
  obtain ⟨a, vs, rfl, h2, h3⟩ := k
  exact ⟨a, vs, rfl, .inl ⟨.inl (.inl (i _ _ h2)), fun l nl => q _ (upd G' l (.tup vs)) _ (gr_new i nl) ⟨l, vs, rfl, upd_same, paired_mono (gr_new (o := .tup vs) i nl).g h3⟩⟩⟩
theorem ev_listT {xs : Tup α} (ha : Ev ta σ G xs) : Ev (tCB (rListOf K) (tCons ta tNil)) σ G xs.l := ev_B1 ha fun v G' H _ i k Q q => by
  obtain ⟨a, vs, rfl, h2, h3⟩ := k
  exact ⟨a, vs, rfl, .inr (.inl (.inl (i _ _ h2))), fun l nl => q _ (upd G' l (.lst vs)) _ (gr_new i nl) ⟨l, vs, rfl, upd_same, paired_mono (gr_new (o := .lst vs) i nl).g h3⟩⟩
theorem ev_catL {xs ys : List α} (ha : Ev ta σ G xs) (hb : Ev tb σ G ys) (hl : xs.length + ys.length ≤ 100000) : Ev (tOp rCat ta tb) σ G (xs ++ ys) :=
  ev2 ha hb fun v u G' _ k1 k2 H i Q q => by
    obtain ⟨a, vs, rfl, h2, h3⟩ := k1
    obtain ⟨b, us, rfl, h4, h5⟩ := k2
    exact ⟨a, b, vs, us, rfl, rfl, i _ _ h2, i _ _ h4, by rw [paired_len h3, paired_len h5]; exact sl_small hl, fun p np => q _ (upd G' p (.lst (vs ++ us))) _ (gr_new i np) ⟨p, _, rfl, upd_same, paired_mono (gr_new (o := .lst (vs ++ us)) i np).g (paired_app h3 h5)⟩⟩

/-! ### calls -/
def sp1 (pre : α → Prop) (f : α → β) : Sp := fun vs H Q _ => ∃ v x G, vs = [v] ∧ Same G H ∧ rep G v x ∧ pre x ∧ ∀ w G' H', Gr M0 G H G' H' → rep G' w (f x) → Q w H'
def sp2 (pre : α → β → Prop) (f : α → β → γ) : Sp := fun vs H Q _ => ∃ v x v2 x2 G, vs = [v, v2] ∧ Same G H ∧ rep G v x ∧ rep G v2 x2 ∧ pre x x2 ∧ ∀ w G' H', Gr M0 G H G' H' → rep G' w (f x x2) → Q w H'
def sp3 (pre : α → β → γ → Prop) (f : α → β → γ → δ) : Sp := fun vs H Q _ => ∃ v x v2 x2 v3 x3 G, vs = [v, v2, v3] ∧ Same G H ∧ rep G v x ∧ rep G v2 x2 ∧ rep G v3 x3 ∧ pre x x2 x3 ∧ ∀ w G' H', Gr M0 G H G' H' → rep G' w (f x x2 x3) → Q w H'
def sp4 (pre : α → β → γ → δ → Prop) (f : α → β → γ → δ → ε) : Sp := fun vs H Q _ => ∃ v x v2 x2 v3 x3 v4 x4 G, vs = [v, v2, v3, v4] ∧ Same G H ∧ rep G v x ∧ rep G v2 x2 ∧ rep G v3 x3 ∧ rep G v4 x4 ∧ pre x x2 x3 x4 ∧ ∀ w G' H', Gr M0 G H G' H' → rep G' w (f x x2 x3 x4) → Q w H'
def sp5 (pre : α → β → γ → δ → ε → Prop) (f : α → β → γ → δ → ε → ζ) : Sp := fun vs H Q _ => ∃ v x v2 x2 v3 x3 v4 x4 v5 x5 G, vs = [v, v2, v3, v4, v5] ∧ Same G H ∧ rep G v x ∧ rep G v2 x2 ∧ rep G v3 x3 ∧ rep G v4 x4 ∧ rep G v5 x5 ∧ pre x x2 x3 x4 x5 ∧ ∀ w G' H', Gr M0 G H G' H' → rep G' w (f x x2 x3 x4 x5) → Q w H'
variable {x2 : β} {x3 : γ} {x4 : δ} {x5 : ε}
theorem ev_call1 {pre : α → Prop} {f : α → β} (ha : Ev ta σ G x) (hp : pre x) : Ev (tCall (sp1 pre f) [] E0 (tCons ta tNil)) σ G (f x) := fun H i Q q =>
  ha H i _ fun v G1 H1 g1 k1 => ⟨v, x, G1, rfl, g1.i, k1, hp, fun w G' H' g k => q w G' H' (g1.trans g) k⟩
theorem ev_call2 {pre : α → β → Prop} {f : α → β → γ} (ha : Ev ta σ G x) (hb : Ev tb σ G x2) (hp : pre x x2) : Ev (tCall (sp2 pre f) [] E0 (tCons ta (tCons tb tNil))) σ G (f x x2) := fun H i Q q =>
  ha H i _ fun v G1 H1 g1 k1 => (hb.mono g1.g) H1 g1.i _ fun v2 G2 H2 g2 k2 => ⟨v, x, v2, x2, G2, rfl, g2.i, Rep.mono g2.g k1, k2, hp, fun w G' H' g k => q w G' H' ((g1.trans g2).trans g) k⟩
theorem ev_call3 {pre : α → β → γ → Prop} {f : α → β → γ → δ} (ha : Ev ta σ G x) (hb : Ev tb σ G x2) (hc : Ev tc σ G x3) (hp : pre x x2 x3) : Ev (tCall (sp3 pre f) [] E0 (tCons ta (tCons tb (tCons tc tNil)))) σ G (f x x2 x3) := fun H i Q q =>
  ha H i _ fun v G1 H1 g1 k1 => (hb.mono g1.g) H1 g1.i _ fun v2 G2 H2 g2 k2 => (hc.mono (g1.g.trans g2.g)) H2 g2.i _ fun v3 G3 H3 g3 k3 =>
    ⟨v, x, v2, x2, v3, x3, G3, rfl, g3.i, Rep.mono (g2.g.trans g3.g) k1, Rep.mono g3.g k2, k3, hp, fun w G' H' g k => q w G' H' (((g1.trans g2).trans g3).trans g) k⟩
theorem ev_call4 {pre : α → β → γ → δ → Prop} {f : α → β → γ → δ → ε} (ha : Ev ta σ G x) (hb : Ev tb σ G x2) (hc : Ev tc σ G x3) (hd : Ev td σ G x4) (hp : pre x x2 x3 x4) : Ev (tCall (sp4 pre f) [] E0 (tCons ta (tCons tb (tCons tc (tCons td tNil))))) σ G (f x x2 x3 x4) := fun H i Q q =>
  ha H i _ fun v G1 H1 g1 k1 => (hb.mono g1.g) H1 g1.i _ fun v2 G2 H2 g2 k2 => (hc.mono (g1.g.trans g2.g)) H2 g2.i _ fun v3 G3 H3 g3 k3 => (hd.mono ((g1.g.trans g2.g).trans g3.g)) H3 g3.i _ fun v4 G4 H4 g4 k4 =>
    ⟨v, x, v2, x2, v3, x3, v4, x4, G4, rfl, g4.i, Rep.mono ((g2.g.trans g3.g).trans g4.g) k1, Rep.mono (g3.g.trans g4.g) k2, Rep.mono g4.g k3, k4, hp, fun w G' H' g k => q w G' H' ((((g1.trans g2).trans g3).trans g4).trans g) k⟩
theorem ev_call5 {pre : α → β → γ → δ → ε → Prop} {f : α → β → γ → δ → ε → ζ} (ha : Ev ta σ G x) (hb : Ev tb σ G x2) (hc : Ev tc σ G x3) (hd : Ev td σ G x4) (he : Ev te σ G x5) (hp : pre x x2 x3 x4 x5) : Ev (tCall (sp5 pre f) [] E0 (tCons ta (tCons tb (tCons tc (tCons td (tCons te tNil)))))) σ G (f x x2 x3 x4 x5) := fun H i Q q =>
  ha H i _ fun v G1 H1 g1 k1 => (hb.mono g1.g) H1 g1.i _ fun v2 G2 H2 g2 k2 => (hc.mono (g1.g.trans g2.g)) H2 g2.i _ fun v3 G3 H3 g3 k3 => (hd.mono ((g1.g.trans g2.g).trans g3.g)) H3 g3.i _ fun v4 G4 H4 g4 k4 => (he.mono (((g1.g.trans g2.g).trans g3.g).trans g4.g)) H4 g4.i _ fun v5 G5 H5 g5 k5 =>
    ⟨v, x, v2, x2, v3, x3, v4, x4, v5, x5, G5, rfl, g5.i, Rep.mono (((g2.g.trans g3.g).trans g4.g).trans g5.g) k1, Rep.mono ((g3.g.trans g4.g).trans g5.g) k2, Rep.mono (g4.g.trans g5.g) k3, Rep.mono g5.g k4, k5, hp, fun w G' H' g k => q w G' H' (((((g1.trans g2).trans g3).trans g4).trans g5).trans g) k⟩
end

/-! ### a def of the text -/
structure Tx (K : Fg) (mg : Str → Option Value) (x : Str) (ps : List Str) (st : Stmt) : Prop where
  ex : ∃ f fd, Fun K x x st f fd ∧ Binds K fd ps [] ∧ mg x = some (.ref f)
structure Df (P : Program) (w : World) (K : Fg) (mg : Str → Option Value) (base : Heap) (k : Nat) (x : Str) (ps : List Str) (sp : Sp) : Prop where
  ex : ∃ f fd, FnOk P w K mg base CX0 k f fd ps sp ∧ Binds K fd ps [] ∧ PySem.W.keepIn K (.ref f) = true ∧ mg x = some (.ref f)
section
variable {P : Program} {w : World} {K : Fg} {mg : Str → Option Value} {base : Heap}
theorem Tx.ok {x : Str} {st : Stmt} {N ps : List Str} {k : Nat} {sp : Sp} (T : Tx K mg x ps st) (S : FnScope N ps (defScope st)) (len : ∀ vs H Q E, sp vs H Q E → vs.length = ps.length)
    (hbody : ∀ (cdv : Value) (f : Addr) (A : Around) (outer : List Env) (s : Shared) (H : Hp) (vs : List V) (Q : VK) (E : XK), Room k (A.deeper (envOfC x (defScope st) s.heap.objs.size f cdv)) → sp vs H Q E →
      ∃ t, PSs (cxOf CX0 P w K mg base N x (defScope st) f cdv A outer s H E).nox (defBody st) t ∧ t { nx := fun _ H' => Q .non H', rt := Q } (start N vs) H) : Df P w K mg base (k + 1) x ps sp := by
  obtain ⟨f, fd, F, b, m⟩ := T.ex
  exact ⟨f, fd, F.ok S len fun cdv A outer s H vs Q E hr h => hbody cdv f A outer s H vs Q E hr h, b, F.kp, m⟩
theorem Df.mono {j k : Nat} {x : Str} {ps : List Str} {sp : Sp} (D : Df P w K mg base j x ps sp) (h : j ≤ k) : Df P w K mg base k x ps sp := by
  obtain ⟨f, fd, F, r⟩ := D.ex
  exact ⟨f, fd, F.mono h, r⟩
theorem Df.imp {k : Nat} {x : Str} {ps : List Str} {sp sp' : Sp} (D : Df P w K mg base k x ps sp) (h : ∀ vs H Q E, sp' vs H Q E → sp vs H Q E) : Df P w K mg base k x ps sp' := by
  obtain ⟨f, fd, F, r⟩ := D.ex
  exact ⟨f, fd, F.imp h, r⟩
theorem pe_df {X : Cx} {j k : Nat} {x : Str} {ps : List Str} {sp : Sp} {p pos : Pos} {e : Expr} {es : List Expr} {t : TA} (D : Df X.prog X.w X.K X.mg X.base j x ps sp) (hr : Room k X.A) (le : j ≤ k) (hg : Gl X x)
    (ha : PA X (e :: es) t) (hdb : (x == ("__debug__" : Str)) = false := by decide) (he : starEach (e :: es) X.env = (false, eval e X.env) :: starEach es X.env := by rfl) (hpl : (backTo pos (starEach es X.env)).any (·.1) = false := by rfl) :
    PE X (.Call (.Name x p) (e :: es) [] pos) (tCall sp [] E0 t) := by
  obtain ⟨f, fd, F, b, kp, m⟩ := D.ex
  exact pe_call F (hr.mono le) hg m kp b .nil pass0 ha hdb he hpl
end
def Bl (mg : Str → Option Value) : Prop := ∀ x ∈ (["len", "range", "sum", "abs", "min", "max", "int", "bool", "str", "list", "tuple", "set", "dict", "sorted", "all", "any", "enumerate", "zip", "reversed", "isinstance", "divmod"] : List Str), mg x = none
end Pf

namespace Pf
open PySem PySem.Spec PyProof.Rows L2
section
variable {α β γ δ : Type} [Rep α] [Rep β] [Rep γ] [Rep δ]
/-! ### what is walked -/
structure ItOk (J : It) (G : Hp) (xs : List α) : Prop where
  go : ∀ k H, Same G H → k < xs.length → J.go k H
  stop : ∀ k H, Same G H → xs.length ≤ k → J.stop k H
  yld : ∀ k H v H' G1 x, Same G G1 → Same G1 H → J.yld k H v H' → xs[k]? = some x → ∃ G2, Gr M0 G1 H G2 H' ∧ rep G2 v x
def EvI (wi : TI) (σ : L2.St) (G : Hp) (xs : List α) : Prop := ∀ H, Same G H → ∀ R : It → Hp → Prop, (∀ J G' H', Gr M0 G H G' H' → ItOk J G' xs → R J H') → wi σ H R
variable {σ : L2.St} {G H G1 H1 : Hp} {te ta tb tc td tf : TE} {tt tu : TT} {x : α} {y : β} {z : γ} {K : Fg}
theorem ei_list {xs : List α} (h : Ev te σ G xs) : EvI (iList K te) σ G xs := fun H i R q => h H i _ fun v G' H' g k => by
  obtain ⟨a, vs, rfl, h2, h3⟩ := k
  refine ⟨a, rfl, ⟨vs, .inl (.inl (g.i _ _ h2))⟩, q _ G' H' g ⟨fun k H s l => ?_, fun k H s l => ?_, fun k H v H' G1 x s1 s2 y e => ?_⟩⟩
  · obtain ⟨v, e, _⟩ := paired_get h3 (List.getElem?_eq_getElem l)
    exact ⟨vs, v, .inl (.inl (s _ _ h2)), e⟩
  · exact ⟨vs, .inl (.inl (s _ _ h2)), by rw [paired_len h3]; exact l⟩
  · obtain ⟨rfl, y⟩ := y
    have e1 := y vs (.inl (.inl (s2 _ _ (s1 _ _ h2))))
    obtain ⟨x', e2, r⟩ := paired_get' h3 e1
    rw [e] at e2
    cases e2
    exact ⟨G1, Gr.refl s2, Rep.mono s1 r⟩
theorem ei_tup {xs : Tup α} (h : Ev te σ G xs) : EvI (iTup K te) σ G xs.l := fun H i R q => h H i _ fun v G' H' g k => by
  obtain ⟨a, vs, rfl, h2, h3⟩ := k
  refine ⟨a, rfl, ⟨vs, .inl (.inl (g.i _ _ h2))⟩, q _ G' H' g ⟨fun k H s l => ?_, fun k H s l => ?_, fun k H v H' G1 x s1 s2 y e => ?_⟩⟩
  · obtain ⟨v, e, _⟩ := paired_get h3 (List.getElem?_eq_getElem l)
    exact ⟨vs, v, .inl (.inl (s _ _ h2)), e⟩
  · exact ⟨vs, .inl (.inl (s _ _ h2)), by rw [paired_len h3]; exact l⟩
  · obtain ⟨rfl, y⟩ := y
    have e1 := y vs (.inl (.inl (s2 _ _ (s1 _ _ h2))))
    obtain ⟨x', e2, r⟩ := paired_get' h3 e1
    rw [e] at e2
    cases e2
    exact ⟨G1, Gr.refl s2, Rep.mono s1 r⟩
/-- lo, lo + 1 .. below hi -/
def rng (lo hi : Int) : List Int := (List.range (hi - lo).toNat).map fun (k : Nat) => lo + (k : Int)
theorem rng_len (lo hi : Int) : (rng lo hi).length = (hi - lo).toNat := by unfold rng; rw [List.length_map, List.length_range]
theorem rng_get {lo hi : Int} {k : Nat} {x : Int} (h : (rng lo hi)[k]? = some x) : x = lo + k ∧ k < (hi - lo).toNat := by
  unfold rng at h
  rw [List.getElem?_map] at h
  by_cases hk : k < (hi - lo).toNat
  · rw [List.getElem?_range hk] at h
    exact ⟨(Option.some.inj h).symm, hk⟩
  · rw [List.getElem?_eq_none (by rw [List.length_range]; omega)] at h
    cases h
theorem rng_at {lo hi : Int} {k : Nat} (h : k < (hi - lo).toNat) : (rng lo hi)[k]? = some (lo + k) := by
  unfold rng
  rw [List.getElem?_map, List.getElem?_range h]
  rfl
theorem rng_mem {lo hi x : Int} : x ∈ rng lo hi ↔ lo ≤ x ∧ x < hi := by
  unfold rng
  rw [List.mem_map]
  constructor
  · rintro ⟨k, hk, rfl⟩
    rw [List.mem_range] at hk
    omega
  · rintro ⟨h1, h2⟩
    exact ⟨(x - lo).toNat, by rw [List.mem_range]; omega, by omega⟩
theorem it_rng {lo hi : Int} {n : Nat} {G' : Hp} (e : n = (hi - lo).toNat) : ItOk (Itr lo n) G' (rng lo hi) := by
  subst e
  refine ⟨fun k H s l => ?_, fun k H s l => ?_, fun k H v H' G1 x s1 s2 y e => ?_⟩
  · rw [rng_len] at l; exact l
  · rw [rng_len] at l; exact l
  · obtain ⟨rfl, rfl⟩ := y
    obtain ⟨rfl, _⟩ := rng_get e
    exact ⟨G1, Gr.refl s2, rfl⟩
theorem ei_r1 {j : Int} (h : Ev ta σ G j) (b : -(2 ^ 62) ≤ j ∧ j < 2 ^ 62) : EvI (iRng1 (tCons ta tNil)) σ G (rng 0 j) := fun H i R q => h H i _ fun v G' H' g k =>
  ⟨j, by rw [rep_int k], b.1, b.2, q _ G' H' g (it_rng (by omega))⟩
theorem ei_r2 {i j : Int} (ha : Ev ta σ G i) (hb : Ev tb σ G j) (b : -(2 ^ 62) ≤ i ∧ i < 2 ^ 62 ∧ -(2 ^ 62) ≤ j ∧ j < 2 ^ 62) : EvI (iRng2 (tCons ta (tCons tb tNil))) σ G (rng i j) := fun H hi R q =>
  ha H hi _ fun v G1 H1 g1 k1 => (hb.mono g1.g) H1 g1.i _ fun u G2 H2 g2 k2 => ⟨i, j, by rw [rep_int k1, rep_int k2], b, q _ G2 H2 (g1.trans g2) (it_rng rfl)⟩
theorem EvI.cast {wi : TI} {xs ys : List α} (h : EvI wi σ G xs) (e : xs = ys) : EvI wi σ G ys := e ▸ h

/-! ### targets -/
def GB (g : TG) (v : V) (σ : L2.St) (G : Hp) (R : L2.St → Prop) : Prop := ∀ H, Same G H → ∀ Q : L2.St → Hp → Prop, (∀ σ2, R σ2 → Q σ2 H) → g v σ H Q
variable {g : TG} {v : V} {R : L2.St → Prop}
theorem gb_name {i : Nat} (h : R (σ.set i (some v))) : GB (gName i) v σ G R := fun H _ Q q => q _ h
theorem gb_pair {i j : Nat} (hv : rep G v (x, y)) (h : ∀ u w, rep G u x → rep G w y → R ((σ.set i (some u)).set j (some w))) : GB (gTup K 2 (gCons (gName i) (gCons (gName j) gNil))) v σ G R := fun H s Q q => by
  obtain ⟨a, u, w, rfl, h2, h3, h4⟩ := hv
  exact ⟨a, [u, w], rfl, .inl (.inl (s _ _ h2)), rfl, u, [w], rfl, w, [], rfl, rfl, q _ (h u w h3 h4)⟩
theorem gb_pair' {p : α × β} {i j : Nat} (hv : rep G v p) (h : ∀ u w, rep G u p.1 → rep G w p.2 → R ((σ.set i (some u)).set j (some w))) : GB (gTup K 2 (gCons (gName i) (gCons (gName j) gNil))) v σ G R := gb_pair (x := p.1) (y := p.2) hv h
theorem gb_tri {p : Tri α β γ} {i j l : Nat} (hv : rep G v p) (h : ∀ u w z, rep G u p.a → rep G w p.b → rep G z p.c → R (((σ.set i (some u)).set j (some w)).set l (some z))) : GB (gTup K 3 (gCons (gName i) (gCons (gName j) (gCons (gName l) gNil)))) v σ G R := fun H s Q q => by
  obtain ⟨a, u, w, z, rfl, h2, h3, h4, h5⟩ := hv
  exact ⟨a, [u, w, z], rfl, .inl (.inl (s _ _ h2)), rfl, u, [w, z], rfl, w, [z], rfl, z, [], rfl, rfl, q _ (h u w z h3 h4 h5)⟩
/-- n, (a, b) -/
theorem gb_npair {p : α × (β × γ)} {i j l : Nat} (hv : rep G v p) (h : ∀ u w z, rep G u p.1 → rep G w p.2.1 → rep G z p.2.2 → R (((σ.set i (some u)).set j (some w)).set l (some z))) :
    GB (gTup K 2 (gCons (gName i) (gCons (gTup K 2 (gCons (gName j) (gCons (gName l) gNil))) gNil))) v σ G R := fun H s Q q => by
  obtain ⟨a, u, w, rfl, h2, h3, b, w1, w2, rfl, h5, h6, h7⟩ := hv
  exact ⟨a, [u, .ref b], rfl, .inl (.inl (s _ _ h2)), rfl, u, [.ref b], rfl, .ref b, [], rfl, b, [w1, w2], rfl, .inl (.inl (s _ _ h5)), rfl, w1, [w2], rfl, w2, [], rfl, rfl, rfl, q _ (h u w1 w2 h3 h6 h7)⟩

/-! ### comprehensions -/
theorem ev_lcf {wi : TI} {vs : List Nat} {xs : List α} {p : α → Bool} {f : α → β} (hx : EvI wi σ G xs) (hl : xs.length ≤ 100000)
    (hb : ∀ x ∈ xs, ∀ v G1, Same G G1 → rep G1 v x → GB g v (wipe σ vs) G1 fun σ2 => wipe σ2 vs = wipe σ vs ∧ EvT tt σ2 G1 (p x) ∧ (p x = true → Ev te σ2 G1 (f x))) : Ev (tLc wi g tt te vs) σ G ((xs.filter p).map f) := fun H i Q q => by
  refine hx H i _ fun J G1 H1 g1 ok D nD => ?_
  have nG : G1 D = none := by
    cases e : G1 D with
    | none => rfl
    | some o => rw [g1.i _ _ e] at nD; cases nD
  refine ⟨fun k m H => m = xs.length - k ∧ k ≤ xs.length ∧ ∃ Gk, Gr M0 G1 H1 Gk H ∧ Ml Gk H D (((xs.take k).filter p).map f), ⟨_, rfl, Nat.zero_le _, G1, (Gr.refl g1.i).mut (.inl nD) nG, nG, [], upd_same, .nil⟩, ?_⟩
  rintro k m H2 ⟨rfl, hk, Gk, gk, ml⟩
  by_cases hlt : k < xs.length
  · refine .inr ⟨ok.go k H2 (gk.g.trans gk.i) hlt, fun H' => ∃ Gk, Gr M0 G1 H1 Gk H' ∧ Ml Gk H' D (((xs.take (k + 1)).filter p).map f), fun H' h' => ⟨xs.length - (k + 1), by omega, rfl, hlt, h'⟩, fun v H3 yl => ?_⟩
    have hxk : xs[k]? = some xs[k] := List.getElem?_eq_getElem hlt
    obtain ⟨G3, g3, r3⟩ := ok.yld k H2 v H3 Gk xs[k] gk.g gk.i yl hxk
    have g13 := gk.trans g3
    have et : ((xs.take (k + 1)).filter p).map f = ((xs.take k).filter p).map f ++ (if p xs[k] = true then [f xs[k]] else []) := by
      rw [List.take_add_one, hxk, List.filter_append, List.map_append]
      congr 1
      show ((([xs[k]] : List α)).filter p).map f = _
      by_cases hp : p xs[k] = true
      · rw [if_pos hp, List.filter_cons, if_pos hp]; rfl
      · rw [if_neg hp, List.filter_cons, if_neg hp]; rfl
    refine hb xs[k] (List.getElem_mem hlt) v G3 (g1.g.trans g13.g) r3 H3 g3.i _ fun σ2 ⟨hw, ht, he⟩ => ⟨hw, ?_⟩
    refine ht H3 g3.i _ fun G4 H4 g4 => ?_
    have ml4 := (ml.step0 g3).step0 g4
    refine ite2 (fun hp => ?_) (fun hp => ?_)
    · refine ((he hp).mono g4.g) H4 g4.i _ fun y G5 H5 g5 r5 => ?_
      have ml5 := ml4.step0 g5
      obtain ⟨n5, acc, e5, p5⟩ := ml5
      refine ⟨acc, e5, sl_lt ?_, G5, ((g13.trans g4).trans g5).mut (.inl nD) n5, n5, acc ++ [y], upd_same, ?_⟩
      · rw [paired_len p5, List.length_map]
        exact Nat.lt_of_le_of_lt (Nat.le_trans (List.length_filter_le _ _) (by rw [List.length_take]; exact Nat.min_le_left _ _)) (by omega)
      · rw [et, if_pos hp]
        exact paired_app p5 (.cons r5 .nil)
    · refine ⟨G4, g13.trans g4, ?_⟩
      rw [et, if_neg hp, List.append_nil]
      exact ml4
  · have e : xs.take k = xs := List.take_of_length_le (by omega)
    rw [e] at ml
    obtain ⟨n5, acc, e5, p5⟩ := ml
    exact .inl ⟨ok.stop k H2 (gk.g.trans gk.i) (by omega), q _ (upd Gk D (.lst acc)) H2 (g1.trans (gk.still nD n5 e5)) ⟨D, acc, rfl, upd_same, paired_mono (same_new n5) p5⟩⟩
theorem ev_lc {wi : TI} {vs : List Nat} {xs : List α} {f : α → β} (hx : EvI wi σ G xs) (hl : xs.length ≤ 100000)
    (hb : ∀ x ∈ xs, ∀ v G1, Same G G1 → rep G1 v x → GB g v (wipe σ vs) G1 fun σ2 => wipe σ2 vs = wipe σ vs ∧ Ev te σ2 G1 (f x)) : Ev (tLc wi g tYes te vs) σ G (xs.map f) := by
  have h := ev_lcf (σ := σ) (G := G) (g := g) (tt := tYes) (te := te) (vs := vs) (p := fun _ => true) (f := f) hx hl fun x hx v G1 s r H i Q q => hb x hx v G1 s r H i Q fun σ2 ⟨h1, h2⟩ => q σ2 ⟨h1, et_yes, fun _ => h2⟩
  rw [List.filter_eq_self.mpr (fun _ _ => rfl)] at h
  exact h

/-! ### statements -/
variable {D : Ends} {ts tr : TS}
theorem st_set {i : Nat} (h : Ev te σ G x) (s : Same G H) (k : ∀ v G' H', Gr M0 G H G' H' → rep G' v x → D.nx (σ.set i (some v)) H') : tAsg te (gName i) D σ H := h H s _ k
theorem st_ret (h : Ev te σ G x) (s : Same G H) (k : ∀ v G' H', Gr M0 G H G' H' → rep G' v x → D.rt v H') : tRet te D σ H := h H s _ k
theorem st_drop (h : Ev te σ G x) (s : Same G H) (k : ∀ G' H', Gr M0 G H G' H' → D.nx σ H') : tDrop te D σ H := h H s _ fun _ G' H' g _ => k G' H' g
theorem st_if {b : Bool} (h : EvT tt σ G b) (s : Same G H) (k1 : b = true → ∀ G' H', Gr M0 G H G' H' → ts D σ H') (k2 : b = false → ∀ G' H', Gr M0 G H G' H' → tr D σ H') : tIfS tt ts tr D σ H :=
  h H s _ fun G' H' g => ite2 (fun e => k1 e G' H' g) (fun e => k2 (by simpa using e) G' H' g)
theorem st_pair {x : α × β} {i j : Nat} (h : Ev te σ G x) (s : Same G H) (k : ∀ u w G' H', Gr M0 G H G' H' → rep G' u x.1 → rep G' w x.2 → D.nx ((σ.set i (some u)).set j (some w)) H') :
    tAsg te (gTup K 2 (gCons (gName i) (gCons (gName j) gNil))) D σ H := h H s _ fun v G' H' g r => by
  obtain ⟨a, u, w, rfl, h2, h3, h4⟩ := r
  exact ⟨a, [u, w], rfl, .inl (.inl (g.i _ _ h2)), rfl, u, [w], rfl, w, [], rfl, rfl, k u w G' H' g h3 h4⟩
/-- xs.append(e), xs still being made -/
theorem st_append {i : Nat} {p : Addr} {xs : List α} (hv : σ[i]? = some (some (.ref p))) (m : Ml G H p xs) (h : Ev te σ G x) (s : Same G H) (hl : xs.length < 100000)
    (k : ∀ G' H' o, Gr M0 G H G' H' → Ml G' (upd H' p o) p (xs ++ [x]) → Same G' (upd H' p o) → D.nx σ (upd H' p o)) : tDrop (tBM K "list" rAppend (tVar i) (tCons te tNil)) D σ H := by
  refine ⟨.ref p, hv, .inl ⟨rfl, m.sq⟩, h H s _ fun v G' H' g r => ?_⟩
  obtain ⟨n, acc, e, pa⟩ := m.step0 g
  exact ⟨p, acc, v, rfl, rfl, e, sl_lt (by rw [paired_len pa]; exact hl), k G' H' _ g ⟨n, _, upd_same, paired_app pa (.cons r .nil)⟩ (same_mut g.i n)⟩
/-- a new list that is still being made -/
theorem st_newlist {i : Nat} {tr : TA} {xs : List α} (h : EvAs tr σ G xs) (s : Same G H) (hl : xs.length ≤ 100000) (k : ∀ p G' H' o, Gr M0 G H G' H' → H' p = none → Ml G' (upd H' p o) p xs → Same G' (upd H' p o) → D.nx (σ.set i (some (.ref p))) (upd H' p o)) :
    tAsg (tLst tr) (gName i) D σ H := h H s _ fun vs G1 H1 g1 k1 => ⟨by rw [paired_len k1]; exact sl_small hl, fun p np => by
      have nG : G1 p = none := by
        cases e : G1 p with
        | none => rfl
        | some o => rw [g1.i _ _ e] at np; cases np
      exact k p G1 H1 (.lst vs) g1 np ⟨nG, vs, upd_same, k1⟩ (same_mut g1.i nG)⟩
/-- for target in xs: .. -/
theorem st_for {wi : TI} {xs : List α} (P : Nat → L2.St → Hp → Hp → Prop) (hx : EvI wi σ G xs) (s : Same G H)
    (h0 : ∀ G' H', Gr M0 G H G' H' → P 0 σ G' H')
    (hs : ∀ k x v σ' G1 H1 G2 H2, xs[k]? = some x → Same G G1 → Same G1 H1 → P k σ' G1 H1 → Gr M0 G1 H1 G2 H2 → rep G2 v x →
      g v σ' H2 fun σ2 H3 => ts { D with nx := fun σ3 H3 => ∃ G3, Same G1 G3 ∧ Same G3 H3 ∧ P (k + 1) σ3 G3 H3, ct := fun σ3 H3 => ∃ G3, Same G1 G3 ∧ Same G3 H3 ∧ P (k + 1) σ3 G3 H3, bk := D.nx } σ2 H3)
    (hd : ∀ σ' G' H', Same G G' → Same G' H' → P xs.length σ' G' H' → D.nx σ' H') : tFor wi g ts D σ H := by
  refine hx H s _ fun J G1 H1 g1 ok => ?_
  refine ⟨fun k m σ' H' => m = xs.length - k ∧ k ≤ xs.length ∧ ∃ Gk, Same G1 Gk ∧ Same Gk H' ∧ P k σ' Gk H', ⟨_, rfl, Nat.zero_le _, G1, Same.refl G1, g1.i, h0 G1 H1 g1⟩, ?_⟩
  rintro k m σ' H2 ⟨rfl, hk, Gk, sg, sh, pk⟩
  by_cases hlt : k < xs.length
  · refine .inr ⟨ok.go k H2 (sg.trans sh) hlt, fun σ3 H3 => ∃ G3, Same Gk G3 ∧ Same G3 H3 ∧ P (k + 1) σ3 G3 H3, fun σ3 H3 h3 => ?_, fun v H3 yl => ?_⟩
    · obtain ⟨G3, e1, e2, e3⟩ := h3
      exact ⟨xs.length - (k + 1), by omega, rfl, hlt, G3, sg.trans e1, e2, e3⟩
    · obtain ⟨G3, g3, r3⟩ := ok.yld k H2 v H3 Gk xs[k] sg sh yl (List.getElem?_eq_getElem hlt)
      have z := hs k xs[k] v σ' Gk H2 G3 H3 (List.getElem?_eq_getElem hlt) (g1.g.trans sg) sh pk g3 r3
      exact z
  · have e : k = xs.length := by omega
    subst e
    exact .inl ⟨ok.stop _ H2 (sg.trans sh) (Nat.le_refl _), hd σ' Gk H2 (g1.g.trans sg) sh pk⟩
/-! .. with what follows -/
variable {u : TS}
theorem sq_set {i : Nat} (h : Ev te σ G x) (s : Same G H) (k : ∀ v G' H', Gr M0 G H G' H' → rep G' v x → u D (σ.set i (some v)) H') : tSeq (tAsg te (gName i)) u D σ H := h H s _ k
theorem sq_drop (h : Ev te σ G x) (s : Same G H) (k : ∀ G' H', Gr M0 G H G' H' → u D σ H') : tSeq (tDrop te) u D σ H := h H s _ fun _ G' H' g _ => k G' H' g
theorem sq_pair {x : α × β} {i j : Nat} (h : Ev te σ G x) (s : Same G H) (k : ∀ v w G' H', Gr M0 G H G' H' → rep G' v x.1 → rep G' w x.2 → u D ((σ.set i (some v)).set j (some w)) H') :
    tSeq (tAsg te (gTup K 2 (gCons (gName i) (gCons (gName j) gNil)))) u D σ H := st_pair (D := { D with nx := u D }) h s k
theorem sq_if {b : Bool} (h : EvT tt σ G b) (s : Same G H) (k1 : b = true → ∀ G' H', Gr M0 G H G' H' → ts { D with nx := u D } σ H') (k2 : b = false → ∀ G' H', Gr M0 G H G' H' → tr { D with nx := u D } σ H') : tSeq (tIfS tt ts tr) u D σ H :=
  st_if (D := { D with nx := u D }) h s k1 k2
/-- an if that only leaves or goes on -/
theorem sq_ifn {b : Bool} (h : EvT tt σ G b) (s : Same G H) (k1 : b = true → ∀ G' H', Gr M0 G H G' H' → ts { D with nx := u D } σ H') (k2 : b = false → ∀ G' H', Gr M0 G H G' H' → u D σ H') : tSeq (tIfS tt ts tNext) u D σ H :=
  st_if (D := { D with nx := u D }) (tr := tNext) h s k1 k2
theorem sq_append {i : Nat} {p : Addr} {xs : List α} (hv : σ[i]? = some (some (.ref p))) (m : Ml G H p xs) (h : Ev te σ G x) (s : Same G H) (hl : xs.length < 100000)
    (k : ∀ G' H' o, Gr M0 G H G' H' → Ml G' (upd H' p o) p (xs ++ [x]) → Same G' (upd H' p o) → u D σ (upd H' p o)) : tSeq (tDrop (tBM K "list" rAppend (tVar i) (tCons te tNil))) u D σ H := st_append (D := { D with nx := u D }) hv m h s hl k
theorem sq_newlist {i : Nat} {tr : TA} {xs : List α} (h : EvAs tr σ G xs) (s : Same G H) (hl : xs.length ≤ 100000) (k : ∀ p G' H' o, Gr M0 G H G' H' → H' p = none → Ml G' (upd H' p o) p xs → Same G' (upd H' p o) → u D (σ.set i (some (.ref p))) (upd H' p o)) :
    tSeq (tAsg (tLst tr) (gName i)) u D σ H := st_newlist (D := { D with nx := u D }) h s hl k
theorem sq_for {wi : TI} {xs : List α} (P : Nat → L2.St → Hp → Hp → Prop) (hx : EvI wi σ G xs) (s : Same G H)
    (h0 : ∀ G' H', Gr M0 G H G' H' → P 0 σ G' H')
    (hs : ∀ k x v σ' G1 H1 G2 H2, xs[k]? = some x → Same G G1 → Same G1 H1 → P k σ' G1 H1 → Gr M0 G1 H1 G2 H2 → rep G2 v x →
      g v σ' H2 fun σ2 H3 => ts { nx := fun σ3 H3 => ∃ G3, Same G1 G3 ∧ Same G3 H3 ∧ P (k + 1) σ3 G3 H3, rt := D.rt, ct := fun σ3 H3 => ∃ G3, Same G1 G3 ∧ Same G3 H3 ∧ P (k + 1) σ3 G3 H3, bk := u D } σ2 H3)
    (hd : ∀ σ' G' H', Same G G' → Same G' H' → P xs.length σ' G' H' → u D σ' H') : tSeq (tFor wi g ts) u D σ H := st_for (D := { D with nx := u D }) P hx s h0 hs hd
theorem up_none {G H : Hp} (i : Same G H) {p : Addr} (h : H p = none) : G p = none := by
  cases e : G p with
  | none => rfl
  | some u => rw [i _ _ e] at h; cases h
theorem gn {i : Nat} {Q : L2.St → Hp → Prop} (h : Q (σ.set i (some v)) H) : gName i v σ H Q := h
theorem gp {x : α × β} {i j : Nat} {Q : L2.St → Hp → Prop} (r : rep G v x) (s : Same G H) (h : ∀ u w, rep G u x.1 → rep G w x.2 → Q ((σ.set i (some u)).set j (some w)) H) : gTup K 2 (gCons (gName i) (gCons (gName j) gNil)) v σ H Q := by
  obtain ⟨a, u, w, rfl, h2, h3, h4⟩ := r
  exact ⟨a, [u, w], rfl, .inl (.inl (s _ _ h2)), rfl, u, [w], rfl, w, [], rfl, rfl, h u w h3 h4⟩
/-- xs.append(e), e of a flat kind that reads xs itself -/
theorem st_appendF [Flat α] {i : Nat} {p : Addr} {xs : List α} (hv : σ[i]? = some (some (.ref p))) (m : Ml G H p xs) (h : ∀ o, Same G (upd G p o) → rep (upd G p o) (.ref p) xs → Ev te σ (upd G p o) x) (s : Same G H) (hl : xs.length < 100000)
    (k : ∀ H' o, Gr M0 G H G H' → Ml G (upd H' p o) p (xs ++ [x]) → Same G (upd H' p o) → D.nx σ (upd H' p o)) : tDrop (tBM K "list" rAppend (tVar i) (tCons te tNil)) D σ H := by
  obtain ⟨o, e1, e2, e3, e4⟩ := m.rep s
  refine ⟨.ref p, hv, .inl ⟨rfl, m.sq⟩, (h o e2 e4).flat e3 s fun v H' g sm r => ?_⟩
  obtain ⟨n, acc, e, pa⟩ := m.step0 g
  exact ⟨p, acc, v, rfl, rfl, e, sl_lt (by rw [paired_len pa]; exact hl), k H' _ g ⟨n, _, upd_same, paired_app pa (.cons r .nil)⟩ (same_mut g.i n)⟩
theorem Ml.frz {M : Addr → Prop} {Ge He : Hp} {p : Addr} {xs : List α} (m : Ml G H p xs) (g : Gr M Ge He G H) (np : He p = none) : ∃ G', Gr M Ge He G' H ∧ Pf.rep G' (.ref p) xs ∧ Same G G' := by
  obtain ⟨n, vs, e, pa⟩ := m
  exact ⟨upd G p (.lst vs), g.still np n e, ⟨p, vs, rfl, upd_same, paired_mono (same_new n) pa⟩, same_new n⟩
end
end Pf

namespace Pf
open PySem PySem.Spec PyProof.Rows L2
/-! ### data of any kind -/
mutual
def RD (G : Hp) : PyData → V → Prop
  | .none, v => v = .non
  | .bool b, v => v = .bl b
  | .int i, v => v = .int i
  | .str x, v => v = .str x
  | .list ds, v => ∃ a vs, v = .ref a ∧ G a = some (.lst vs) ∧ RDs G ds vs
  | .tuple ds, v => ∃ a vs, v = .ref a ∧ G a = some (.tup vs) ∧ RDs G ds vs
  | .dict _, _ => False
def RDs (G : Hp) : List PyData → List V → Prop
  | [], vs => vs = []
  | d :: ds, vs => ∃ v r, vs = v :: r ∧ RD G d v ∧ RDs G ds r
end
mutual
theorem RD.mono {G G' : Hp} (e : Same G G') : ∀ (d : PyData) (v : V), RD G d v → RD G' d v
  | .none, _, h => h
  | .bool _, _, h => h
  | .int _, _, h => h
  | .str _, _, h => h
  | .list ds, _, ⟨a, vs, h1, h2, h3⟩ => ⟨a, vs, h1, e _ _ h2, RDs.mono e ds vs h3⟩
  | .tuple ds, _, ⟨a, vs, h1, h2, h3⟩ => ⟨a, vs, h1, e _ _ h2, RDs.mono e ds vs h3⟩
  | .dict _, _, h => h
theorem RDs.mono {G G' : Hp} (e : Same G G') : ∀ (ds : List PyData) (vs : List V), RDs G ds vs → RDs G' ds vs
  | [], _, h => h
  | d :: ds, _, ⟨v, r, h1, h2, h3⟩ => ⟨v, r, h1, RD.mono e d v h2, RDs.mono e ds r h3⟩
end
instance : Rep PyData := ⟨fun G v d => RD G d v, fun e h => RD.mono e _ _ h⟩
theorem rds_paired {G : Hp} : ∀ {ds : List PyData} {vs : List V}, RDs G ds vs → Paired (rep G) vs ds
  | [], _, h => by cases (show _ = [] from h); exact .nil
  | d :: ds, _, ⟨v, r, h1, h2, h3⟩ => by subst h1; exact .cons h2 (rds_paired h3)
theorem paired_rds {G : Hp} : ∀ {ds : List PyData} {vs : List V}, Paired (rep G) vs ds → RDs G ds vs
  | _, _, .nil => rfl
  | _, _, .cons r t => ⟨_, _, rfl, r, paired_rds t⟩
instance : Inhabited PyData := ⟨.none⟩
class Dat (α : Type) [Rep α] where
  dat : α → PyData
  rd : ∀ {G : Hp} {v : V} {x : α}, rep G v x → RD G (dat x) v
  inj : ∀ {x y : α}, dat x = dat y → x = y
abbrev dat {α : Type} [Rep α] [Dat α] : α → PyData := Dat.dat
instance : Dat Int := ⟨.int, fun h => h, fun h => by injection h⟩
instance : Dat Bool := ⟨.bool, fun h => h, fun h => by injection h⟩
instance : Dat Str := ⟨.str, fun h => h, fun h => by injection h⟩
instance : Dat PyData := ⟨id, fun h => h, fun h => h⟩
theorem paired_dat {α : Type} [Rep α] [Dat α] {G : Hp} : ∀ {vs : List V} {xs : List α}, Paired (rep G) vs xs → RDs G (xs.map dat) vs
  | _, _, .nil => rfl
  | _, _, .cons r t => ⟨_, _, rfl, Dat.rd r, paired_dat t⟩
theorem map_dat_inj {α : Type} [Rep α] [Dat α] : ∀ {xs ys : List α}, xs.map dat = ys.map dat → xs = ys
  | [], [], _ => rfl
  | [], _ :: _, h => by cases h
  | _ :: _, [], h => by cases h
  | x :: xs, y :: ys, h => by
    injection h with h1 h2
    rw [Dat.inj h1, map_dat_inj h2]
instance {α : Type} [Rep α] [Dat α] : Dat (List α) := ⟨fun xs => .list (xs.map dat), fun ⟨a, vs, h1, h2, h3⟩ => ⟨a, vs, h1, h2, paired_dat h3⟩, fun h => by injection h with h; exact map_dat_inj h⟩
instance {α : Type} [Rep α] [Dat α] : Dat (Tup α) := ⟨fun xs => .tuple (xs.l.map dat), fun ⟨a, vs, h1, h2, h3⟩ => ⟨a, vs, h1, h2, paired_dat h3⟩, fun {x y} h => by
  injection h with h
  cases x; cases y
  exact congrArg Tup.mk (map_dat_inj h)⟩
instance {α β : Type} [Rep α] [Dat α] [Rep β] [Dat β] : Dat (α × β) := ⟨fun x => .tuple [dat x.1, dat x.2], fun ⟨a, u, w, h1, h2, h3, h4⟩ => ⟨a, [u, w], h1, h2, u, [w], rfl, Dat.rd h3, w, [], rfl, Dat.rd h4, rfl⟩, fun {x y} h => by
  injection h with h
  injection h with h1 h
  injection h with h2 h
  cases x; cases y
  exact congr (congrArg Prod.mk (Dat.inj h1)) (Dat.inj h2)⟩
instance {α β γ : Type} [Rep α] [Dat α] [Rep β] [Dat β] [Rep γ] [Dat γ] : Dat (Tri α β γ) := ⟨fun x => .tuple [dat x.a, dat x.b, dat x.c], fun ⟨a, u, w, z, h1, h2, h3, h4, h5⟩ => ⟨a, [u, w, z], h1, h2, u, [w, z], rfl, Dat.rd h3, w, [z], rfl, Dat.rd h4, z, [], rfl, Dat.rd h5, rfl⟩, fun {x y} h => by
  injection h with h
  injection h with h1 h
  injection h with h2 h
  injection h with h3 h
  cases x; cases y
  exact congr (congr (congrArg Tri.mk (Dat.inj h1)) (Dat.inj h2)) (Dat.inj h3)⟩
section
variable {α β γ : Type} [Rep α] [Rep β] [Rep γ] {σ : L2.St} {G : Hp} {te ta tb : TE} {x : α} {K : Fg}
theorem ev_dat [Dat α] (h : Ev te σ G x) : Ev te σ G (dat x) := fun H i Q q => h H i Q fun v G' H' g r => q v G' H' g (Dat.rd r)
/-! is None, isinstance -/
abbrev rIsN : R2 := fun x y H Q => y = .non ∧ Q (.bl (decide (x = .non))) H
def isNone : PyData → Bool
  | .none => true
  | _ => false
theorem rd_none {G : Hp} {d : PyData} {v : V} (h : RD G d v) : decide (v = .non) = isNone d := by
  cases d with
  | none => rw [show v = .non from h]; rfl
  | bool b => rw [show v = .bl b from h]; rfl
  | int b => rw [show v = .int b from h]; rfl
  | str b => rw [show v = .str b from h]; rfl
  | list ds => obtain ⟨a, vs, e, _⟩ := h; rw [e]; rfl
  | tuple ds => obtain ⟨a, vs, e, _⟩ := h; rw [e]; rfl
  | dict _ => exact h.elim
theorem ev_isN {d : PyData} (h : Ev ta σ G d) : Ev (tOp rIsN ta (tC .non)) σ G (isNone d) := fun H i Q q => h H i _ fun v G' H' g r => ⟨rfl, q _ G' H' g (by rw [rd_none r]; rfl)⟩
def tyD : PyData → String
  | .none => "NoneType"
  | .bool _ => "bool"
  | .int _ => "int"
  | .str _ => "str"
  | .list _ => "list"
  | .tuple _ => "tuple"
  | .dict _ => "dict"
theorem rd_ty {G H : Hp} {d : PyData} {v : V} (h : RD G d v) (i : Same G H) : TyX K H v (.type (tyD d)) := by
  cases d with
  | none => rw [show v = .non from h]; exact .base .non
  | bool b => rw [show v = .bl b from h]; exact .base (.bl b)
  | int b => rw [show v = .int b from h]; exact .base (.int b)
  | str b => rw [show v = .str b from h]; exact .base (.str b)
  | list ds => obtain ⟨a, vs, e, e2, _⟩ := h; rw [e]; exact .base (.lst (i _ _ e2))
  | tuple ds => obtain ⟨a, vs, e, e2, _⟩ := h; rw [e]; exact .base (.tup (i _ _ e2))
  | dict _ => exact h.elim
def isTy (T : String) (d : PyData) : Bool := tyD d == T || (tyD d == "bool" && T == "int")
abbrev tys : List String := ["NoneType", "bool", "int", "str", "list", "tuple", "dict"]
abbrev Tys : List String := ["bool", "int", "str", "list", "tuple"]
theorem kit_tab : ∀ t ∈ tys, ∀ T ∈ Tys, kitB t T = some (t == T || (t == "bool" && T == "int")) := by decide +kernel
theorem tyD_mem (d : PyData) : tyD d ∈ tys := by cases d <;> simp [tyD]
theorem kit_is (d : PyData) {T : String} (h : T ∈ Tys) : kitB (tyD d) T = some (isTy T d) := kit_tab _ (tyD_mem d) T h
theorem ev_isi {d : PyData} {T : String} (h : Ev ta σ G d) (hk : T ∈ Tys) : Ev (tCB (rIsi K) (tCons ta (tCons (tC (.ty T)) tNil))) σ G (isTy T d) := fun H i Q q => h H i _ fun v G' H' g r =>
  ⟨v, .ty T, _, _, isTy T d, rfl, .ty T, rd_ty r g.i, kit_ty (kit_is d hk), q _ G' H' g rfl⟩
theorem ev_isiT {d : PyData} {T U : String} (h : Ev ta σ G d) (h1 : T ∈ Tys) (h2 : U ∈ Tys) :
    Ev (tCB (rIsiT K) (tCons ta (tCons (tTup (tCons (tC (.ty T)) (tCons (tC (.ty U)) tNil))) tNil))) σ G (isTy T d || isTy U d) := fun H i Q q => h H i _ fun v G' H' g r => by
  refine ⟨by show 2 ≤ sizeLine; decide, fun p np => ?_⟩
  have g2 := gr_new (o := .tup [.ty T, .ty U]) g.i np
  refine ⟨v, p, [.ty T, .ty U], _, [.type T, .type U], isTy T d || isTy U d, rfl, upd_same, .cons (.ty T) (.cons (.ty U) .nil), rd_ty r (g.i.trans g2.same), ?_, q _ _ _ (g.trans g2) rfl⟩
  refine kitAny_cons (kit_ty (kit_is d h1)) (fun e => kitAny_cons (kit_ty (kit_is d h2)) (fun e2 => ?_) (fun e2 => ?_)) (fun e => ?_)
  · rw [e, e2]; exact kitAny_nil
  · rw [e2]; exact Bool.or_true _
  · rw [e]; rfl
theorem ev_eqD {d e : PyData} (ha : Ev ta σ G d) (hb : Ev tb σ G e) (b : Bool) (hs : ∀ G v u, RD G d v → RD G e u → scal v u = true ∧ decide (v = u) = b) : Ev (tOp rEq ta tb) σ G b :=
  ev2 ha hb fun v u G' _ k1 k2 H h Q q => by
    obtain ⟨h1, h2⟩ := hs G' v u k1 k2
    exact ⟨h1, q _ G' H (Gr.refl h) (by rw [h2]; rfl)⟩
def itemsD : PyData → List PyData
  | .list ds => ds
  | .tuple ds => ds
  | _ => []
def isSeq : PyData → Bool
  | .list _ => true
  | .tuple _ => true
  | _ => false
theorem ev_lenD {d : PyData} (h : Ev ta σ G d) (hs : isSeq d = true) : Ev (tCB (rLen K) (tCons ta tNil)) σ G ((itemsD d).length : Int) := ev_B1 h fun v G' H _ i k Q q => by
  cases d with
  | list ds =>
    obtain ⟨a, vs, rfl, h2, h3⟩ := k
    exact ⟨a, vs, rfl, .inl (.inl (.inl (i _ _ h2))), q _ G' H (Gr.refl i) (by rw [paired_len (rds_paired h3)]; rfl)⟩
  | tuple ds =>
    obtain ⟨a, vs, rfl, h2, h3⟩ := k
    exact ⟨a, vs, rfl, .inr (.inl (.inl (i _ _ h2))), q _ G' H (Gr.refl i) (by rw [paired_len (rds_paired h3)]; rfl)⟩
  | _ => cases hs
theorem ev_ixD {d : PyData} {n : Int} (ha : Ev ta σ G d) (hb : Ev tb σ G n) (hs : isSeq d = true) (h : 0 ≤ n ∧ n < (itemsD d).length) : Ev (tOp (rIx K) ta tb) σ G (ix (itemsD d) n) :=
  ev2 ha hb fun v u G' _ k1 k2 H hh Q q => by
    cases k2
    cases d with
    | list ds =>
      obtain ⟨a, vs, rfl, h2, h3⟩ := k1
      obtain ⟨w, e1, e2⟩ := at_ix (rds_paired h3) h
      exact .inl ⟨a, vs, n, w, rfl, rfl, .inl (.inl (hh _ _ h2)), e1, q w G' H (Gr.refl hh) e2⟩
    | tuple ds =>
      obtain ⟨a, vs, rfl, h2, h3⟩ := k1
      obtain ⟨w, e1, e2⟩ := at_ix (rds_paired h3) h
      exact .inr (.inl ⟨a, vs, n, w, rfl, rfl, .inl (.inl (hh _ _ h2)), e1, q w G' H (Gr.refl hh) e2⟩)
    | _ => cases hs
end
/-! ### data compared -/
def isDict : PyData → Bool
  | .dict _ => true
  | _ => false
def OkN : Nat → PyData → Prop
  | 0, d => isSeq d = false ∧ isDict d = false
  | n + 1, d => isDict d = false ∧ (itemsD d).length ≤ 100000 ∧ ∀ e ∈ itemsD d, OkN n e
theorem okN_flat (n : Nat) {d : PyData} (h : isSeq d = false) (h2 : isDict d = false) : OkN n d := by
  cases n with
  | zero => exact ⟨h, h2⟩
  | succ n =>
    have e : itemsD d = [] := by cases d <;> first | rfl | cases h
    exact ⟨h2, by rw [e]; decide, fun x hx => by rw [e] at hx; cases hx⟩
theorem okN_int (n : Nat) (i : Int) : OkN n (dat i) := okN_flat n rfl rfl
theorem okN_bool (n : Nat) (i : Bool) : OkN n (dat i) := okN_flat n rfl rfl
theorem okN_str (n : Nat) (i : Str) : OkN n (dat i) := okN_flat n rfl rfl
theorem okN_list {α : Type} [Rep α] [Dat α] {n : Nat} {xs : List α} (h : xs.length ≤ 100000) (k : ∀ x ∈ xs, OkN n (dat x)) : OkN (n + 1) (dat xs) :=
  ⟨rfl, by show (xs.map dat).length ≤ _; rw [List.length_map]; exact h, fun e he => by
    obtain ⟨x, hx, rfl⟩ := List.mem_map.mp (show e ∈ xs.map dat from he)
    exact k x hx⟩
theorem okN_tup {α : Type} [Rep α] [Dat α] {n : Nat} {xs : Tup α} (h : xs.l.length ≤ 100000) (k : ∀ x ∈ xs.l, OkN n (dat x)) : OkN (n + 1) (dat xs) :=
  ⟨rfl, by show (xs.l.map dat).length ≤ _; rw [List.length_map]; exact h, fun e he => by
    obtain ⟨x, hx, rfl⟩ := List.mem_map.mp (show e ∈ xs.l.map dat from he)
    exact k x hx⟩
theorem okN_pair {α β : Type} [Rep α] [Dat α] [Rep β] [Dat β] {n : Nat} {x : α × β} (h1 : OkN n (dat x.1)) (h2 : OkN n (dat x.2)) : OkN (n + 1) (dat x) :=
  ⟨rfl, by show 2 ≤ 100000; decide, fun e he => by
    have he : e ∈ [dat x.1, dat x.2] := he
    simp only [List.mem_cons, List.not_mem_nil, or_false] at he
    rcases he with rfl | rfl
    · exact h1
    · exact h2⟩
theorem okN_tri {α β γ : Type} [Rep α] [Dat α] [Rep β] [Dat β] [Rep γ] [Dat γ] {n : Nat} {x : Tri α β γ} (h1 : OkN n (dat x.a)) (h2 : OkN n (dat x.b)) (h3 : OkN n (dat x.c)) : OkN (n + 1) (dat x) :=
  ⟨rfl, by show 3 ≤ 100000; decide, fun e he => by
    have he : e ∈ [dat x.a, dat x.b, dat x.c] := he
    simp only [List.mem_cons, List.not_mem_nil, or_false] at he
    rcases he with rfl | rfl | rfl
    · exact h1
    · exact h2
    · exact h3⟩
/-- found, due -/
def alikeN : Nat → PyData → PyData → Bool
  | _, .none, .none => true
  | _, .bool c, .bool b => decide (c = b)
  | _, .int c, .int b => decide (c = b)
  | _, .str c, .str b => decide (c = b)
  | n + 1, .list fs, .list ds => decide (fs.length = ds.length) && ((rng 0 ds.length).map fun k => alikeN n (ix fs k) (ix ds k)).all id
  | n + 1, .tuple fs, .tuple ds => decide (fs.length = ds.length) && ((rng 0 ds.length).map fun k => alikeN n (ix fs k) (ix ds k)).all id
  | _, _, _ => false
theorem all_rng {n : Nat} {f : Int → Bool} : ((rng 0 (n : Int)).map f).all id = true ↔ ∀ k : Nat, k < n → f (k : Int) = true := by
  rw [List.all_eq_true]
  constructor
  · intro h k hk
    exact h _ (List.mem_map.mpr ⟨(k : Int), rng_mem.mpr ⟨by omega, by omega⟩, rfl⟩)
  · intro h b hb
    obtain ⟨k, hk, rfl⟩ := List.mem_map.mp hb
    have hk := rng_mem.mp hk
    have e : k = ((k.toNat : Nat) : Int) := by omega
    rw [e]
    exact h k.toNat (by omega)
theorem ix_get {fs : List PyData} {k : Nat} (h : k < fs.length) : ix fs (k : Int) = fs[k] := ix_nat (List.getElem?_eq_getElem h)
theorem seq_iff {n : Nat} {fs ds : List PyData} (ih : ∀ f d, OkN n d → (alikeN n f d = true ↔ f = d)) (ok : ∀ e ∈ ds, OkN n e) :
    (decide (fs.length = ds.length) && ((rng 0 ds.length).map fun k => alikeN n (ix fs k) (ix ds k)).all id) = true ↔ fs = ds := by
  rw [Bool.and_eq_true, decide_eq_true_eq, all_rng]
  constructor
  · rintro ⟨h1, h2⟩
    refine List.ext_getElem h1 fun k hk1 hk2 => ?_
    have h := (ih _ _ (by rw [ix_get hk2]; exact ok _ (List.getElem_mem hk2))).mp (h2 k hk2)
    rw [ix_get hk1, ix_get hk2] at h
    exact h
  · rintro rfl
    exact ⟨rfl, fun k hk => (ih _ _ (by rw [ix_get hk]; exact ok _ (List.getElem_mem hk))).mpr rfl⟩
theorem alikeN_iff : ∀ (n : Nat) (f d : PyData), OkN n d → (alikeN n f d = true ↔ f = d)
  | n, f, .none, _ => by cases n <;> cases f <;> simp [alikeN]
  | n, f, .bool b, _ => by cases n <;> cases f <;> simp [alikeN]
  | n, f, .int b, _ => by cases n <;> cases f <;> simp [alikeN]
  | n, f, .str b, _ => by cases n <;> cases f <;> simp [alikeN]
  | 0, _, .list _, h => by cases h.1
  | 0, _, .tuple _, h => by cases h.1
  | n + 1, f, .list ds, h => by
    cases f with
    | list fs => rw [alikeN, seq_iff (ds := ds) (alikeN_iff n) h.2.2]; simp
    | _ => simp [alikeN]
  | n + 1, f, .tuple ds, h => by
    cases f with
    | tuple fs => rw [alikeN, seq_iff (ds := ds) (alikeN_iff n) h.2.2]; simp
    | _ => simp [alikeN]
  | 0, _, .dict _, h => by cases h.2
  | _ + 1, _, .dict _, h => by cases h.1
theorem alike_dat {α : Type} [Rep α] [Dat α] [DecidableEq α] {n : Nat} {x y : α} (h : OkN n (dat y)) : alikeN n (dat x) (dat y) = decide (x = y) := by
  by_cases e : x = y
  · subst e
    rw [decide_eq_true rfl]
    exact (alikeN_iff n _ _ h).mpr rfl
  · rw [decide_eq_false e]
    cases q : alikeN n (dat x) (dat y) with
    | false => rfl
    | true => exact absurd (Dat.inj ((alikeN_iff n _ _ h).mp q)) e
end Pf

namespace Pf
open PySem PySem.Spec PyProof.Rows L2
/-! ### the layer's rules with the written part as a letter -/
section
variable {X : Cx} {K : Fg}
theorem ix_listK (h : X.K = K) : IxR X (rIxL K) := h ▸ ix_list
theorem ix_tupK (h : X.K = K) : IxR X (rIxT K) := h ▸ ix_tup
theorem ix_seqK (h : X.K = K) : IxR X (rIx K) := h ▸ ix_seq
theorem sl_listK (h : X.K = K) : SlR X (rSlL K) := h ▸ sl_list
theorem call_lenK (h : X.K = K) : CallR X (.builtin "len") (rLen K) := h ▸ call_len_seq
theorem cr_sumK (h : X.K = K) (hc : X.calm = true) : CallR X (.builtin "sum") (rSum K) := h ▸ cr_sum hc
theorem cr_allK (h : X.K = K) (hc : X.calm = true) : CallR X (.builtin "all") (rAll K) := h ▸ cr_all hc
theorem cr_anyK (h : X.K = K) (hc : X.calm = true) : CallR X (.builtin "any") (rAny K) := h ▸ cr_any hc
theorem call_isiKK (h : X.K = K) : CallR X (.builtin "isinstance") (rIsi K) := h ▸ call_isi
theorem call_isiTK (h : X.K = K) : CallR X (.builtin "isinstance") (rIsiT K) := h ▸ call_isiT
theorem call_listK (h : X.K = K) : CallR X (.type "list") (rListOf K) := h ▸ call_list_of
theorem call_tupleK (h : X.K = K) : CallR X (.type "tuple") (rTupOf K) := h ▸ call_tuple_of
theorem cr_sortedPOK (h : X.K = K) : CallR X (.builtin "sorted") (rSortedPO K) := h ▸ cr_sortedPO
theorem cr_sortedIK (h : X.K = K) : CallR X (.builtin "sorted") (rSortedI K) := h ▸ cr_sortedI
theorem op_inDK (h : X.K = K) (hu : X.A.units + 65 < cLine) : OpR X (compareOp .In) (rInD K) := h ▸ op_inD hu
theorem op_notInDK (h : X.K = K) (hu : X.A.units + 65 < cLine) : OpR X (compareOp .NotIn) (rNotInD K) := h ▸ op_notInD hu
theorem op_eqDK (h : X.K = K) (hu : X.A.units + 64 < cLine) : OpR X (compareOp .Eq) (rEqD K) := h ▸ op_eqD hu
theorem op_neDK (h : X.K = K) (hu : X.A.units + 64 < cLine) : OpR X (compareOp .NotEq) (rNeD K) := h ▸ op_neD hu
theorem op_ltTK (h : X.K = K) (hu : X.A.units < cLine) : OpR X (compareOp .Lt) (rLtT K) := h ▸ op_ltT hu
theorem op_leTK (h : X.K = K) (hu : X.A.units < cLine) : OpR X (compareOp .LtE) (rLeT K) := h ▸ op_leT hu
theorem op_catTK (h : X.K = K) : OpR X (binaryOp .Add) (rCatT K) := h ▸ op_catT
theorem pi_listK {tg l : Expr} {tl : TE} (h : X.K = K) (hl : PE X l tl) : PI X tg l (iList K tl) := h ▸ pi_list hl
theorem pi_tupK {tg l : Expr} {tl : TE} (h : X.K = K) (hl : PE X l tl) : PI X tg l (iTup K tl) := h ▸ pi_tup hl
theorem pg_tupK {es : List Expr} {k : Nat} {t : TGs} {n : Nat} {pos : Pos} (h : X.K = K) (hp : PG X (.Tuple es k pos) (gTup X.K n t)) : PG X (.Tuple es k pos) (gTup K n t) := h ▸ hp
end
end Pf

namespace Pf
open PySem PySem.Spec PyProof.Rows L2
def rGetL (K : Fg) : V → V → Hp → VK → Prop := fun x y H Q => ∃ p xs i v, x = .ref p ∧ y = .int i ∧ SqL K H p xs ∧ 0 ≤ i ∧ atI xs i = some v ∧ Q v H
theorem get_listK {X : Cx} {K : Fg} (h : X.K = K) : PGet X (rGetL K) := by
  subst h
  intro pins s σ H x y v u Q I rx ry h
  obtain ⟨p, xs, i, z, rfl, rfl, hq, h0, he, q⟩ := h
  cases rx
  obtain ⟨t, rfl⟩ := ry
  obtain ⟨its, r, pl, hz⟩ := I.list hq
  obtain ⟨j, h1, h2, h3, h4, h5⟩ := atI_get he
  obtain ⟨w, ew, rw'⟩ := r.get h2
  have hl := r.length
  have hn := line63
  have fin : EP X pins σ Q w s := ⟨z, H, I, rw', q⟩
  have hj : i.toNat = j := by
    rw [seqIndex_of h0 h5] at h1
    exact Option.some.inj h1
  exact wpAny_getItem_list pl.isList h0 (by omega) (by rw [hj]; simpa using ew) fin
/-! ### the law's own bag -/
/-- a bag: its cells, a place, a rest, a salt -/
def Bag (G H : Hp) (b : Addr) : Prop := G b = none ∧ ∃ cv c1 c2 c3, ∃ cells : List Int, H b = some (.lst [cv, .int c1, .int c2, .int c3]) ∧ rep G cv cells ∧ 0 ≤ c1 ∧ 0 ≤ c2 ∧ 0 ≤ c3 ∧ (∀ x ∈ cells, 0 ≤ x)
abbrev Mb (b : Addr) : Addr → Prop := fun a => a = b
theorem Bag.step {M : Addr → Prop} {G H G' H' : Hp} {b : Addr} (x : Bag G H b) (g : Gr M G H G' H') (hb : ¬ M b) : Bag G' H' b := by
  obtain ⟨n, cv, c1, c2, c3, cells, e, r, h⟩ := x
  exact ⟨g.out n e, cv, c1, c2, c3, cells, g.h _ _ hb e, Rep.mono g.g r, h⟩
theorem Bag.step0 {G H G' H' : Hp} {b : Addr} (x : Bag G H b) (g : Gr M0 G H G' H') : Bag G' H' b := x.step g fun z => z
theorem Bag.other {G H : Hp} {b q : Addr} {o : HO} (x : Bag G H b) (ne : b ≠ q) : Bag G (upd H q o) b := by
  obtain ⟨n, cv, c1, c2, c3, cells, e, r, h⟩ := x
  exact ⟨n, cv, c1, c2, c3, cells, by rw [upd_ne ne]; exact e, r, h⟩
theorem Bag.up {G G' H : Hp} {b : Addr} (x : Bag G H b) (g : Same G G') (n : G' b = none) : Bag G' H b := by
  obtain ⟨_, cv, c1, c2, c3, cells, e, r, h⟩ := x
  exact ⟨n, cv, c1, c2, c3, cells, e, Rep.mono g r, h⟩
def spPull : Sp := fun vs H Q _ => ∃ b many G, vs = [.ref b, .int many] ∧ Same G H ∧ Bag G H b ∧ 0 < many ∧ many.natAbs.log2 < 9000 ∧ ∀ r H', 0 ≤ r → r < many → Gr (Mb b) G H G H' → Bag G H' b → Q (.int r) H'
def spBag (K : Fg) : Sp := fun vs H Q _ => ∃ (a : Addr) (ns : List Int) (G : Hp), vs = [.ref a] ∧ Same G H ∧ SqL K G a (ns.map V.int) ∧ ns.length ≤ 63 ∧ ∀ b G' H', Gr M0 G H G' H' → H b = none → Bag G' H' b → Q (.ref b) H'
section
variable {α : Type} [Rep α] {σ : L2.St} {G G1 H : Hp} {te ta tb : TE} {tt : TT} {x : α} {K : Fg} {D : Ends} {ts tr u : TS}
theorem ev_at {i : Nat} {p : Addr} {vs : List V} {n : Nat} {v : V} (hv : σ[i]? = some (some (.ref p))) (hp : G p = some (.lst vs)) (ha : vs[n]? = some v) (r : rep G v x) : Ev (tOp (rIxL K) (tVar i) (tC (.int n))) σ G x :=
  fun H h Q q => ⟨.ref p, hv, p, vs, n, v, rfl, rfl, .inl (.inl (h _ _ hp)), atI_nat ha, q v G H (Gr.refl h) r⟩
/-! what is read while more is taken as still -/
theorem sq_setF [Flat α] {i : Nat} (h : Ev te σ G1 x) (i1 : Same G1 H) (s : Same G H) (k : ∀ v H', Gr M0 G H G H' → Same H H' → rep G v x → u D (σ.set i (some v)) H') : tSeq (tAsg te (gName i)) u D σ H := h.flat i1 s k
theorem st_setF [Flat α] {i : Nat} (h : Ev te σ G1 x) (i1 : Same G1 H) (s : Same G H) (k : ∀ v H', Gr M0 G H G H' → Same H H' → rep G v x → D.nx (σ.set i (some v)) H') : tAsg te (gName i) D σ H := h.flat i1 s k
theorem st_retF [Flat α] (h : Ev te σ G1 x) (i1 : Same G1 H) (s : Same G H) (k : ∀ v H', Gr M0 G H G H' → Same H H' → rep G v x → D.rt v H') : tRet te D σ H := h.flat i1 s k
theorem st_ifF {b : Bool} (h : EvT tt σ G1 b) (i1 : Same G1 H) (s : Same G H) (k1 : b = true → ∀ H', Gr M0 G H G H' → Same H H' → ts D σ H') (k2 : b = false → ∀ H', Gr M0 G H G H' → Same H H' → tr D σ H') : tIfS tt ts tr D σ H :=
  h.flat i1 s fun H' g e => ite2 (fun z => k1 z H' g e) (fun z => k2 (by simpa using z) H' g e)
theorem sq_ifF {b : Bool} (h : EvT tt σ G1 b) (i1 : Same G1 H) (s : Same G H) (k1 : b = true → ∀ H', Gr M0 G H G H' → Same H H' → ts { D with nx := u D } σ H') (k2 : b = false → ∀ H', Gr M0 G H G H' → Same H H' → tr { D with nx := u D } σ H') : tSeq (tIfS tt ts tr) u D σ H :=
  st_ifF (D := { D with nx := u D }) h i1 s k1 k2
/-- xs[n] = e -/
theorem sq_put [Flat α] {i n : Nat} {p : Addr} {vs : List V} (hv : σ[i]? = some (some (.ref p))) (hp : H p = some (.lst vs)) (hn : n < vs.length) (h : Ev te σ G1 x) (i1 : Same G1 H) (s : Same G H) (np : G p = none)
    (k : ∀ v H', Same H H' → Same G (upd H' p (.lst (vs.set n v))) → rep G v x → u D σ (upd H' p (.lst (vs.set n v)))) : tSeq (tAsg te (gSub (tVar i) (tC (.int n)) rSetL)) u D σ H :=
  h.flat i1 s fun v H' g e r => ⟨.ref p, hv, p, vs, n, n, rfl, rfl, e _ _ hp, by unfold ixN; rw [if_pos (by omega), if_pos (by omega)]; rfl, k v H' e (same_mut g.i np) r⟩
/-- xs[n] += k -/
theorem sq_up {i n : Nat} {p : Addr} {vs : List V} {a k : Int} (hv : σ[i]? = some (some (.ref p))) (hp : H p = some (.lst vs)) (hn : vs[n]? = some (.int a))
    (q : u D σ (upd H p (.lst (vs.set n (.int (a + k)))))) : tSeq (tAugS (tVar i) (tC (.int n)) (tC (.int k)) (rGetL K) (ipI fun i j => i + j) rSetL) u D σ H := by
  have hl : n < vs.length := by
    by_cases h : n < vs.length
    · exact h
    · rw [List.getElem?_eq_none (by omega)] at hn; cases hn
  exact ⟨.ref p, hv, p, vs, n, .int a, rfl, rfl, .inl (.inl hp), by omega, atI_nat hn, a, k, rfl, rfl, p, vs, n, n, rfl, rfl, hp, by unfold ixN; rw [if_pos (by omega), if_pos (by omega)]; rfl, q⟩
theorem sq_cut (Mid : L2.St → Hp → Prop) {H : Hp} (h1 : ts { D with nx := Mid } σ H) (h2 : ∀ σ' H', Mid σ' H' → u D σ' H') : C8.tCut ts u D σ H := ⟨Mid, h1, h2⟩
/-- the script, cut at 63 -/
theorem ev_script {i : Nat} {a : Addr} {ns : List Int} (hv : σ[i]? = some (some (.ref a))) (h : SqL K G a (ns.map V.int)) (hl : ns.length ≤ 63) : Ev (tSl (rSlL K) (tVar i) tNoPart (tPart (tC (.int 63)))) σ G ns := fun H s Q q => by
  refine ⟨.ref a, hv, 63, rfl, a, ns.map V.int, rfl, s.seq h, fun p np => ?_⟩
  have e : cutV (ns.map V.int) none (some 63) = ns.map V.int := by
    unfold cutV
    rw [HT.sIx_none, show HT.sIx (ns.map V.int).length (ns.map V.int).length (some 63) = min 63 (ns.map V.int).length from HT.sIx_nat _ _ 63, List.drop_zero, Nat.sub_zero]
    exact List.take_of_length_le (by rw [List.length_map]; omega)
  rw [e]
  exact q _ (upd G p (.lst (ns.map V.int))) _ (gr_new s np) ⟨p, _, rfl, upd_same, paired_of_ints ns⟩
end
theorem gr_bag {G H H' : Hp} {b : Addr} {o : HO} (g : Gr (Mb b) G H G H') (n : G b = none) : Gr (Mb b) G H G (upd H' b o) := g.mut (.inr rfl) n
theorem gr_b0 {G H H' : Hp} {b : Addr} (g : Gr M0 G H G H') : Gr (Mb b) G H G H' := g.wk
theorem gr_bt {G H H1 H2 : Hp} {b : Addr} (x : Gr (Mb b) G H G H1) (y : Gr (Mb b) G H1 G H2) (n : G b = none) : Gr (Mb b) G H G H2 := x.trans y fun a e => .inl (by cases e; exact n)
def spLaw (K : Fg) : Sp := fun vs H Q _ => ∃ (a : Addr) (ns : List Int), vs = [.ref a] ∧ SqL K H a (ns.map V.int) ∧ ns.length ≤ 63 ∧ ∀ H', Q (.bl true) H'
theorem rd_pull {σ : L2.St} {G H : Hp} {tm : TE} {i : Nat} {b : Addr} {many : Int} {E : XK} {Q : VK} (hv : σ[i]? = some (some (.ref b))) (s : Same G H) (bg : Bag G H b) (hm : Ev tm σ G many) (h0 : 0 < many) (hl : many.natAbs.log2 < 9000)
    (k : ∀ r H', 0 ≤ r → r < many → Gr (Mb b) G H G H' → Bag G H' b → Q (.int r) H') : tCall spPull [] E (tCons (tVar i) (tCons tm tNil)) σ H Q :=
  ⟨.ref b, hv, hm.flat s s fun v H1 g1 s1 r1 => ⟨b, many, G, by rw [rep_int r1]; rfl, g1.i, bg.step0 g1, h0, hl, fun r H' a1 a2 g2 b2 => k r H' a1 a2 (gr_bt (gr_b0 g1) g2 bg.1) b2⟩⟩
theorem sq_pull {σ : L2.St} {G H : Hp} {tm : TE} {i j : Nat} {b : Addr} {many : Int} {u : TS} {D : Ends} (hv : σ[i]? = some (some (.ref b))) (s : Same G H) (bg : Bag G H b) (hm : Ev tm σ G many) (h0 : 0 < many) (hl : many.natAbs.log2 < 9000)
    (k : ∀ r H', 0 ≤ r → r < many → Gr (Mb b) G H G H' → Bag G H' b → u D (σ.set j (some (.int r))) H') : tSeq (tAsg (tCall spPull [] E0 (tCons (tVar i) (tCons tm tNil))) (gName j)) u D σ H := rd_pull (E := E0) (Q := fun x H1 => gName j x σ H1 (u D)) hv s bg hm h0 hl k
theorem sq_pullAdd {σ : L2.St} {G H : Hp} {tm : TE} {i j : Nat} {b : Addr} {c many : Int} {u : TS} {D : Ends} (hv : σ[i]? = some (some (.ref b))) (s : Same G H) (bg : Bag G H b) (hm : Ev tm σ G many) (h0 : 0 < many) (hl : many.natAbs.log2 < 9000)
    (k : ∀ r H', 0 ≤ r → r < many → Gr (Mb b) G H G H' → Bag G H' b → u D (σ.set j (some (.int (c + r)))) H') : tSeq (tAsg (tOp (rI0 fun i j => .int (i + j)) (tC (.int c)) (tCall spPull [] E0 (tCons (tVar i) (tCons tm tNil)))) (gName j)) u D σ H :=
  rd_pull (E := E0) (Q := fun x H1 => rI0 (fun i j => .int (i + j)) (.int c) x H1 fun x H1 => gName j x σ H1 (u D)) hv s bg hm h0 hl fun r H' a1 a2 g b2 => ⟨c, r, rfl, rfl, k r H' a1 a2 g b2⟩
end Pf

namespace Pf
open PySem PySem.Spec PyProof.Rows L2
/-! ### pairs in order -/
abbrev ltI (p q : Int × Int) : Bool := SrtO.lexB p q
def insP (x : Int × Int) : List (Int × Int) → List (Int × Int)
  | [] => [x]
  | y :: r => if ltI y x = true then y :: insP x r else x :: y :: r
def sortP : List (Int × Int) → List (Int × Int)
  | [] => []
  | x :: r => insP x (sortP r)
theorem insP_perm (x : Int × Int) : ∀ l, (insP x l).Perm (x :: l)
  | [] => List.Perm.refl _
  | y :: r => by
    unfold insP
    split
    · exact ((insP_perm x r).cons y).trans (List.Perm.swap x y r)
    · exact List.Perm.refl _
theorem sortP_perm : ∀ l, (sortP l).Perm l
  | [] => List.Perm.refl _
  | x :: r => (insP_perm x (sortP r)).trans ((sortP_perm r).cons x)
theorem sortP_len (l : List (Int × Int)) : (sortP l).length = l.length := (sortP_perm l).length_eq
theorem ltI_tr {x y z : Int × Int} (h1 : ltI y x = false) (h2 : ltI z y = false) : ltI z x = false := by
  have a := SrtO.lexB_no.mp h1
  have b := SrtO.lexB_no.mp h2
  refine SrtO.lexB_no.mpr ?_
  omega
theorem ltI_as {x y : Int × Int} (h : ltI x y = true) : ltI y x = false := by
  have a := SrtO.lexB_iff.mp h
  refine SrtO.lexB_no.mpr ?_
  omega
theorem ltI_eq {x y : Int × Int} (h1 : ltI x y = false) (h2 : ltI y x = false) : x = y := by
  have a := SrtO.lexB_no.mp h1
  have b := SrtO.lexB_no.mp h2
  have e1 : x.1 = y.1 := by omega
  have e2 : x.2 = y.2 := by omega
  cases x; cases y
  exact congr (congrArg Prod.mk e1) e2
theorem insP_sorted (x : Int × Int) : ∀ l, SrtO.Srtd ltI l → SrtO.Srtd ltI (insP x l)
  | [], _ => List.pairwise_singleton _ _
  | y :: r, h => by
    obtain ⟨h1, h2⟩ := List.pairwise_cons.mp h
    unfold insP
    split
    · rename_i hy
      refine List.pairwise_cons.mpr ⟨fun z hz => ?_, insP_sorted x r h2⟩
      rcases List.mem_cons.mp ((insP_perm x r).mem_iff.mp hz) with e | e
      · subst e; exact ltI_as hy
      · exact h1 z e
    · rename_i hy
      have hy : ltI y x = false := by simpa using hy
      refine List.pairwise_cons.mpr ⟨fun z hz => ?_, h⟩
      rcases List.mem_cons.mp hz with e | e
      · subst e; exact hy
      · exact ltI_tr hy (h1 z e)
theorem sortP_sorted : ∀ l, SrtO.Srtd ltI (sortP l)
  | [] => List.Pairwise.nil
  | x :: r => insP_sorted x _ (sortP_sorted r)
theorem sorted_uniq : ∀ {l m : List (Int × Int)}, l.Perm m → SrtO.Srtd ltI l → SrtO.Srtd ltI m → l = m
  | [], m, p, _, _ => p.nil_eq
  | x :: l, [], p, _, _ => by cases p.symm.nil_eq
  | x :: l, y :: m, p, h1, h2 => by
    have e : x = y := by
      have hx := p.mem_iff.mp (List.mem_cons_self)
      have hy := p.symm.mem_iff.mp (List.mem_cons_self)
      rcases List.mem_cons.mp hx with e | e
      · exact e
      · rcases List.mem_cons.mp hy with e' | e'
        · exact e'.symm
        · exact ltI_eq ((List.pairwise_cons.mp h2).1 x e) ((List.pairwise_cons.mp h1).1 y e')
    subst e
    rw [sorted_uniq (List.Perm.cons_inv p) (List.pairwise_cons.mp h1).2 (List.pairwise_cons.mp h2).2]
theorem sortP_uniq {l m : List (Int × Int)} (p : l.Perm m) (h : SrtO.Srtd ltI l) : l = sortP m := sorted_uniq (p.trans (sortP_perm m).symm) h (sortP_sorted m)
/-- the pair that stands at a value -/
def keyAt (G : Hp) (v : V) : Int × Int := match v with
  | .ref t => match G t with
    | some (.tup [.int i, .int j]) => (i, j)
    | _ => (0, 0)
  | _ => (0, 0)
theorem keyAt_of {G : Hp} {v : V} {p : Int × Int} (h : rep G v p) : keyAt G v = p ∧ ∃ t, v = .ref t ∧ G t = some (.tup [.int p.1, .int p.2]) := by
  obtain ⟨t, u, w, rfl, h2, h3, h4⟩ := h
  cases h3; cases h4
  unfold keyAt
  exact ⟨by simp only [h2], t, rfl, h2⟩
theorem map_keyAt {G : Hp} : ∀ {vs : List V} {ps : List (Int × Int)}, Paired (rep G) vs ps → vs.map (keyAt G) = ps
  | _, _, .nil => rfl
  | _, _, .cons r t => by rw [List.map_cons, (keyAt_of r).1, map_keyAt t]
theorem paired_keyAt {G : Hp} : ∀ {vs : List V}, (∀ v ∈ vs, ∃ p : Int × Int, rep G v p) → Paired (rep G) vs (vs.map (keyAt G))
  | [], _ => .nil
  | v :: vs, h => by
    obtain ⟨p, hp⟩ := h v List.mem_cons_self
    refine .cons ?_ (paired_keyAt fun u hu => h u (List.mem_cons_of_mem _ hu))
    rw [(keyAt_of hp).1]; exact hp
theorem paired_mem {α : Type} [Rep α] {G : Hp} : ∀ {vs : List V} {xs : List α}, Paired (rep G) vs xs → ∀ v ∈ vs, ∃ x : α, rep G v x
  | _, _, .cons r t, v, h => by
    rcases List.mem_cons.mp h with e | e
    · subst e; exact ⟨_, r⟩
    · exact paired_mem t v e
section
variable {α β : Type} [Rep α] [Rep β] {σ : L2.St} {G H : Hp} {te ta tb : TE} {tt : TT} {x : α} {K : Fg} {D : Ends} {ts tr u : TS}
theorem ev_sortedP {ps : List (Int × Int)} (ha : Ev ta σ G ps) : Ev (tCB (rSortedPO K) (tCons ta tNil)) σ G (sortP ps) := ev_B1 ha fun v G' H _ i k Q q => by
  obtain ⟨a, vs, rfl, h2, h3⟩ := k
  refine ⟨a, vs, keyAt G', rfl, .inl (.inl (i _ _ h2)), fun x hx => ?_, fun ys p hs hb np => ?_⟩
  · obtain ⟨p, hp⟩ := paired_mem h3 x hx
    obtain ⟨e, t, e1, e2⟩ := keyAt_of hp
    exact ⟨t, e1, by rw [e]; exact i _ _ e2⟩
  · have hy : ∀ v ∈ ys, ∃ p : Int × Int, rep G' v p := fun v hv => paired_mem h3 v (hb.perm.mem_iff.mp hv)
    have hm : ys.map (keyAt G') = sortP ps := by
      refine sortP_uniq ?_ (List.pairwise_map.mpr hs)
      rw [← map_keyAt h3]
      exact hb.perm.map _
    refine q _ (upd G' p (.lst ys)) _ (gr_new i np) ⟨p, ys, rfl, upd_same, ?_⟩
    rw [← hm]
    exact paired_mono (gr_new (o := .lst ys) i np).g (paired_keyAt hy)
/-! ### at one heap -/
def EvH (te : TE) (σ : L2.St) (G H : Hp) (x : α) : Prop := ∀ Q : VK, (∀ v G' H', Gr M0 G H G' H' → rep G' v x → Q v H') → te σ H Q
def EvIH (wi : TI) (σ : L2.St) (G H : Hp) (xs : List α) : Prop := ∀ R : It → Hp → Prop, (∀ J G' H', Gr M0 G H G' H' → ItOk J G' xs → R J H') → wi σ H R
theorem Ev.at (h : Ev te σ G x) (s : Same G H) : EvH te σ G H x := h H s
theorem EvI.at {wi : TI} {xs : List α} (h : EvI wi σ G xs) (s : Same G H) : EvIH wi σ G H xs := h H s
theorem eih_list {xs : List α} (h : EvH te σ G H xs) : EvIH (iList K te) σ G H xs := fun R q => h _ fun v G' H' g k => by
  obtain ⟨a, vs, rfl, h2, h3⟩ := k
  refine ⟨a, rfl, ⟨vs, .inl (.inl (g.i _ _ h2))⟩, q _ G' H' g ⟨fun k H s l => ?_, fun k H s l => ?_, fun k H v H' G1 x s1 s2 y e => ?_⟩⟩
  · obtain ⟨v, e, _⟩ := paired_get h3 (List.getElem?_eq_getElem l)
    exact ⟨vs, v, .inl (.inl (s _ _ h2)), e⟩
  · exact ⟨vs, .inl (.inl (s _ _ h2)), by rw [paired_len h3]; exact l⟩
  · obtain ⟨rfl, y⟩ := y
    have e1 := y vs (.inl (.inl (s2 _ _ (s1 _ _ h2))))
    obtain ⟨x', e2, r⟩ := paired_get' h3 e1
    rw [e] at e2
    cases e2
    exact ⟨G1, Gr.refl s2, Rep.mono s1 r⟩
theorem st_forH {g : TG} {wi : TI} {xs : List α} (P : Nat → L2.St → Hp → Hp → Prop) (hx : EvIH wi σ G H xs)
    (h0 : ∀ G' H', Gr M0 G H G' H' → P 0 σ G' H')
    (hs : ∀ k x v σ' G1 H1 G2 H2, xs[k]? = some x → Same G G1 → Same G1 H1 → P k σ' G1 H1 → Gr M0 G1 H1 G2 H2 → rep G2 v x →
      g v σ' H2 fun σ2 H3 => ts { nx := fun σ3 H3 => ∃ G3, Same G1 G3 ∧ Same G3 H3 ∧ P (k + 1) σ3 G3 H3, rt := D.rt, ct := fun σ3 H3 => ∃ G3, Same G1 G3 ∧ Same G3 H3 ∧ P (k + 1) σ3 G3 H3, bk := D.nx } σ2 H3)
    (hd : ∀ σ' G' H', Same G G' → Same G' H' → P xs.length σ' G' H' → D.nx σ' H') : tFor wi g ts D σ H := by
  refine hx _ fun J G1 H1 g1 ok => ?_
  refine ⟨fun k m σ' H' => m = xs.length - k ∧ k ≤ xs.length ∧ ∃ Gk, Same G1 Gk ∧ Same Gk H' ∧ P k σ' Gk H', ⟨_, rfl, Nat.zero_le _, G1, Same.refl G1, g1.i, h0 G1 H1 g1⟩, ?_⟩
  rintro k m σ' H2 ⟨rfl, hk, Gk, sg, sh, pk⟩
  by_cases hlt : k < xs.length
  · refine .inr ⟨ok.go k H2 (sg.trans sh) hlt, fun σ3 H3 => ∃ G3, Same Gk G3 ∧ Same G3 H3 ∧ P (k + 1) σ3 G3 H3, fun σ3 H3 h3 => ?_, fun v H3 yl => ?_⟩
    · obtain ⟨G3, e1, e2, e3⟩ := h3
      exact ⟨xs.length - (k + 1), by omega, rfl, hlt, G3, sg.trans e1, e2, e3⟩
    · obtain ⟨G3, g3, r3⟩ := ok.yld k H2 v H3 Gk xs[k] sg sh yl (List.getElem?_eq_getElem hlt)
      exact hs k xs[k] v σ' Gk H2 G3 H3 (List.getElem?_eq_getElem hlt) (g1.g.trans sg) sh pk g3 r3
  · have e : k = xs.length := by omega
    subst e
    exact .inl ⟨ok.stop _ H2 (sg.trans sh) (Nat.le_refl _), hd σ' Gk H2 (g1.g.trans sg) sh pk⟩
theorem sq_forH {g : TG} {wi : TI} {xs : List α} (P : Nat → L2.St → Hp → Hp → Prop) (hx : EvIH wi σ G H xs)
    (h0 : ∀ G' H', Gr M0 G H G' H' → P 0 σ G' H')
    (hs : ∀ k x v σ' G1 H1 G2 H2, xs[k]? = some x → Same G G1 → Same G1 H1 → P k σ' G1 H1 → Gr M0 G1 H1 G2 H2 → rep G2 v x →
      g v σ' H2 fun σ2 H3 => ts { nx := fun σ3 H3 => ∃ G3, Same G1 G3 ∧ Same G3 H3 ∧ P (k + 1) σ3 G3 H3, rt := D.rt, ct := fun σ3 H3 => ∃ G3, Same G1 G3 ∧ Same G3 H3 ∧ P (k + 1) σ3 G3 H3, bk := u D } σ2 H3)
    (hd : ∀ σ' G' H', Same G G' → Same G' H' → P xs.length σ' G' H' → u D σ' H') : tSeq (tFor wi g ts) u D σ H := st_forH (D := { D with nx := u D }) P hx h0 hs hd
/-! ### a dict with pairs as keys, still being made -/
abbrev kk (p : Int × Int) : List Key := [Sum.inl p.1, Sum.inl p.2]
theorem kk_inj {p q : Int × Int} (h : kk p = kk q) : p = q := by
  injection h with h1 h
  injection h with h2 h
  cases p; cases q
  exact congr (congrArg Prod.mk (Sum.inl.inj h1)) (Sum.inl.inj h2)
def OptRep (G : Hp) (o : Option V) (m : Option α) : Prop := match m with
  | some x => ∃ v, o = some v ∧ rep G v x
  | none => o = none
def Md (G H : Hp) (d : Addr) (n : Nat) (m : Int × Int → Option α) : Prop := G d = none ∧ ∃ kvs, H d = some (.dT kvs) ∧ kvs.length ≤ n ∧ ∀ p, OptRep G (valV kvs (kk p)) (m p)
theorem OptRep.mono {G G' : Hp} (e : Same G G') {o : Option V} {m : Option α} (h : OptRep G o m) : OptRep G' o m := by
  cases m with
  | none => exact h
  | some x => obtain ⟨v, h1, h2⟩ := h; exact ⟨v, h1, Rep.mono e h2⟩
theorem Md.step {M : Addr → Prop} {G H G' H' : Hp} {d : Addr} {n : Nat} {m : Int × Int → Option α} (x : Md G H d n m) (g : Gr M G H G' H') (hp : ¬ M d) : Md G' H' d n m := by
  obtain ⟨h1, kvs, h2, h3, h4⟩ := x
  exact ⟨g.out h1 h2, kvs, g.h _ _ hp h2, h3, fun p => (h4 p).mono g.g⟩
theorem Md.step0 {G H G' H' : Hp} {d : Addr} {n : Nat} {m : Int × Int → Option α} (x : Md G H d n m) (g : Gr M0 G H G' H') : Md G' H' d n m := x.step g fun z => z
theorem Md.other {q d : Addr} {o : HO} {n : Nat} {m : Int × Int → Option α} (x : Md G H d n m) (ne : d ≠ q) : Md G (upd H q o) d n m := by
  obtain ⟨h1, kvs, h2, h⟩ := x
  exact ⟨h1, kvs, by rw [upd_ne ne]; exact h2, h⟩
theorem Md.up {G' : Hp} {d : Addr} {n : Nat} {m : Int × Int → Option α} (x : Md G H d n m) (g : Same G G') (nd : G' d = none) : Md G' H d n m := by
  obtain ⟨h1, kvs, h2, h3, h4⟩ := x
  exact ⟨nd, kvs, h2, h3, fun p => (h4 p).mono g⟩
theorem Md.cast {d : Addr} {n : Nat} {m m' : Int × Int → Option α} (x : Md G H d n m) (e : ∀ p, m p = m' p) : Md G H d n m' := by
  obtain ⟨h1, kvs, h2, h3, h4⟩ := x
  exact ⟨h1, kvs, h2, h3, fun p => by rw [← e p]; exact h4 p⟩
theorem sq_newdict {i : Nat} (s : Same G H) (k : ∀ d o, H d = none → Md (α := α) G (upd H d o) d 0 (fun _ => none) → Same G (upd H d o) → u D (σ.set i (some (.ref d))) (upd H d o)) : tSeq (tAsg tDNewT (gName i)) u D σ H := fun d nd =>
  k d (.dT []) nd ⟨up_none s nd, [], upd_same, Nat.le_refl _, fun p => rfl⟩ (same_mut s (up_none s nd))
/-- d[a, b] -/
theorem evh_dget {i : Nat} {d : Addr} {n : Nat} {m : Int × Int → Option α} {p : Int × Int} {x : α} (hv : σ[i]? = some (some (.ref d))) (md : Md G H d n m) (s : Same G H) (hk : Ev te σ G p) (hm : m p = some x) : EvH (tDGet (tVar i) te) σ G H x := fun Q q =>
  ⟨.ref d, hv, hk H s _ fun v G1 H1 g1 k1 => by
    obtain ⟨n1, kvs, e1, _, e3⟩ := md.step0 g1
    have h := e3 p
    rw [hm] at h
    obtain ⟨w, e4, r⟩ := h
    obtain ⟨t, u, w', rfl, h2, h3, h4⟩ := k1
    cases h3; cases h4
    exact ⟨d, w, rfl, e4 ▸ DGet.t (k := kk p) e1 (g1.i _ _ h2), q w G1 H1 g1 r⟩⟩
/-- d[a, b] = e, e stands still from then on -/
theorem sq_dput {i : Nat} {d : Addr} {n : Nat} {m : Int × Int → Option α} {p : Int × Int} {x : α} (hv : σ[i]? = some (some (.ref d))) (md : Md G H d n m) (s : Same G H) (hx : Ev te σ G x) (hk : Ev tb σ G p) (hn : n < 100000)
    (k : ∀ G' H' o, Gr M0 G H G' H' → Md G' (upd H' d o) d (n + 1) (fun q => if q = p then some x else m q) → Same G' (upd H' d o) → D.nx σ (upd H' d o)) : sDPut (tVar i) tb te D σ H := hx H s _ fun v G1 H1 g1 k1 =>
  ⟨.ref d, hv, (hk.mono g1.g) H1 g1.i _ fun w G2 H2 g2 k2 => by
    obtain ⟨n1, kvs, e1, e2, e3⟩ := (md.step0 g1).step0 g2
    obtain ⟨t, u, w', rfl, h2, h3, h4⟩ := k2
    cases h3; cases h4
    refine ⟨d, upd H2 d (.dT (putK kvs (kk p) v)), rfl, DPut.t (k := kk p) e1 (g2.i _ _ h2) (sl_lt (by omega)), ?_⟩
    refine k G2 H2 _ (g1.trans g2) ⟨n1, _, upd_same, ?_, fun q => ?_⟩ (same_mut g2.i n1)
    · unfold putK
      split
      · rw [List.length_map]; omega
      · rw [List.length_append]; show kvs.length + 1 ≤ n + 1; omega
    · rw [valV_put]
      by_cases e : q = p
      · subst e
        rw [if_pos rfl]
        simp only [if_pos]
        exact ⟨v, rfl, Rep.mono g2.g k1⟩
      · rw [if_neg fun z => e (kk_inj z)]
        simp only [if_neg e]
        exact e3 q⟩
theorem st_retC {y : α} (h : Ev te σ G x) (s : Same G H) (e : x = y) (k : ∀ v G' H', Gr M0 G H G' H' → rep G' v y → D.rt v H') : tRet te D σ H := h H s _ fun v G' H' g r => k v G' H' g (e ▸ r)
end
end Pf

namespace Pf
open PySem PySem.Spec PyProof.Rows L2
local macro_rules | `(tactic| walk_at "pf_sm") => `(tactic| first
  | assumption | exact Same.refl _ | exact Gr.g (by assumption)
  | ((refine' Same.trans ?_ (Gr.g (by assumption))); walk_at "pf_sm")
  | ((refine' Same.trans ?_ (by assumption)); walk_at "pf_sm"))
local macro_rules | `(tactic| walk_at "pf_rp") => `(tactic| first
  | assumption | exact rfl
  | ((refine' Rep.mono ?s ?h); (case h => assumption); (case s => walk_at "pf_sm")))
local macro_rules | `(tactic| walk_at "pf_side") => `(tactic| first
  | assumption | omega | decide | (exact Nat.le_of_ble_eq_true rfl) | (exact ⟨by omega, by omega⟩) | (exact .inr ⟨by decide, by decide⟩) | (exact .inl ⟨by decide, by decide⟩) | (exact .inr ⟨by omega, by omega⟩) | (exact .inl ⟨by omega, by omega⟩))
local macro_rules | `(tactic| walk_at "pf_ev") => `(tactic| (with_reducible show (_ : Prop)); first
  | with_reducible exact ev_int | with_reducible exact ev_bl | with_reducible exact ev_str
  | ((with_reducible show Ev (tVar _) _ _ _); exact ev_var (by rfl) (by walk_at "pf_rp"))
  | ((with_reducible refine' ev_add ?_ ?_) <;> try walk_at "pf_ev")
  | ((with_reducible refine' ev_sub ?_ ?_) <;> try walk_at "pf_ev")
  | ((with_reducible refine' ev_mul ?_ ?_ ?_) <;> try walk_at "pf_ev")
  | ((with_reducible refine' ev_fdiv ?_ ?_ ?_) <;> try walk_at "pf_ev")
  | ((with_reducible refine' ev_mod ?_ ?_ ?_) <;> try walk_at "pf_ev")
  | ((with_reducible refine' ev_lt ?_ ?_) <;> try walk_at "pf_ev")
  | ((with_reducible refine' ev_le ?_ ?_) <;> try walk_at "pf_ev")
  | ((with_reducible refine' ev_gt ?_ ?_) <;> try walk_at "pf_ev")
  | ((with_reducible refine' ev_ge ?_ ?_) <;> try walk_at "pf_ev")
  | ((with_reducible refine' ev_eqI ?_ ?_) <;> try walk_at "pf_ev")
  | ((with_reducible refine' ev_neI ?_ ?_) <;> try walk_at "pf_ev")
  | ((with_reducible refine' ev_neg ?_) <;> try walk_at "pf_ev")
  | ((with_reducible refine' ev_ixL ?_ ?_ ?_) <;> try walk_at "pf_ev")
  | ((with_reducible refine' ev_tup2 ?_ ?_) <;> try walk_at "pf_ev")
  | ((with_reducible refine' ev_tup3 ?_ ?_ ?_) <;> try walk_at "pf_ev")
  | ((with_reducible refine' ev_lenL ?_) <;> try walk_at "pf_ev")
  | ((with_reducible refine' ev_sum ?_) <;> try walk_at "pf_ev")
  | ((with_reducible refine' ev_all ?_) <;> try walk_at "pf_ev")
  | ((with_reducible refine' ev_any ?_) <;> try walk_at "pf_ev")
  | ((with_reducible refine' ev_abs ?_) <;> try walk_at "pf_ev")
  | ((with_reducible refine' ev_min2 ?_ ?_) <;> try walk_at "pf_ev")
  | ((with_reducible refine' ev_max2 ?_ ?_) <;> try walk_at "pf_ev")
  | ((with_reducible refine' ev_intB ?_) <;> try walk_at "pf_ev")
  | ((with_reducible refine' ev_call1 ?_ ?_) <;> try walk_at "pf_ev")
  | ((with_reducible refine' ev_call2 ?_ ?_ ?_) <;> try walk_at "pf_ev")
  | ((with_reducible refine' ev_call3 ?_ ?_ ?_ ?_) <;> try walk_at "pf_ev")
  | ((with_reducible refine' ev_call4 ?_ ?_ ?_ ?_ ?_) <;> try walk_at "pf_ev")
  | ((with_reducible refine' et_test ?_) <;> try walk_at "pf_ev")
  | ((with_reducible refine' et_B ?_) <;> try walk_at "pf_ev")
  | with_reducible exact et_yes
  | ((with_reducible refine' et_not ?_) <;> try walk_at "pf_ev")
  | ((with_reducible refine' et_and ?_ (fun _ => ?_)) <;> try walk_at "pf_ev")
  | ((with_reducible refine' et_or ?_ (fun _ => ?_)) <;> try walk_at "pf_ev")
  | ((with_reducible refine' ev_andV ?_ (fun _ => ?_)) <;> try walk_at "pf_ev")
  | ((with_reducible refine' ev_orV ?_ (fun _ => ?_)) <;> try walk_at "pf_ev")
  | ((with_reducible refine' ev_notV ?_) <;> try walk_at "pf_ev")
  | ((with_reducible refine' ei_r1 ?_ ?_) <;> try walk_at "pf_ev")
  | ((with_reducible refine' ei_r2 ?_ ?_ ?_) <;> try walk_at "pf_ev")
  | ((with_reducible refine' ei_list ?_) <;> try walk_at "pf_ev")
  | ((with_reducible refine' ei_tup ?_) <;> try walk_at "pf_ev")
  | with_reducible exact evs_nil
  | ((with_reducible refine' evs_cons ?_ ?_) <;> try walk_at "pf_ev")
  | ((with_reducible refine' ev_lst ?_ ?_) <;> try walk_at "pf_ev")
  | walk_at "pf_side")

def topS (i : Nat) : Stmt := PySem.Challenge.pw_pinchfold_k07_how_many_plans.main.body.getD i (.Pass ⟨0, 0, 0, 0⟩)
abbrev s__law_whole : Stmt := topS 17
abbrev N__law_whole : List Str := ["_law_found"]
theorem sc__law_whole : FnScope N__law_whole ["_law_found"] (defScope s__law_whole) := ⟨rfl, rfl, rfl, by decide +kernel, rfl, by decide +kernel, by decide +kernel⟩
abbrev s__law_alike : Stmt := topS 11
abbrev N__law_alike : List Str := ["_law_found", "_law_due", "_law_at"]
theorem sc__law_alike : FnScope N__law_alike ["_law_found", "_law_due"] (defScope s__law_alike) := ⟨rfl, rfl, rfl, by decide +kernel, rfl, by decide +kernel, by decide +kernel⟩

def isWhole (d : PyData) : Bool := isTy "int" d && !isTy "bool" d
section
variable {P : Program} {w : World} {K : Fg} {mg : Str → Option Value} {base : Heap}
theorem d_whole (T : Tx K mg "_law_whole" ["_law_found"] s__law_whole) (bl : Bl mg) : Df P w K mg base 1 "_law_whole" ["_law_found"] (sp1 (fun (_ : PyData) => True) isWhole) := by
  refine T.ok sc__law_whole (fun vs H Q E h => ?_) (fun cdv f A outer s H vs Q E hr h => ?_)
  · obtain ⟨v, x, G, rfl, _⟩ := h
    rfl
  obtain ⟨v, x, G, rfl, i, r1, _, q⟩ := h
  refine ⟨_, (pss_one (ps_ret (pe_and (pe_callB (call_isiKK (K := K) rfl) (by rfl) (bl "isinstance" (by decide)) (by decide +kernel) (pa_cons (pv 0) (pa_cons (pe_bltn (v := .ty "int") (by rfl) (bl "int" (by decide)) boot_int rfl) pa_nil))) (pe_one (pe_not (pe_callB (call_isiKK (K := K) rfl) (by rfl) (bl "isinstance" (by decide)) (by decide +kernel) (pa_cons (pv 0) (pa_cons (pe_bltn (v := .ty "bool") (by rfl) (bl "bool" (by decide)) boot_bool rfl) pa_nil)))))))), ?_⟩
  refine st_ret (G := G) (ev_andV (ev_isi (d := x) (by walk_at "pf_ev") (by decide)) fun _ => ev_notV (ev_isi (d := x) (by walk_at "pf_ev") (by decide))) i (fun v G' H' g r => q v G' H' g r)
theorem an_none (n : Nat) (f : PyData) : alikeN n f .none = isNone f := by cases n <;> cases f <;> simp [alikeN, isNone]
theorem an_bool (n : Nat) (f : PyData) (b : Bool) : (isTy "bool" f && alikeN n f (.bool b)) = alikeN n f (.bool b) := by cases n <;> cases f <;> simp [alikeN, isTy, tyD]
theorem an_str (n : Nat) (f : PyData) (b : Str) : (isTy "str" f && alikeN n f (.str b)) = alikeN n f (.str b) := by cases n <;> cases f <;> simp [alikeN, isTy, tyD]
theorem an_int (n : Nat) (f : PyData) (b : Int) : (isWhole f && alikeN n f (.int b)) = alikeN n f (.int b) := by cases n <;> cases f <;> simp [alikeN, isTy, tyD, isWhole]
theorem or_nd {a : Bool} {p : Prop} [Decidable p] (ha : a = true) (h : (!a || !decide p) = true) : ¬ p := by
  subst ha
  intro hp
  rw [decide_eq_true hp] at h
  cases h
theorem or_np {a : Bool} {p : Prop} [Decidable p] (h : (!a || !decide p) = false) : p := by
  by_cases hp : p
  · exact hp
  · rw [decide_eq_false hp, Bool.not_false, Bool.or_true] at h
    cases h
theorem an_len1 {m : Nat} {fs ds : List PyData} (h : ¬ ((fs.length : Int) = ds.length)) : alikeN (m + 1) (.list fs) (.list ds) = false := by
  rw [alikeN, decide_eq_false (by omega)]; rfl
theorem an_len2 {m : Nat} {fs ds : List PyData} (h : ¬ ((fs.length : Int) = ds.length)) : alikeN (m + 1) (.tuple fs) (.tuple ds) = false := by
  rw [alikeN, decide_eq_false (by omega)]; rfl
theorem an_eq1 {m : Nat} {fs ds : List PyData} (h : fs.length = ds.length) : ((rng 0 (ds.length : Int)).map fun k => alikeN m (ix fs k) (ix ds k)).all id = alikeN (m + 1) (.list fs) (.list ds) := by
  rw [alikeN, decide_eq_true h, Bool.true_and]
theorem an_eq2 {m : Nat} {fs ds : List PyData} (h : fs.length = ds.length) : ((rng 0 (ds.length : Int)).map fun k => alikeN m (ix fs k) (ix ds k)).all id = alikeN (m + 1) (.tuple fs) (.tuple ds) := by
  rw [alikeN, decide_eq_true h, Bool.true_and]
theorem eq_bool (n : Nat) {f : PyData} {b : Bool} (h : isTy "bool" f = true) : ∀ G v u, RD G f v → RD G (.bool b) u → scal v u = true ∧ decide (v = u) = alikeN n f (.bool b) := by
  intro G v u h1 h2
  cases f with
  | bool c =>
    rw [show v = .bl c from h1, show u = .bl b from h2, v_bl_eq]
    exact ⟨rfl, by cases n <;> simp [alikeN]⟩
  | _ => simp [isTy, tyD] at h
theorem eq_str (n : Nat) {f : PyData} {b : Str} (h : isTy "str" f = true) : ∀ G v u, RD G f v → RD G (.str b) u → scal v u = true ∧ decide (v = u) = alikeN n f (.str b) := by
  intro G v u h1 h2
  cases f with
  | str c =>
    rw [show v = .str c from h1, show u = .str b from h2, v_str_eq]
    exact ⟨rfl, by cases n <;> simp [alikeN]⟩
  | _ => simp [isTy, tyD] at h
theorem eq_int (n : Nat) {f : PyData} {b : Int} (h : isWhole f = true) : ∀ G v u, RD G f v → RD G (.int b) u → scal v u = true ∧ decide (v = u) = alikeN n f (.int b) := by
  intro G v u h1 h2
  cases f with
  | int c =>
    rw [show v = .int c from h1, show u = .int b from h2, v_int_eq]
    exact ⟨rfl, by cases n <;> simp [alikeN]⟩
  | _ => simp [isTy, tyD, isWhole] at h
theorem d_alike (T : Tx K mg "_law_alike" ["_law_found", "_law_due"] s__law_alike) (TW : Tx K mg "_law_whole" ["_law_found"] s__law_whole) (bl : Bl mg) : ∀ n : Nat, Df P w K mg base (n + 2) "_law_alike" ["_law_found", "_law_due"]
    (sp2 (fun (_ d : PyData) => OkN n d) (alikeN n)) := by
  have D__law_whole := d_whole (P := P) (w := w) (base := base) TW bl
  have main : ∀ n : Nat, (∀ m, n = m + 1 → Df P w K mg base (m + 2) "_law_alike" ["_law_found", "_law_due"] (sp2 (fun (_ d : PyData) => OkN m d) (alikeN m))) →
      Df P w K mg base (n + 2) "_law_alike" ["_law_found", "_law_due"] (sp2 (fun (_ d : PyData) => OkN n d) (alikeN n)) := by
    intro n IH
    refine T.ok (k := n + 1) sc__law_alike (fun vs H Q E h => ?_) (fun cdv f A outer s H vs Q E hr h => ?_)
    · obtain ⟨v, x, v2, x2, G, rfl, _⟩ := h
      rfl
    obtain ⟨v, x, v2, x2, G, rfl, i, r1, r2, ok, q⟩ := h
    by_cases hs : isSeq x2 = true
    · obtain ⟨m, rfl⟩ : ∃ m, n = m + 1 := by
        cases n with
        | zero => rw [ok.1] at hs; cases hs
        | succ m => exact ⟨m, rfl⟩
      have D__law_alike := IH m rfl
      refine ⟨_, (pss_cons (ps_if (pt_cmpR op_isN (pv 1) pe_non (nomark _))
      (pss_one (ps_ret (pe_cmpR op_isN (pv 0) pe_non (nomark _))))
      pss_nil)
    (pss_cons (ps_if (pt_val (pe_callB (call_isiKK (K := K) rfl) (by rfl) (bl "isinstance" (by decide)) (by decide +kernel) (pa_cons (pv 1) (pa_cons (pe_bltn (v := .ty "bool") (by rfl) (bl "bool" (by decide)) boot_bool rfl) pa_nil))))
      (pss_one (ps_ret (pe_and (pe_callB (call_isiKK (K := K) rfl) (by rfl) (bl "isinstance" (by decide)) (by decide +kernel) (pa_cons (pv 0) (pa_cons (pe_bltn (v := .ty "bool") (by rfl) (bl "bool" (by decide)) boot_bool rfl) pa_nil))) (pe_one (pe_cmpR op_eq (pv 0) (pv 1) (nomark _))))))
      pss_nil)
    (pss_cons (ps_if (pt_val (pe_callB (call_isiKK (K := K) rfl) (by rfl) (bl "isinstance" (by decide)) (by decide +kernel) (pa_cons (pv 1) (pa_cons (pe_bltn (v := .ty "int") (by rfl) (bl "int" (by decide)) boot_int rfl) pa_nil))))
      (pss_one (ps_ret (pe_and (pe_df D__law_whole hr (by first | decide | omega) (by rfl) (pa_cons (pv 0) pa_nil)) (pe_one (pe_cmpR op_eq (pv 0) (pv 1) (nomark _))))))
      pss_nil)
    (pss_cons (ps_if (pt_val (pe_callB (call_isiKK (K := K) rfl) (by rfl) (bl "isinstance" (by decide)) (by decide +kernel) (pa_cons (pv 1) (pa_cons (pe_bltn (v := .ty "str") (by rfl) (bl "str" (by decide)) boot_str rfl) pa_nil))))
      (pss_one (ps_ret (pe_and (pe_callB (call_isiKK (K := K) rfl) (by rfl) (bl "isinstance" (by decide)) (by decide +kernel) (pa_cons (pv 0) (pa_cons (pe_bltn (v := .ty "str") (by rfl) (bl "str" (by decide)) boot_str rfl) pa_nil))) (pe_one (pe_cmpR op_eq (pv 0) (pv 1) (nomark _))))))
      pss_nil)
    (pss_cons (ps_if (PW.pt (pw_or (pt_cmpR op_ne (pe_callB (call_isiKK (K := K) rfl) (by rfl) (bl "isinstance" (by decide)) (by decide +kernel) (pa_cons (pv 1) (pa_cons (pe_bltn (v := .ty "list") (by rfl) (bl "list" (by decide)) boot_list rfl) pa_nil))) (pe_callB (call_isiKK (K := K) rfl) (by rfl) (bl "isinstance" (by decide)) (by decide +kernel) (pa_cons (pv 0) (pa_cons (pe_bltn (v := .ty "list") (by rfl) (bl "list" (by decide)) boot_list rfl) pa_nil))) (nomark _)) (pw_or1 (pt_cmpR op_ne (pe_callB (call_isiKK (K := K) rfl) (by rfl) (bl "isinstance" (by decide)) (by decide +kernel) (pa_cons (pv 1) (pa_cons (pe_bltn (v := .ty "tuple") (by rfl) (bl "tuple" (by decide)) boot_tuple rfl) pa_nil))) (pe_callB (call_isiKK (K := K) rfl) (by rfl) (bl "isinstance" (by decide)) (by decide +kernel) (pa_cons (pv 0) (pa_cons (pe_bltn (v := .ty "tuple") (by rfl) (bl "tuple" (by decide)) boot_tuple rfl) pa_nil))) (nomark _)))))
      (pss_one (ps_ret pe_bl))
      pss_nil)
    (pss_cons (ps_if (PW.pt (pw_or (pt_not (pt_val (pe_callB (call_isiTK (K := K) rfl) (by rfl) (bl "isinstance" (by decide)) (by decide +kernel) (pa_cons (pv 0) (pa_cons (pe_tup (pa_cons (pe_bltn (v := .ty "list") (by rfl) (bl "list" (by decide)) boot_list rfl) (pa_cons (pe_bltn (v := .ty "tuple") (by rfl) (bl "tuple" (by decide)) boot_tuple rfl) pa_nil))) pa_nil))))) (pw_or1 (pt_cmpR op_ne (pe_callB (call_lenK (K := K) rfl) (by rfl) (bl "len" (by decide)) (by decide +kernel) (pa_cons (pv 0) pa_nil)) (pe_callB (call_lenK (K := K) rfl) (by rfl) (bl "len" (by decide)) (by decide +kernel) (pa_cons (pv 1) pa_nil)) (nomark _)))))
      (pss_one (ps_ret pe_bl))
      pss_nil)
    (pss_one (ps_ret (pe_callB (cr_allK (K := K) rfl rfl) (by rfl) (bl "all" (by decide)) (by decide +kernel) (pa_cons (pe_lc (own := [("_law_at", 2)]) rfl sc__law_alike.nd (pi_range1 (by rfl) (bl "range" (by decide)) (pa_cons (pe_callB (call_lenK (K := K) rfl) (by rfl) (bl "len" (by decide)) (by decide +kernel) (pa_cons (pv 1) pa_nil)) pa_nil)) (blkOk_by (own := [("_law_at", 2)]) (N := N__law_alike) (sc := defScope s__law_alike) (by decide +kernel)) (fun _ _ _ _ _ => (pg_name (i := 2) sc__law_alike.nd rfl (by first | exact .inl rfl | exact .inr rfl))) (fun _ _ _ _ _ => pts_nil) (fun _ _ _ _ _ => (pe_df D__law_alike hr (by first | decide | omega) (by rfl) (pa_cons (pe_ix (ix_seqK (K := K) rfl) (pv 0) (pv 2) (fun _ _ => rfl)) (pa_cons (pe_ix (ix_seqK (K := K) rfl) (pv 1) (pv 2) (fun _ _ => rfl)) pa_nil))))) pa_nil)))))))))), ?_⟩
      have no : ∀ {A : Prop}, (isNone x2 = true ∨ isTy "bool" x2 = true ∨ isTy "int" x2 = true ∨ isTy "str" x2 = true) → A := by
        intro A h
        exfalso
        cases x2 <;> simp [isTy, tyD, isSeq, isNone] at h hs
      refine sq_ifn (G := G) (et_test (ev_isN (d := x2) (by walk_at "pf_ev"))) i (fun hb _ _ _ => no (.inl hb)) (fun _ G1 H1 g1 => ?_)
      refine sq_ifn (G := G1) (et_B (ev_isi (d := x2) (by walk_at "pf_ev") (by decide))) g1.i (fun hb _ _ _ => no (.inr (.inl hb))) (fun _ G2 H2 g2 => ?_)
      refine sq_ifn (G := G2) (et_B (ev_isi (d := x2) (by walk_at "pf_ev") (by decide))) g2.i (fun hb _ _ _ => no (.inr (.inr (.inl hb)))) (fun _ G3 H3 g3 => ?_)
      refine sq_ifn (G := G3) (et_B (ev_isi (d := x2) (by walk_at "pf_ev") (by decide))) g3.i (fun hb _ _ _ => no (.inr (.inr (.inr hb)))) (fun _ G4 H4 g4 => ?_)
      have g14 := ((g1.trans g2).trans g3).trans g4
      refine sq_ifn (G := G4) (et_or (et_test (ev_neB (ev_isi (d := x2) (by walk_at "pf_ev") (by decide)) (ev_isi (d := x) (by walk_at "pf_ev") (by decide)))) (fun _ => et_test (ev_neB (ev_isi (d := x2) (by walk_at "pf_ev") (by decide)) (ev_isi (d := x) (by walk_at "pf_ev") (by decide))))) g4.i (fun hb G' H' g => ?_) (fun hb5 G5 H5 g5 => ?_)
      · refine st_ret (G := G') ev_bl g.i (fun v G2 H2 g2 r => q v G2 H2 ((g14.trans g).trans g2) ?_)
        have e : alikeN (m + 1) x x2 = false := by
          cases x2 <;> cases x <;> simp [isTy, tyD, isSeq, alikeN] at hb hs ⊢
        rw [e]; exact r
      have g15 := g14.trans g5
      have hk2 : (∃ fs ds, x = .list fs ∧ x2 = .list ds) ∨ (∃ fs ds, x = .tuple fs ∧ x2 = .tuple ds) := by
        cases x2 <;> cases x <;> simp [isTy, tyD, isSeq] at hb5 hs ⊢
      have hk : isSeq x = true := by
        rcases hk2 with ⟨fs, ds, rfl, rfl⟩ | ⟨fs, ds, rfl, rfl⟩ <;> rfl
      refine sq_ifn (G := G5) (et_or (et_not (et_B (ev_isiT (d := x) (by walk_at "pf_ev") (by decide) (by decide)))) (fun _ => et_test (ev_neI (ev_lenD (d := x) (by walk_at "pf_ev") hk) (ev_lenD (d := x2) (by walk_at "pf_ev") hs)))) g5.i (fun hb G' H' g => ?_) (fun hb6 G6 H6 g6 => ?_)
      · refine st_ret (G := G') ev_bl g.i (fun v G2 H2 g2 r => q v G2 H2 ((g15.trans g).trans g2) ?_)
        have e : alikeN (m + 1) x x2 = false := by
          rcases hk2 with ⟨fs, ds, rfl, rfl⟩ | ⟨fs, ds, rfl, rfl⟩
          · exact an_len1 (or_nd (by simp [isTy, tyD]) hb)
          · exact an_len2 (or_nd (by simp [isTy, tyD]) hb)
        rw [e]; exact r
      have hl : (itemsD x).length = (itemsD x2).length := by
        rcases hk2 with ⟨fs, ds, rfl, rfl⟩ | ⟨fs, ds, rfl, rfl⟩
        · have z : ((fs.length : Int) = ds.length) := or_np hb6
          exact Int.ofNat.inj z
        · have z : ((fs.length : Int) = ds.length) := or_np hb6
          exact Int.ofNat.inj z
      have e : ((rng 0 ((itemsD x2).length : Int)).map fun k => alikeN m (ix (itemsD x) k) (ix (itemsD x2) k)).all id = alikeN (m + 1) x x2 := by
        rcases hk2 with ⟨fs, ds, rfl, rfl⟩ | ⟨fs, ds, rfl, rfl⟩
        · exact an_eq1 hl
        · exact an_eq2 hl
      have okl := ok.2.1
      refine st_ret (G := G6) ((ev_all (ev_lc (f := fun k => alikeN m (ix (itemsD x) k) (ix (itemsD x2) k)) (ei_r1 (ev_lenD (d := x2) (by walk_at "pf_ev") hs) (by omega)) (by rw [rng_len]; omega) ?_)).cast e) g6.i (fun v G2 H2 g2 r => q v G2 H2 ((g15.trans g6).trans g2) r)
      intro c hc v4 G4' s4 r4
      rw [rng_mem] at hc
      refine gb_name ⟨rfl, ?_⟩
      refine ev_call2 (x := ix (itemsD x) c) (x2 := ix (itemsD x2) c) (ev_ixD (d := x) ?_ ?_ hk (by omega)) (ev_ixD (d := x2) ?_ ?_ hs (by omega)) ?_
      all_goals try walk_at "pf_ev"
      have hc2 : c.toNat < (itemsD x2).length := by omega
      have ec : ix (itemsD x2) c = (itemsD x2)[c.toNat] := by unfold ix; rw [List.getElem?_eq_getElem hc2]; rfl
      rw [ec]
      exact ok.2.2 _ (List.getElem_mem hc2)
    · have hs : isSeq x2 = false := by simpa using hs
      refine ⟨_, (pss_cons (ps_if (pt_cmpR op_isN (pv 1) pe_non (nomark _))
      (pss_one (ps_ret (pe_cmpR op_isN (pv 0) pe_non (nomark _))))
      pss_nil)
    (pss_cons (ps_if (pt_val (pe_callB (call_isiKK (K := K) rfl) (by rfl) (bl "isinstance" (by decide)) (by decide +kernel) (pa_cons (pv 1) (pa_cons (pe_bltn (v := .ty "bool") (by rfl) (bl "bool" (by decide)) boot_bool rfl) pa_nil))))
      (pss_one (ps_ret (pe_and (pe_callB (call_isiKK (K := K) rfl) (by rfl) (bl "isinstance" (by decide)) (by decide +kernel) (pa_cons (pv 0) (pa_cons (pe_bltn (v := .ty "bool") (by rfl) (bl "bool" (by decide)) boot_bool rfl) pa_nil))) (pe_one (pe_cmpR op_eq (pv 0) (pv 1) (nomark _))))))
      pss_nil)
    (pss_cons (ps_if (pt_val (pe_callB (call_isiKK (K := K) rfl) (by rfl) (bl "isinstance" (by decide)) (by decide +kernel) (pa_cons (pv 1) (pa_cons (pe_bltn (v := .ty "int") (by rfl) (bl "int" (by decide)) boot_int rfl) pa_nil))))
      (pss_one (ps_ret (pe_and (pe_df D__law_whole hr (by first | decide | omega) (by rfl) (pa_cons (pv 0) pa_nil)) (pe_one (pe_cmpR op_eq (pv 0) (pv 1) (nomark _))))))
      pss_nil)
    (pss_cons (ps_if (pt_val (pe_callB (call_isiKK (K := K) rfl) (by rfl) (bl "isinstance" (by decide)) (by decide +kernel) (pa_cons (pv 1) (pa_cons (pe_bltn (v := .ty "str") (by rfl) (bl "str" (by decide)) boot_str rfl) pa_nil))))
      (pss_one (ps_ret (pe_and (pe_callB (call_isiKK (K := K) rfl) (by rfl) (bl "isinstance" (by decide)) (by decide +kernel) (pa_cons (pv 0) (pa_cons (pe_bltn (v := .ty "str") (by rfl) (bl "str" (by decide)) boot_str rfl) pa_nil))) (pe_one (pe_cmpR op_eq (pv 0) (pv 1) (nomark _))))))
      pss_nil)
    pss_never)))), ?_⟩
      refine sq_ifn (G := G) (et_test (ev_isN (d := x2) (by walk_at "pf_ev"))) i (fun hb G' H' g => ?_) (fun hb G1 H1 g1 => ?_)
      · have e : x2 = .none := by cases x2 <;> first | rfl | cases hb
        subst e
        refine st_ret (G := G') (ev_isN (d := x) (by walk_at "pf_ev")) g.i (fun v G2 H2 g2 r => q v G2 H2 (g.trans g2) (by rw [an_none]; exact r))
      refine sq_ifn (G := G1) (et_B (ev_isi (d := x2) (by walk_at "pf_ev") (by decide))) g1.i (fun hb G' H' g => ?_) (fun hb2 G2 H2 g2 => ?_)
      · obtain ⟨b, rfl⟩ : ∃ b, x2 = .bool b := by cases x2 <;> first | exact ⟨_, rfl⟩ | simp [isTy, tyD] at hb
        refine st_ret (G := G') ((ev_andV (ev_isi (d := x) (by walk_at "pf_ev") (by decide)) (fun h => ev_eqD (d := x) (e := .bool b) (by walk_at "pf_ev") (by walk_at "pf_ev") _ (eq_bool n h))).cast (an_bool n x b)) g.i (fun v G2 H2 g2 r => q v G2 H2 ((g1.trans g).trans g2) r)
      have g12 := g1.trans g2
      refine sq_ifn (G := G2) (et_B (ev_isi (d := x2) (by walk_at "pf_ev") (by decide))) g2.i (fun hb G' H' g => ?_) (fun hb3 G3 H3 g3 => ?_)
      · obtain ⟨b, rfl⟩ : ∃ b, x2 = .int b := by cases x2 <;> first | exact ⟨_, rfl⟩ | simp [isTy, tyD] at hb hb2
        refine st_ret (G := G') ((ev_andV (ev_call1 (x := x) (by walk_at "pf_ev") trivial) (fun h => ev_eqD (d := x) (e := .int b) (by walk_at "pf_ev") (by walk_at "pf_ev") _ (eq_int n h))).cast (an_int n x b)) g.i (fun v G2 H2 g2 r => q v G2 H2 ((g12.trans g).trans g2) r)
      have g13 := g12.trans g3
      refine sq_ifn (G := G3) (et_B (ev_isi (d := x2) (by walk_at "pf_ev") (by decide))) g3.i (fun hb G' H' g => ?_) (fun hb4 G4 H4 g4 => ?_)
      · obtain ⟨b, rfl⟩ : ∃ b, x2 = .str b := by cases x2 <;> first | exact ⟨_, rfl⟩ | simp [isTy, tyD] at hb hb2
        refine st_ret (G := G') ((ev_andV (ev_isi (d := x) (by walk_at "pf_ev") (by decide)) (fun h => ev_eqD (d := x) (e := .str b) (by walk_at "pf_ev") (by walk_at "pf_ev") _ (eq_str n h))).cast (an_str n x b)) g.i (fun v G2 H2 g2 r => q v G2 H2 ((g13.trans g).trans g2) r)
      · exfalso
        have okd : isDict x2 = false := by cases n <;> first | exact ok.2 | exact ok.1
        cases x2 <;> simp [isTy, tyD, isSeq, isNone, isDict] at hb hb2 hb3 hb4 hs okd
  intro n
  induction n with
  | zero => exact main 0 fun m h => by cases h
  | succ n ih => exact main (n + 1) fun m h => by cases h; exact ih
end

abbrev s__law_pull : Stmt := topS 15
abbrev N__law_pull : List Str := ["_law_bag_here", "_law_many", "_law_seed", "_law_blend", "_law_drawn"]
theorem sc__law_pull : FnScope N__law_pull ["_law_bag_here", "_law_many"] (defScope s__law_pull) := ⟨rfl, rfl, rfl, by decide +kernel, rfl, by decide +kernel, by decide +kernel⟩
abbrev s__law_bag : Stmt := topS 12
abbrev N__law_bag : List Str := ["_law_script", "_law_cells", "_law_one", "_law_salt"]
theorem sc__law_bag : FnScope N__law_bag ["_law_script"] (defScope s__law_bag) := ⟨rfl, rfl, rfl, by decide +kernel, rfl, by decide +kernel, by decide +kernel⟩

section
variable {P : Program} {w : World} {K : Fg} {mg : Str → Option Value} {base : Heap}
theorem d_pull (T : Tx K mg "_law_pull" ["_law_bag_here", "_law_many"] s__law_pull) (bl : Bl mg) : Df P w K mg base 1 "_law_pull" ["_law_bag_here", "_law_many"] spPull := by
  refine T.ok sc__law_pull (fun vs H Q E h => ?_) (fun cdv f A outer s H vs Q E hr h => ?_)
  · obtain ⟨b, many, G, rfl, _⟩ := h
    rfl
  obtain ⟨b, many, G, rfl, i, ⟨nb, cv, c1, c2, c3, cells, eb, rc, p1, p2, p3, p4⟩, hm, hl, q⟩ := h
  refine ⟨_, (pss_cons (ps_if (pt_cmpR op_lt (pe_ix (ix_listK (K := K) rfl) (pv 0) pe_int (fun _ _ => rfl)) pe_int (nomark _))
      (pss_cons (ps_augS (pv 0) pe_int (get_listK (K := K) rfl) pe_int ip_add set_list)
      (pss_cons (ps_set (i := 2) sc__law_pull.nd rfl (by first | exact .inl rfl | exact .inr rfl) (pe_ix (ix_listK (K := K) rfl) (pv 0) pe_int (fun _ _ => rfl)))
      (C8.pss_cut (ps_if (pt_cmpR op_le (pe_ix (ix_listK (K := K) rfl) (pv 0) pe_int (fun _ _ => rfl)) (pe_callB (call_lenK (K := K) rfl) (by rfl) (bl "len" (by decide)) (by decide +kernel) (pa_cons (pe_ix (ix_listK (K := K) rfl) (pv 0) pe_int (fun _ _ => rfl)) pa_nil)) (nomark _))
        (pss_cons (ps_set (i := 2) sc__law_pull.nd rfl (by first | exact .inl rfl | exact .inr rfl) (pe_ix (ix_listK (K := K) rfl) (pe_ix (ix_listK (K := K) rfl) (pv 0) pe_int (fun _ _ => rfl)) (pe_op op_sub (pe_ix (ix_listK (K := K) rfl) (pv 0) pe_int (fun _ _ => rfl)) pe_int) (fun _ _ => rfl)))
        (pss_one (ps_if (pt_cmpR op_ge (pv 2) (pe_op op_pow pe_int pe_int) (nomark _))
          (pss_cons (ps_asg (pe_op op_fdivW (pv 2) (pv 1)) (pg_sub (pv 0) pe_int set_list))
          (pss_one (ps_ret (pe_op op_mod (pv 2) (pv 1)))))
          pss_nil)))
        pss_nil)
      (pss_cons (ps_set (i := 3) sc__law_pull.nd rfl (by first | exact .inl rfl | exact .inr rfl) (pe_op op_mod (pe_op op_add (pe_op op_add (pv 2) (pe_op op_mul (pe_ix (ix_listK (K := K) rfl) (pv 0) pe_int (fun _ _ => rfl)) pe_int)) (pe_op op_mul (pe_ix (ix_listK (K := K) rfl) (pv 0) pe_int (fun _ _ => rfl)) pe_int)) pe_int))
      (pss_cons (ps_set (i := 3) sc__law_pull.nd rfl (by first | exact .inl rfl | exact .inr rfl) (pe_op op_mod (pe_op op_add (pe_op op_mul (pv 3) (pv 3)) pe_int) pe_int))
      (pss_one (ps_ret (pe_op op_mod (pe_op op_fdivW (pe_op op_mod (pe_op op_add (pe_op op_mul (pv 3) (pv 3)) (pe_ix (ix_listK (K := K) rfl) (pv 0) pe_int (fun _ _ => rfl))) pe_int) pe_int) (pv 1)))))))))
      pss_nil)
    (pss_cons (ps_set (i := 4) sc__law_pull.nd rfl (by first | exact .inl rfl | exact .inr rfl) (pe_op op_mod (pe_ix (ix_listK (K := K) rfl) (pv 0) pe_int (fun _ _ => rfl)) (pv 1)))
    (pss_cons (ps_asg (pe_op op_fdivW (pe_ix (ix_listK (K := K) rfl) (pv 0) pe_int (fun _ _ => rfl)) (pv 1)) (pg_sub (pv 0) pe_int set_list))
    (pss_one (ps_ret (pv 4)))))), ?_⟩
  have cd : CDivW 0 many := ⟨hm, hl⟩
  have c19 : CDivW 0 19 := ⟨by decide, by decide⟩
  have ia : Same (upd G b (.lst [cv, .int c1, .int c2, .int c3])) H := same_still i eb
  have sG : ∀ o, Same G (upd G b o) := fun o => same_new nb
  refine sq_ifF (G := G) (et_test (ev_lt (ev_at (i := 0) (n := 2) rfl upd_same rfl rfl) ev_int)) ia i (fun hb H1 g1 s1 => ?_) (fun hb H1 g1 s1 => ?_)
  · -- the next cell
    refine sq_up (i := 0) (n := 1) (a := c1) (k := 1) rfl (s1 _ _ eb) rfl ?_
    have i0 : Same G (upd H1 b (.lst [cv, .int (c1 + 1), .int c2, .int c3])) := same_mut g1.i nb
    have e0 : (upd H1 b (.lst [cv, .int (c1 + 1), .int c2, .int c3])) b = some (.lst [cv, .int (c1 + 1), .int c2, .int c3]) := upd_same
    have gb0 : Gr (Mb b) G H G (upd H1 b (.lst [cv, .int (c1 + 1), .int c2, .int c3])) := gr_bag (gr_b0 g1) nb
    show tSeq _ _ _ _ (upd H1 b (.lst [cv, .int (c1 + 1), .int c2, .int c3]))
    generalize upd H1 b (.lst [cv, .int (c1 + 1), .int c2, .int c3]) = Ha at i0 e0 gb0
    have ea : ∀ {H : Hp}, Same G H → H b = some (.lst [cv, .int (c1 + 1), .int c2, .int c3]) → Same (upd G b (.lst [cv, .int (c1 + 1), .int c2, .int c3])) H := fun i e => same_still i e
    refine sq_setF (G := G) (ev_at (x := c1 + 1) (i := 0) (n := 1) rfl (upd_same (H := G)) rfl rfl) (ea i0 e0) i0 (fun v H2 g2 s2 r2 => ?_)
    cases r2
    have e2 := s2 _ _ e0
    refine sq_cut (fun σ' H' => ∃ seed : Int, 0 ≤ seed ∧ σ' = [some (.ref b), some (.int many), some (.int seed), none, none] ∧ Same H2 H') ?_ ?_
    · refine st_ifF (G := G) (et_test (ev_le (ev_at (i := 0) (n := 1) rfl (upd_same (H := G)) rfl rfl) (ev_lenL (ev_at (x := cells) (i := 0) (n := 0) rfl (upd_same (H := G)) rfl (Rep.mono (sG _) rc))))) (ea g2.i e2) g2.i (fun hc H3 g3 s3 => ?_) (fun hc H3 g3 s3 => ?_)
      · have hc : c1 + 1 ≤ cells.length := of_decide_eq_true hc
        have e3 := s3 _ _ e2
        refine sq_setF (G := G) (ev_ixL (xs := cells) (ev_at (i := 0) (n := 0) rfl (upd_same (H := G)) rfl (Rep.mono (sG _) rc)) (ev_sub (ev_at (i := 0) (n := 1) rfl (upd_same (H := G)) rfl rfl) ev_int) (by omega)) (ea g3.i e3) g3.i (fun v H4 g4 s4 r4 => ?_)
        cases r4
        have hx : 0 ≤ ix cells (c1 + 1 - 1) := by
          unfold ix
          rw [List.getElem?_eq_getElem (show (c1 + 1 - 1).toNat < cells.length by omega)]
          exact p4 _ (List.getElem_mem _)
        generalize ix cells (c1 + 1 - 1) = seed at hx
        have e4 := s4 _ _ e3
        refine st_ifF (G := G) (et_test (ev_ge (ev_var rfl rfl) (ev_pow ev_int ev_int ⟨by decide, by decide, by decide⟩))) g4.i g4.i (fun hd H5 g5 s5 => ?_) (fun hd H5 g5 s5 => ?_)
        · have e5 := s5 _ _ e4
          refine sq_put (G := G) (i := 0) (n := 2) rfl e5 (by show 2 < 4; decide) (ev_fdivW (i := seed) (ev_var rfl rfl) (ev_var rfl rfl) ⟨hm, hl⟩) g5.i g5.i nb (fun v H6 s6 i6 r6 => ?_)
          cases r6
          refine st_retF (G := G) (ev_mod (i := seed) (ev_var rfl rfl) (ev_var rfl rfl) hm) i6 i6 (fun v H7 g7 s7 r7 => ?_)
          cases r7
          refine q _ H7 (Int.emod_nonneg _ (by omega)) (Int.emod_lt_of_pos _ hm) ?_ ⟨nb, cv, c1 + 1, seed / many, c3, cells, s7 _ _ upd_same, rc, by omega, Int.ediv_nonneg hx (by omega), p3, p4⟩
          exact gr_bt (gr_bag (gr_bt gb0 ⟨Same.refl G, i0.trans (s2.trans (s3.trans (s4.trans (s5.trans s6)))), SB.of (s2.trans (s3.trans (s4.trans (s5.trans s6)))), fun _ _ e => .inl e⟩ nb) nb) (gr_b0 g7) nb
        · exact ⟨seed, hx, rfl, s3.trans (s4.trans s5)⟩
      · exact ⟨c1 + 1, by omega, rfl, s3⟩
    · rintro σ' H3 ⟨seed, hs0, rfl, s3⟩
      have e3 := s3 _ _ e2
      have i3 : Same G H3 := g2.i.trans s3
      refine sq_setF (G := G) (ev_mod (ev_add (ev_add (i := seed) (ev_var rfl rfl) (ev_mul (ev_at (x := c3) (i := 0) (n := 3) rfl (upd_same (H := G)) rfl rfl) ev_int (.inr ⟨by decide, by decide⟩))) (ev_mul (ev_at (x := c1 + 1) (i := 0) (n := 1) rfl (upd_same (H := G)) rfl rfl) ev_int (.inr ⟨by decide, by decide⟩))) ev_int (by decide)) (ea i3 e3) i3 (fun v H4 g4 s4 r4 => ?_)
      cases r4
      have b1 : ∀ z : Int, 0 ≤ z % 2147483629 ∧ z % 2147483629 < 2147483629 := fun z => ⟨Int.emod_nonneg _ (by decide), Int.emod_lt_of_pos _ (by decide)⟩
      have b1 := b1 (seed + c3 * 31 + (c1 + 1) * 69061)
      generalize (seed + c3 * 31 + (c1 + 1) * 69061) % 2147483629 = bl1 at b1
      refine sq_setF (G := G) (ev_mod (ev_add (ev_mul (i := bl1) (j := bl1) (ev_var rfl rfl) (ev_var rfl rfl) (.inr ⟨by omega, by omega⟩)) ev_int) ev_int (by decide)) g4.i g4.i (fun v H5 g5 s5 r5 => ?_)
      cases r5
      have b2 : ∀ z : Int, 0 ≤ z % 2147483587 ∧ z % 2147483587 < 2147483587 := fun z => ⟨Int.emod_nonneg _ (by decide), Int.emod_lt_of_pos _ (by decide)⟩
      have b2 := b2 (bl1 * bl1 + 40961)
      generalize (bl1 * bl1 + 40961) % 2147483587 = bl2 at b2
      have e5 := s5 _ _ (s4 _ _ e3)
      refine st_retF (G := G) (ev_mod (ev_fdivW (ev_mod (ev_add (ev_mul (i := bl2) (j := bl2) (ev_var rfl rfl) (ev_var rfl rfl) (.inr ⟨by omega, by omega⟩)) (ev_at (x := c1 + 1) (i := 0) (n := 1) rfl (upd_same (H := G)) rfl rfl)) ev_int (by decide)) ev_int ⟨by decide, by decide⟩) (ev_var rfl rfl) hm) (ea g5.i e5) g5.i (fun v H6 g6 s6 r6 => ?_)
      cases r6
      refine q _ H6 (Int.emod_nonneg _ (by omega)) (Int.emod_lt_of_pos _ hm) ?_ ⟨nb, cv, c1 + 1, c2, c3, cells, s6 _ _ e5, rc, by omega, p2, p3, p4⟩
      exact gr_bt gb0 ⟨Same.refl G, i0.trans (s2.trans (s3.trans (s4.trans (s5.trans s6)))), SB.of (s2.trans (s3.trans (s4.trans (s5.trans s6)))), fun _ _ e => .inl e⟩ nb
  · -- of the rest
    have hb2 : ¬ c2 < 2 := of_decide_eq_false hb
    show tSeq _ _ _ _ _
    have e1 := s1 _ _ eb
    refine sq_setF (G := G) (ev_mod (ev_at (i := 0) (n := 2) rfl (upd_same (H := G)) rfl rfl) (ev_var rfl rfl) hm) (same_still g1.i e1) g1.i (fun v H2 g2 s2 r2 => ?_)
    cases r2
    have e2 := s2 _ _ e1
    refine sq_put (G := G) (i := 0) (n := 2) rfl e2 (by show 2 < 4; decide) (ev_fdivW (ev_at (i := 0) (n := 2) rfl (upd_same (H := G)) rfl rfl) (ev_var rfl rfl) ⟨hm, hl⟩) (same_still g2.i e2) g2.i nb (fun v H3 s3 i3 r3 => ?_)
    cases r3
    refine st_ret (G := G) (x := c2 % many) (ev_var rfl rfl) i3 (fun v G4 H4 g4 r4 => ?_)
    cases r4
    have gb : Gr (Mb b) G H G (upd H3 b (.lst [cv, .int c1, .int (c2 / many), .int c3])) := gr_bag ⟨Same.refl G, i.trans (s1.trans (s2.trans s3)), SB.of (s1.trans (s2.trans s3)), fun _ _ e => .inl e⟩ nb
    have g4' : Gr (Mb b) G (upd H3 b (.lst [cv, .int c1, .int (c2 / many), .int c3])) G H4 := ⟨Same.refl G, g4.g.trans g4.i, SB.of g4.same, fun _ _ e => .inl e⟩
    refine q _ H4 (Int.emod_nonneg _ (by omega)) (Int.emod_lt_of_pos _ hm) (gr_bt gb g4' nb) ⟨nb, cv, c1, c2 / many, c3, cells, g4.same _ _ upd_same, rc, p1, Int.ediv_nonneg p2 (by omega), p3, p4⟩
theorem d_bag (T : Tx K mg "_law_bag" ["_law_script"] s__law_bag) (bl : Bl mg) : Df P w K mg base 1 "_law_bag" ["_law_script"] (spBag K) := by
  refine T.ok sc__law_bag (fun vs H Q E h => ?_) (fun cdv f A outer s H vs Q E hr h => ?_)
  · obtain ⟨a, ns, G, rfl, _⟩ := h
    rfl
  obtain ⟨a, ns, G, rfl, i, hq, hl, q⟩ := h
  refine ⟨_, (pss_cons (ps_setLc (i := 1) (own := [("_law_one", 2)]) rfl sc__law_bag.nd rfl rfl (sw_true rfl rfl rfl (by decide +kernel)) (pi_listK (K := K) rfl (pe_slice (sl_listK (K := K) rfl) (pv 0) po_none (po_some pe_int))) (blkOk_by (own := [("_law_one", 2)]) (N := N__law_bag) (sc := defScope s__law_bag) (by decide +kernel)) (fun _ _ _ _ _ => (pg_name (i := 2) sc__law_bag.nd rfl (by first | exact .inl rfl | exact .inr rfl))) (fun _ _ _ _ _ => pts_nil) (fun _ _ _ _ _ => (pe_callB call_abs (by rfl) (bl "abs" (by decide)) (by decide +kernel) (pa_cons (pv 2) pa_nil))))
    (pss_cons (ps_set (i := 3) sc__law_bag.nd rfl (by first | exact .inl rfl | exact .inr rfl) (pe_op op_add pe_int (pe_callB (call_lenK (K := K) rfl) (by rfl) (bl "len" (by decide)) (by decide +kernel) (pa_cons (pv 1) pa_nil))))
    (pss_cons (ps_for PassesOwn.never rfl (pi_listK (K := K) rfl (pe_slice (sl_listK (K := K) rfl) (pv 0) po_none (po_some pe_int))) (pg_name (i := 2) sc__law_bag.nd rfl (by first | exact .inl rfl | exact .inr rfl))
      (pss_one (ps_set (i := 3) sc__law_bag.nd rfl (by first | exact .inl rfl | exact .inr rfl) (pe_op op_mod (pe_op op_add (pe_op op_add (pe_op op_mul (pv 3) pe_int) (pe_callB call_abs (by rfl) (bl "abs" (by decide)) (by decide +kernel) (pa_cons (pv 2) pa_nil))) (pe_op op_mul pe_int (pe_callTy call_int1 (by rfl) (bl "int" (by decide)) (by decide +kernel) (pa_cons (pe_cmpR op_lt (pv 2) pe_int (nomark _)) pa_nil)))) pe_int))))
    (pss_one (ps_ret (pe_lst (pa_cons (pv 1) (pa_cons pe_int (pa_cons pe_int (pa_cons (pv 3) pa_nil)))))))))), ?_⟩
  refine sq_set (G := G) (ev_lc (f := fun (n : Int) => if n < 0 then -n else n) (ei_list (ev_script rfl hq hl)) (by omega) ?_) i (fun cv G1 H1 g1 r1 => ?_)
  · intro n hn v G1 s1 r1
    exact gb_name ⟨rfl, ev_abs (ev_var rfl r1)⟩
  refine sq_set (G := G1) (x := 1 + ((ns.map fun (n : Int) => if n < 0 then -n else n).length : Int)) (ev_add ev_int (ev_lenL (ev_var rfl r1))) g1.i (fun v G2 H2 g2 r2 => ?_)
  cases r2
  have g12 := g1.trans g2
  refine sq_for (G := G2) (xs := ns) (fun k σ G' H' => ∃ o salt, σ = [some (.ref a), some cv, o, some (.int salt)] ∧ 0 ≤ salt ∧ Gr M0 G H G' H' ∧ rep G' cv (ns.map fun (n : Int) => if n < 0 then -n else n)) (ei_list (ev_script rfl ((g1.g.trans g2.g).seq hq) hl)) g2.i ?_ ?_ ?_
  · intro G3 H3 g3
    exact ⟨none, _, rfl, by omega, g12.trans g3, Rep.mono (g2.g.trans g3.g) r1⟩
  · intro k n v σ' G3 H3 G4 H4 hk e1 e2 hP g4 r4
    obtain ⟨o, salt, rfl, h0, gr, rc⟩ := hP
    cases r4
    refine gn ?_
    refine st_set (G := G4) (ev_mod (ev_add (ev_add (ev_mul (i := salt) (ev_var rfl rfl) ev_int (.inr ⟨by decide, by decide⟩)) (ev_abs (i := n) (ev_var rfl rfl))) (ev_mul ev_int (ev_intB (ev_lt (i := n) (ev_var rfl rfl) ev_int)) (.inl ⟨by decide, by decide⟩))) ev_int (by decide)) g4.i (fun v G5 H5 g5 r5 => ?_)
    cases r5
    exact ⟨G5, g4.g.trans g5.g, g5.i, _, _, rfl, Int.emod_nonneg _ (by decide), (gr.trans g4).trans g5, Rep.mono (g4.g.trans g5.g) rc⟩
  · intro σ' G3 H3 e1 e2 hP
    obtain ⟨o, salt, rfl, h0, gr, rc⟩ := hP
    refine ⟨cv, rfl, .int salt, rfl, (by show 4 ≤ sizeLine; decide), fun p np => ?_⟩
    have nG : G3 p = none := up_none e2 np
    refine q p G3 _ (gr.mut (.inl (up_none gr.same np)) nG) (up_none gr.same np) ⟨nG, cv, 0, 0, salt, _, upd_same, rc, by decide, by decide, h0, fun x hx => ?_⟩
    obtain ⟨n, _, rfl⟩ := List.mem_map.mp hx
    show 0 ≤ if n < 0 then -n else n
    split <;> omega
end

abbrev s__law_pair : Stmt := topS 14
abbrev N__law_pair : List Str := ["_law_one", "_law_other"]
theorem sc__law_pair : FnScope N__law_pair ["_law_one", "_law_other"] (defScope s__law_pair) := ⟨rfl, rfl, rfl, by decide +kernel, rfl, by decide +kernel, by decide +kernel⟩
abbrev s__law_every_plan : Stmt := topS 13
abbrev N__law_every_plan : List Str := ["_law_faces", "_law_arcs", "_law_wide", "_law_start", "_law_rows", "_law_middle", "_law_first", "_law_second", "_law_found", "_law_row", "_law_cuts", "_law_low", "_law_high"]
theorem sc__law_every_plan : FnScope N__law_every_plan ["_law_faces"] (defScope s__law_every_plan) := ⟨rfl, rfl, rfl, by decide +kernel, rfl, by decide +kernel, by decide +kernel⟩

abbrev Plan := Int × Tup (Int × Int)
def lawPair (a b : Int) : Int × Int := (if b < a then b else a, if b > a then b else a)
abbrev Rows := List (List (Int × Int))
def arcRow (sub : Int → Int → Rows) (s e : Int) : Rows := (rng (s + 1) e).flatMap fun m => (sub s m).flatMap fun a => (sub m e).map fun b => a ++ b ++ [(s, m), (m, e)]
def arcs : Nat → Int → Int → Rows
  | 0, _, _ => []
  | f + 1, s, e => if e - s = 1 then [[]] else arcRow (arcs f) s e
def arcV (s e : Int) : Rows := arcs (e - s).toNat s e
theorem flatMap_congr' {α β : Type} {l : List α} {f g : α → List β} (h : ∀ x ∈ l, f x = g x) : l.flatMap f = l.flatMap g := by
  induction l with
  | nil => rfl
  | cons x r ih =>
    rw [List.flatMap_cons, List.flatMap_cons, h x List.mem_cons_self, ih fun y hy => h y (List.mem_cons_of_mem _ hy)]
theorem arcRow_congr {f g : Int → Int → Rows} {s e : Int} (h : ∀ m, s < m → m < e → f s m = g s m ∧ f m e = g m e) : arcRow f s e = arcRow g s e := by
  refine flatMap_congr' fun m hm => ?_
  have hm := rng_mem.mp hm
  obtain ⟨h1, h2⟩ := h m (by omega) (by omega)
  rw [h1, h2]
theorem arcs_fuel : ∀ (f : Nat) (s e : Int), s < e → (e - s).toNat ≤ f → arcs f s e = arcV s e := by
  intro f
  induction f using Nat.strongRecOn with
  | _ f ih =>
    intro s e h1 h2
    unfold arcV
    obtain ⟨f', rfl⟩ : ∃ f', f = f' + 1 := ⟨f - 1, by omega⟩
    obtain ⟨n, hn⟩ : ∃ n, (e - s).toNat = n + 1 := ⟨(e - s).toNat - 1, by omega⟩
    rw [hn]
    show (if e - s = 1 then [[]] else arcRow (arcs f') s e) = (if e - s = 1 then [[]] else arcRow (arcs n) s e)
    by_cases h : e - s = 1
    · rw [if_pos h, if_pos h]
    · rw [if_neg h, if_neg h]
      refine arcRow_congr fun m hm1 hm2 => ?_
      rw [ih f' (by omega) s m hm1 (by omega), ih f' (by omega) m e hm2 (by omega), ih n (by omega) s m hm1 (by omega), ih n (by omega) m e hm2 (by omega)]
      exact ⟨rfl, rfl⟩
theorem arcV_one {s e : Int} (h : e - s = 1) : arcV s e = [[]] := by
  unfold arcV
  rw [h]
  show (if e - s = 1 then [[]] else _) = _
  rw [if_pos h]
theorem arcV_row {s e : Int} (h : 1 < e - s) : arcV s e = arcRow arcV s e := by
  unfold arcV
  obtain ⟨n, hn⟩ : ∃ n, (e - s).toNat = n + 1 := ⟨(e - s).toNat - 1, by omega⟩
  rw [hn]
  show (if e - s = 1 then [[]] else arcRow (arcs n) s e) = _
  rw [if_neg (by omega)]
  refine arcRow_congr fun m hm1 hm2 => ?_
  rw [arcs_fuel n s m hm1 (by omega), arcs_fuel n m e hm2 (by omega)]
  exact ⟨rfl, rfl⟩
theorem arcV_len : ∀ s : Fin 9, ∀ w : Fin 9, s.val + 1 + w.val ≤ 9 → (arcV ((s.val : Int) + 1) ((s.val : Int) + 1 + (w.val : Int))).length ≤ 2000 ∧ (arcV ((s.val : Int) + 1) ((s.val : Int) + 1 + (w.val : Int))).all (fun r => decide (r.length ≤ 100)) = true := by decide +kernel
theorem arcV_small {s e : Int} (h1 : 1 ≤ s) (h2 : s < e) (h3 : e ≤ 9) : (arcV s e).length ≤ 2000 ∧ ∀ r ∈ arcV s e, r.length ≤ 100 := by
  have h := arcV_len ⟨(s - 1).toNat, by omega⟩ ⟨(e - s).toNat, by omega⟩ (by show (s - 1).toNat + 1 + (e - s).toNat ≤ 9; omega)
  have e1 : (((s - 1).toNat : Nat) : Int) + 1 = s := by omega
  have e2 : s + (((e - s).toNat : Nat) : Int) = e := by omega
  simp only [e1, e2] at h
  exact ⟨h.1, fun r hr => of_decide_eq_true (List.all_eq_true.mp h.2 r hr)⟩
def rowAt (s e m : Int) (a b : List (Int × Int)) : List (Int × Int) := a ++ b ++ [(s, m), (m, e)]
def rowsM (s e m : Int) : Rows := (arcV s m).flatMap fun a => (arcV m e).map (rowAt s e m a)
theorem arcV_rows {s e : Int} (h : 1 < e - s) : arcV s e = (rng (s + 1) e).flatMap (rowsM s e) := arcV_row h
theorem take_map {α β : Type} {l : List α} {f : α → β} {k : Nat} {x : α} (h : l[k]? = some x) : (l.take (k + 1)).map f = (l.take k).map f ++ [f x] := by
  rw [List.take_add_one, h, List.map_append]; rfl
theorem pre_len {α : Type} {a b : List α} {n : Nat} (h : a <+: b) (hb : b.length ≤ n) : a.length ≤ n := Nat.le_trans h.length_le hb
theorem take_flat {α β : Type} {l : List α} {f : α → List β} {k : Nat} {x : α} (h : l[k]? = some x) : (l.take (k + 1)).flatMap f = (l.take k).flatMap f ++ f x := by
  rw [List.take_add_one, h, List.flatMap_append]
  congr 1
  show f x ++ [] = f x
  exact List.append_nil _
theorem take_pre {α β : Type} (l : List α) (f : α → List β) (k : Nat) : (l.take k).flatMap f <+: l.flatMap f := by
  conv => rhs; rw [← List.take_append_drop k l, List.flatMap_append]
  exact List.prefix_append _ _
def arcM (F W S : Int) (p : Int × Int) : Option Rows := if 1 ≤ p.1 ∧ p.2 ≤ F ∧ p.1 < p.2 ∧ (p.2 - p.1 < W ∨ (p.2 - p.1 = W ∧ p.1 < S)) then some (arcV p.1 p.2) else none
theorem arcM_0 (F : Int) (p : Int × Int) : arcM F 1 1 p = none := by
  unfold arcM
  rw [if_neg (by omega)]
theorem arcM_in {F W S : Int} {p : Int × Int} (h : 1 ≤ p.1 ∧ p.2 ≤ F ∧ p.1 < p.2 ∧ (p.2 - p.1 < W ∨ (p.2 - p.1 = W ∧ p.1 < S))) : arcM F W S p = some (arcV p.1 p.2) := by
  unfold arcM
  rw [if_pos h]
theorem arcM_put {F W S : Int} {x : Rows} (h1 : 1 ≤ S) (h2 : S + W ≤ F) (h3 : 1 ≤ W) (hx : x = arcV S (S + W)) (p : Int × Int) : (if p = (S, S + W) then some x else arcM F W S p) = arcM F W (S + 1) p := by
  unfold arcM
  by_cases e : p = (S, S + W)
  · subst e
    rw [if_pos rfl, if_pos ⟨h1, h2, by show S < S + W; omega, .inr ⟨by show S + W - S = W; omega, by show S < S + 1; omega⟩⟩, hx]
  · rw [if_neg e]
    have e' : ¬ (p.1 = S ∧ p.2 = S + W) := fun z => e (by cases p; exact congr (congrArg Prod.mk z.1) z.2)
    by_cases c : 1 ≤ p.1 ∧ p.2 ≤ F ∧ p.1 < p.2 ∧ (p.2 - p.1 < W ∨ (p.2 - p.1 = W ∧ p.1 < S))
    · rw [if_pos c, if_pos (by omega)]
    · rw [if_neg c, if_neg (by omega)]
theorem arcM_next {F W : Int} (hW : 1 ≤ W) (p : Int × Int) : arcM F W (F + 1 - W) p = arcM F (W + 1) 1 p := by
  unfold arcM
  by_cases c : 1 ≤ p.1 ∧ p.2 ≤ F ∧ p.1 < p.2 ∧ (p.2 - p.1 < W ∨ (p.2 - p.1 = W ∧ p.1 < F + 1 - W))
  · rw [if_pos c, if_pos (by omega)]
  · rw [if_neg c, if_neg (by omega)]
def planOf (F : Int) (row : List (Int × Int)) : Plan := (F, Tup.mk (sortP ((row.filter fun lh => decide (1 < lh.2 - lh.1)).map fun lh => lawPair lh.1 (lh.2 % F))))
def everyPlan (F : Int) : List Plan := (arcV 1 F).map (planOf F)
section
variable {P : Program} {w : World} {K : Fg} {mg : Str → Option Value} {base : Heap}
theorem d_pair (T : Tx K mg "_law_pair" ["_law_one", "_law_other"] s__law_pair) (bl : Bl mg) : Df P w K mg base 1 "_law_pair" ["_law_one", "_law_other"] (sp2 (fun (_ _ : Int) => True) lawPair) := by
  refine T.ok sc__law_pair (fun vs H Q E h => ?_) (fun cdv f A outer s H vs Q E hr h => ?_)
  · obtain ⟨v, x, v2, x2, G, rfl, _⟩ := h
    rfl
  obtain ⟨v, x, v2, x2, G, rfl, i, r1, r2, _, q⟩ := h
  refine ⟨_, (pss_one (ps_ret (pe_tup (pa_cons (pe_callB (call_min2 rfl) (by rfl) (bl "min" (by decide)) (by decide +kernel) (pa_cons (pv 0) (pa_cons (pv 1) pa_nil))) (pa_cons (pe_callB (call_max2 rfl) (by rfl) (bl "max" (by decide)) (by decide +kernel) (pa_cons (pv 0) (pa_cons (pv 1) pa_nil))) pa_nil))))), ?_⟩
  exact st_retC (y := lawPair x x2) (G := G) (by walk_at "pf_ev") i (by rfl) (fun v G' H' g r => q v G' H' g r)
theorem d_every (T : Tx K mg "_law_every_plan" ["_law_faces"] s__law_every_plan) (TP : Tx K mg "_law_pair" ["_law_one", "_law_other"] s__law_pair) (bl : Bl mg) : Df P w K mg base 2 "_law_every_plan" ["_law_faces"] (sp1 (fun (F : Int) => 3 ≤ F ∧ F ≤ 9) everyPlan) := by
  have D__law_pair := d_pair (P := P) (w := w) (base := base) TP bl
  refine T.ok sc__law_every_plan (fun vs H Q E h => ?_) (fun cdv f A outer s H vs Q E hr h => ?_)
  · obtain ⟨v, x, G, rfl, _⟩ := h
    rfl
  obtain ⟨v, F, G, rfl, i, r1, ⟨p1, p2⟩, q⟩ := h
  cases r1
  refine ⟨_, (pss_cons (ps_set (i := 1) sc__law_every_plan.nd rfl (by first | exact .inl rfl | exact .inr rfl) pe_dnewT)
    (pss_cons (ps_for PassesOwn.never rfl (pi_range2 (by rfl) (bl "range" (by decide)) (pa_cons pe_int (pa_cons (pv 0) pa_nil))) (pg_name (i := 2) sc__law_every_plan.nd rfl (by first | exact .inl rfl | exact .inr rfl))
      (pss_one (ps_for PassesOwn.never rfl (pi_range2 (by rfl) (bl "range" (by decide)) (pa_cons pe_int (pa_cons (pe_op op_sub (pe_op op_add (pv 0) pe_int) (pv 2)) pa_nil))) (pg_name (i := 3) sc__law_every_plan.nd rfl (by first | exact .inl rfl | exact .inr rfl))
        (pss_one (ps_if (pt_cmpR op_eq (pv 2) pe_int (nomark _))
          (pss_one (ps_dput (hu_of hr) (pv 1) (pe_tup (pa_cons (pv 3) (pa_cons (pe_op op_add (pv 3) pe_int) pa_nil))) (pe_lst (pa_cons (pe_lst pa_nil) pa_nil)) rfl))
          (pss_cons (ps_set (i := 4) sc__law_every_plan.nd rfl (by first | exact .inl rfl | exact .inr rfl) (pe_lst pa_nil))
          (pss_cons (ps_for PassesOwn.never rfl (pi_range2 (by rfl) (bl "range" (by decide)) (pa_cons (pe_op op_add (pv 3) pe_int) (pa_cons (pe_op op_add (pv 3) (pv 2)) pa_nil))) (pg_name (i := 5) sc__law_every_plan.nd rfl (by first | exact .inl rfl | exact .inr rfl))
            (pss_one (ps_for PassesOwn.never rfl (pi_listK (K := K) rfl (pe_dget (hu_of hr) (pv 1) (pe_tup (pa_cons (pv 3) (pa_cons (pv 5) pa_nil))) (fun _ _ => rfl))) (pg_name (i := 6) sc__law_every_plan.nd rfl (by first | exact .inl rfl | exact .inr rfl))
              (pss_one (ps_for PassesOwn.never rfl (pi_listK (K := K) rfl (pe_dget (hu_of hr) (pv 1) (pe_tup (pa_cons (pv 5) (pa_cons (pe_op op_add (pv 3) (pv 2)) pa_nil))) (fun _ _ => rfl))) (pg_name (i := 7) sc__law_every_plan.nd rfl (by first | exact .inl rfl | exact .inr rfl))
                (pss_one (ps_expr (pe_bm PySem.F.plainAttrs_list PySem.F.slot_list_append PySem.F.type_list_append mt_append (pv 4) (pa_cons (pe_op op_cat (pe_op op_cat (pv 6) (pv 7)) (pe_lst (pa_cons (pe_tup (pa_cons (pv 3) (pa_cons (pv 5) pa_nil))) (pa_cons (pe_tup (pa_cons (pv 5) (pa_cons (pe_op op_add (pv 3) (pv 2)) pa_nil))) pa_nil)))) pa_nil)))))))))
          (pss_one (ps_dput (hu_of hr) (pv 1) (pe_tup (pa_cons (pv 3) (pa_cons (pe_op op_add (pv 3) (pv 2)) pa_nil))) (pv 4) rfl)))))))))
    (pss_cons (ps_set (i := 8) sc__law_every_plan.nd rfl (by first | exact .inl rfl | exact .inr rfl) (pe_lst pa_nil))
    (pss_cons (ps_for PassesOwn.never rfl (pi_listK (K := K) rfl (pe_dget (hu_of hr) (pv 1) (pe_tup (pa_cons pe_int (pa_cons (pv 0) pa_nil))) (fun _ _ => rfl))) (pg_name (i := 9) sc__law_every_plan.nd rfl (by first | exact .inl rfl | exact .inr rfl))
      (pss_cons (ps_setLc (i := 10) (own := [("_law_low", 11), ("_law_high", 12)]) rfl sc__law_every_plan.nd rfl rfl (sw_true rfl rfl rfl (by decide +kernel)) (pi_listK (K := K) rfl (pv 9)) (blkOk_by (own := [("_law_low", 11), ("_law_high", 12)]) (N := N__law_every_plan) (sc := defScope s__law_every_plan) (by decide +kernel)) (fun _ _ _ _ _ => (pg_tupK (K := K) (n := 2) rfl (pg_tup rfl (pgs_cons (pg_name (i := 11) sc__law_every_plan.nd rfl (by first | exact .inl rfl | exact .inr rfl)) (pgs_cons (pg_name (i := 12) sc__law_every_plan.nd rfl (by first | exact .inl rfl | exact .inr rfl)) pgs_nil))))) (fun _ _ _ _ _ => pts_one (pt_cmpR op_gt (pe_op op_sub (pv 12) (pv 11)) pe_int (nomark _))) (fun _ _ _ _ _ => (pe_df D__law_pair hr (by first | decide | omega) (by rfl) (pa_cons (pv 11) (pa_cons (pe_op op_mod (pv 12) (pv 0)) pa_nil)))))
      (pss_one (ps_expr (pe_bm PySem.F.plainAttrs_list PySem.F.slot_list_append PySem.F.type_list_append mt_append (pv 8) (pa_cons (pe_tup (pa_cons (pv 0) (pa_cons (pe_callTy (call_tupleK (K := K) rfl) (by rfl) (bl "tuple" (by decide)) (by decide +kernel) (pa_cons (pe_callB (cr_sortedPOK (K := K) rfl) (by rfl) (bl "sorted" (by decide)) (by decide +kernel) (pa_cons (pv 10) pa_nil)) pa_nil)) pa_nil))) pa_nil))))))
    (pss_one (ps_ret (pv 8))))))), ?_⟩
  refine sq_newdict (α := Rows) (G := G) i (fun d o nd md sd => ?_)
  have gd : Gr M0 G H G (upd H d o) := (Gr.refl i).mut (.inl nd) (up_none i nd)
  refine sq_for (G := G) (xs := rng 1 F) (fun k σ G' H' => ∃ a2 a3 a4 a5 a6 a7, σ = [some (.int F), some (.ref d), a2, a3, a4, a5, a6, a7, none, none, none, none, none] ∧ Gr M0 G H G' H' ∧ Md G' H' d (k * 50) (arcM F (1 + k) 1)) (by walk_at "pf_ev") sd ?_ ?_ ?_
  · intro G1 H1 g1
    exact ⟨_, _, _, _, _, _, rfl, gd.trans g1, (md.step0 g1).cast fun p => (arcM_0 F p).symm⟩
  · intro k W v σ' G1 H1 G2 H2 hk e1 e2 hP g2 r2
    obtain ⟨a2, a3, a4, a5, a6, a7, rfl, gr, md1⟩ := hP
    obtain ⟨hW, hk2⟩ := rng_get hk
    cases r2
    refine gn ?_
    have eW : (1 : Int) + ((k + 1 : Nat) : Int) = W + 1 := by omega
    rw [← hW] at md1
    refine st_for (G := G2) (xs := rng 1 (F + 1 - W)) (fun j σ G' H' => ∃ a3 a4 a5 a6 a7, σ = [some (.int F), some (.ref d), some (.int W), a3, a4, a5, a6, a7, none, none, none, none, none] ∧ Gr M0 G H G' H' ∧ Md G' H' d (k * 50 + j) (arcM F W (1 + j))) (by walk_at "pf_ev") g2.i ?_ ?_ ?_
    · intro G3 H3 g3
      exact ⟨_, _, _, _, _, rfl, (gr.trans g2).trans g3, (md1.step0 g2).step0 g3⟩
    · intro j S v σ' G3 H3 G4 H4 hj e3 e4 hP g4 r4
      obtain ⟨a3, a4, a5, a6, a7, rfl, gr, md3⟩ := hP
      obtain ⟨hS, hj2⟩ := rng_get hj
      cases r4
      refine gn ?_
      have eS : (1 : Int) + ((j + 1 : Nat) : Int) = S + 1 := by omega
      rw [← hS] at md3
      have hb1 : 1 ≤ S := by omega
      have hb2 : S + W ≤ F := by omega
      have hb3 : 1 ≤ W := by omega
      have gr4 := gr.trans g4
      have md4 := md3.step0 g4
      refine st_if (G := G4) (by walk_at "pf_ev") g4.i (fun hb G5 H5 g5 => ?_) (fun hb G5 H5 g5 => ?_)
      · have hb : W = 1 := of_decide_eq_true hb
        refine sq_dput (i := 1) (p := (S, S + 1)) (x := ([[]] : Rows)) rfl (md4.step0 g5) g5.i (by walk_at "pf_ev") (by walk_at "pf_ev") (by omega) (fun G6 H6 o g6 md6 s6 => ?_)
        refine ⟨G6, (g4.g.trans g5.g).trans g6.g, s6, _, _, _, _, _, rfl, ((gr4.trans g5).trans g6).mut (.inl nd) md6.1, md6.cast fun p => ?_⟩
        have z := arcM_put (x := [[]]) hb1 hb2 hb3 (arcV_one (by omega)).symm p
        rw [eS, ← z, hb]
      · have hb : ¬ W = 1 := of_decide_eq_false hb
        have hW2 : 1 < S + W - S := by omega
        generalize he : S + W = e
        rw [he] at hb2 hW2
        have hsm := arcV_small hb1 (show S < e by omega) (by omega)
        refine sq_newlist (G := G5) (xs := ([] : Rows)) evs_nil g5.i (by decide) (fun p G6 H6 o g6 np ml s6 => ?_)
        have gr6 := (gr4.trans g5).trans g6
        have md6 := (md4.step0 g5).step0 g6
        have ndp : d ≠ p := by
          obtain ⟨_, kvs, e1, _⟩ := md6
          exact ne_of_none e1 np
        have nHp := up_none gr6.same np
        have gm6 := gr6.mut (o := o) (.inl nHp) ml.1
        have mm6 := md6.other (o := o) ndp
        refine sq_for (G := G6) (xs := rng (S + 1) e) (fun k3 σ G' H' => ∃ a5 a6 a7, σ = [some (.int F), some (.ref d), some (.int W), some (.int S), some (.ref p), a5, a6, a7, none, none, none, none, none] ∧ Gr M0 G H G' H' ∧ Md G' H' d (k * 50 + j) (arcM F W S) ∧ Ml G' H' p (((rng (S + 1) e).take k3).flatMap (rowsM S e))) (he ▸ (by walk_at "pf_ev")) s6 ?_ ?_ ?_
        · intro G7 H7 g7
          exact ⟨_, _, _, rfl, gm6.trans g7, mm6.step0 g7, ml.step0 g7⟩
        · intro k3 m v σ' G7 H7 G8 H8 hk3 e5 e6 hP g8 r8
          obtain ⟨a5, a6, a7, rfl, gr7, md7, ml7⟩ := hP
          obtain ⟨hm, hm2⟩ := rng_get hk3
          cases r8
          refine gn ?_
          have hm3 : S < m ∧ m < e := by omega
          have gr8 := gr7.trans g8
          have md8 := md7.step0 g8
          have ml8 := ml7.step0 g8
          have pre3 : ((rng (S + 1) e).take k3).flatMap (rowsM S e) ++ rowsM S e m <+: arcV S e := by
            rw [← take_flat hk3, arcV_rows hW2]
            exact take_pre _ _ _
          have hA := arcV_small hb1 hm3.1 (by omega)
          have hB := arcV_small (show 1 ≤ m by omega) hm3.2 (by omega)
          refine st_forH (G := G8) (xs := arcV S m) (fun k4 σ G' H' => ∃ a6 a7, σ = [some (.int F), some (.ref d), some (.int W), some (.int S), some (.ref p), some (.int m), a6, a7, none, none, none, none, none] ∧ Gr M0 G H G' H' ∧ Md G' H' d (k * 50 + j) (arcM F W S) ∧ Ml G' H' p (((rng (S + 1) e).take k3).flatMap (rowsM S e) ++ ((arcV S m).take k4).flatMap fun a => (arcV m e).map (rowAt S e m a)))
            (eih_list (evh_dget (p := (S, m)) rfl md8 g8.i (by walk_at "pf_ev") (arcM_in (by show 1 ≤ S ∧ m ≤ F ∧ S < m ∧ (m - S < W ∨ (m - S = W ∧ S < S)); omega)))) ?_ ?_ ?_
          · intro G9 H9 g9
            refine ⟨_, _, rfl, gr8.trans g9, md8.step0 g9, ?_⟩
            rw [List.take_zero, List.flatMap_nil, List.append_nil]
            exact ml8.step0 g9
          · intro k4 ra v6 σ' G9 H9 G10 H10 hk4 e7 e8 hP g10 r10
            obtain ⟨a6, a7, rfl, gr9, md9, ml9⟩ := hP
            refine gn ?_
            have gr10 := gr9.trans g10
            have md10 := md9.step0 g10
            have ml10 := ml9.step0 g10
            have pre4 : (((rng (S + 1) e).take k3).flatMap (rowsM S e) ++ ((arcV S m).take k4).flatMap fun a => (arcV m e).map (rowAt S e m a)) ++ (arcV m e).map (rowAt S e m ra) <+: arcV S e := by
              refine List.IsPrefix.trans ?_ pre3
              rw [List.append_assoc, ← take_flat (f := fun a => (arcV m e).map (rowAt S e m a)) hk4]
              exact (List.prefix_append_right_inj _).mpr (take_pre _ _ _)
            refine st_forH (G := G10) (xs := arcV m e) (fun k5 σ G' H' => ∃ a7, σ = [some (.int F), some (.ref d), some (.int W), some (.int S), some (.ref p), some (.int m), some v6, a7, none, none, none, none, none] ∧ rep G' v6 ra ∧ Gr M0 G H G' H' ∧ Md G' H' d (k * 50 + j) (arcM F W S) ∧ Ml G' H' p ((((rng (S + 1) e).take k3).flatMap (rowsM S e) ++ ((arcV S m).take k4).flatMap fun a => (arcV m e).map (rowAt S e m a)) ++ ((arcV m e).take k5).map (rowAt S e m ra)))
              (eih_list (evh_dget (p := (m, e)) rfl md10 g10.i (he ▸ (by walk_at "pf_ev")) (arcM_in (by show 1 ≤ m ∧ e ≤ F ∧ m < e ∧ (e - m < W ∨ (e - m = W ∧ m < S)); omega)))) ?_ ?_ ?_
            · intro G11 H11 g11
              refine ⟨_, rfl, Rep.mono g11.g r10, gr10.trans g11, md10.step0 g11, ?_⟩
              rw [List.take_zero, List.map_nil, List.append_nil]
              exact ml10.step0 g11
            · intro k5 rb v7 σ' G11 H11 G12 H12 hk5 e9 e10 hP g12 r12
              obtain ⟨a7, rfl, r6, gr11, md11, ml11⟩ := hP
              refine gn ?_
              have hla := hA.2 ra (List.mem_of_getElem? hk4)
              have hlb := hB.2 rb (List.mem_of_getElem? hk5)
              refine st_append (G := G12) (i := 4) (p := p) (x := rowAt S e m ra rb) rfl (ml11.step0 g12) ?_ g12.i ?_ ?_
              · refine ev_catL (xs := ra ++ rb) (ys := [(S, m), (m, e)]) (ev_catL (ev_var rfl (Rep.mono g12.g r6)) (ev_var rfl r12) (by omega)) (he ▸ (by walk_at "pf_ev")) (by rw [List.length_append]; show ra.length + rb.length + 2 ≤ 100000; omega)
              · have z := pre_len (List.IsPrefix.trans ((List.prefix_append_right_inj _).mpr (show ((arcV m e).take k5).map (rowAt S e m ra) <+: (arcV m e).map (rowAt S e m ra) from (List.take_prefix k5 (arcV m e)).map _)) pre4) hsm.1
                omega
              · intro G13 H13 o13 g13 ml13 s13
                have hdp : d ≠ p := ndp
                refine ⟨G13, g12.g.trans g13.g, s13, _, rfl, Rep.mono (g12.g.trans g13.g) r6, ((gr11.trans g12).trans g13).mut (.inl nHp) ml13.1, ((md11.step0 g12).step0 g13).other hdp, ?_⟩
                rw [take_map hk5, ← List.append_assoc]
                exact ml13
            · intro σ' G11 H11 e9 e10 hP
              obtain ⟨a7, rfl, r6, gr11, md11, ml11⟩ := hP
              refine ⟨G11, g10.g.trans e9, e10, _, _, rfl, gr11, md11, ?_⟩
              rw [take_flat (f := fun a => (arcV m e).map (rowAt S e m a)) hk4, ← List.append_assoc]
              rw [List.take_length] at ml11
              exact ml11
          · intro σ' G9 H9 e7 e8 hP
            obtain ⟨a6, a7, rfl, gr9, md9, ml9⟩ := hP
            refine ⟨G9, g8.g.trans e7, e8, _, _, _, rfl, gr9, md9, ?_⟩
            rw [take_flat hk3]
            rw [List.take_length] at ml9
            exact ml9
        · intro σ' G7 H7 e5 e6 hP
          obtain ⟨a5, a6, a7, rfl, gr7, md7, ml7⟩ := hP
          rw [List.take_length, ← arcV_rows hW2] at ml7
          obtain ⟨n7, vs7, ep7, pa7⟩ := ml7
          have sG : Same G7 (upd G7 p (.lst vs7)) := same_new n7
          have gr7' := gr7.still nHp n7 ep7
          refine sq_dput (G := upd G7 p (.lst vs7)) (i := 1) (p := (S, e)) (x := arcV S e) rfl (md7.up sG (by rw [upd_ne ndp]; exact md7.1)) gr7'.i (ev_var rfl ⟨p, vs7, rfl, upd_same, paired_mono sG pa7⟩) (he ▸ (by walk_at "pf_ev")) (by omega) (fun G8 H8 o8 g8 md8 s8 => ?_)
          refine ⟨G8, (((g4.g.trans g5.g).trans g6.g).trans e5).trans (sG.trans g8.g), s8, _, _, _, _, _, rfl, (gr7'.trans g8).mut (.inl nd) md8.1, md8.cast fun q' => ?_⟩
          have z := arcM_put (F := F) (W := W) (x := arcV S e) hb1 (by omega) hb3 (by rw [he]) q'
          rw [eS, ← z, he]
    · intro σ' G3 H3 e3 e4 hP
      obtain ⟨a3, a4, a5, a6, a7, rfl, gr, md3⟩ := hP
      rw [rng_len] at md3
      have hj : (k * 50 + (F + 1 - W - 1).toNat) ≤ (k + 1) * 50 := by omega
      obtain ⟨n3, kvs, ek, lk, mk⟩ := md3
      refine ⟨G3, g2.g.trans e3, e4, _, _, _, _, _, _, rfl, gr, n3, kvs, ek, Nat.le_trans lk hj, fun p => ?_⟩
      have z := arcM_next (F := F) (W := W) (by omega) p
      rw [eW, ← z]
      have ee : (1 : Int) + ((F + 1 - W - 1).toNat : Int) = F + 1 - W := by omega
      have mp := mk p
      rw [ee] at mp
      exact mp
  · intro σ' G1 H1 e1 e2 hP
    obtain ⟨a2, a3, a4, a5, a6, a7, rfl, gr, md1⟩ := hP
    rw [rng_len] at md1
    have eF : (1 : Int) + ((F - 1).toNat : Int) = F := by omega
    rw [eF] at md1
    refine sq_newlist (G := G1) (xs := ([] : List Plan)) evs_nil e2 (by decide) (fun p G2 H2 o g2 np ml s2 => ?_)
    have gr2 := gr.trans g2
    have md2 := md1.step0 g2
    have ndp : d ≠ p := by
      obtain ⟨_, kvs, e1, _⟩ := md2
      exact ne_of_none e1 np
    have nHp := up_none gr2.same np
    have gm2 := gr2.mut (o := o) (.inl nHp) ml.1
    have mm2 := md2.other (o := o) ndp
    have hA := arcV_small (s := 1) (e := F) (by decide) (by omega) p2
    refine sq_forH (G := G2) (xs := arcV 1 F) (fun k σ G' H' => ∃ a9 a10, σ = [some (.int F), some (.ref d), a2, a3, a4, a5, a6, a7, some (.ref p), a9, a10, none, none] ∧ Gr M0 G H G' H' ∧ Ml G' H' p (((arcV 1 F).take k).map (planOf F)))
      (eih_list (evh_dget (p := (1, F)) rfl mm2 s2 (by walk_at "pf_ev") (arcM_in (by show 1 ≤ (1 : Int) ∧ F ≤ F ∧ 1 < F ∧ (F - 1 < F ∨ (F - 1 = F ∧ 1 < 1)); omega)))) ?_ ?_ ?_
    · intro G3 H3 g3
      exact ⟨_, _, rfl, gm2.trans g3, ml.step0 g3⟩
    · intro k row v9 σ' G3 H3 G4 H4 hk e3 e4 hP g4 r4
      obtain ⟨a9, a10, rfl, gr3, ml3⟩ := hP
      refine gn ?_
      have hlr := hA.2 row (List.mem_of_getElem? hk)
      refine sq_set (G := G4) (ev_lcf (p := fun lh : Int × Int => decide (1 < lh.2 - lh.1)) (f := fun lh : Int × Int => lawPair lh.1 (lh.2 % F)) (ei_list (ev_var rfl r4)) (by omega) ?_) g4.i (fun v10 G5 H5 g5 r5 => ?_)
      · intro lh hlh v G5 s5 r5
        refine gb_pair' r5 (fun u w ru rw => ⟨rfl, et_test (ev_gt (ev_sub (ev_var rfl rw) (ev_var rfl ru)) ev_int), fun _ => ev_call2 (ev_var rfl ru) (ev_mod (ev_var rfl rw) (ev_var rfl rfl) (by omega)) trivial⟩)
      · refine st_append (G := G5) (i := 8) (p := p) (x := planOf F row) rfl ((ml3.step0 g4).step0 g5) ?_ g5.i ?_ ?_
        · exact ev_tup2 (x := F) (ev_var rfl rfl) (ev_tupleL (ev_sortedP (ev_var rfl r5)))
        · rw [List.length_map, List.length_take]
          have := hA.1
          omega
        · intro G6 H6 o6 g6 ml6 s6
          refine ⟨G6, (g4.g.trans g5.g).trans g6.g, s6, _, _, rfl, (((gr3.trans g4).trans g5).trans g6).mut (.inl nHp) ml6.1, ?_⟩
          rw [take_map hk]
          exact ml6
    · intro σ' G3 H3 e3 e4 hP
      obtain ⟨a9, a10, rfl, gr3, ml3⟩ := hP
      rw [List.take_length] at ml3
      obtain ⟨G4, g4, r4, s4⟩ := ml3.frz gr3 nHp
      exact st_ret (G := G4) (ev_var rfl r4) g4.i (fun v' G5 H5 g5 r5 => q v' G5 H5 (g4.trans g5) r5)
end

abbrev s_ways_beside : Stmt := topS 9
abbrev N_ways_beside : List Str := ["ways", "first", "chosen", "last"]
theorem sc_ways_beside : FnScope N_ways_beside ["ways", "first", "chosen", "last"] (defScope s_ways_beside) := ⟨rfl, rfl, rfl, by decide +kernel, rfl, by decide +kernel, by decide +kernel⟩
abbrev s_check_faces : Stmt := topS 7
abbrev N_check_faces : List Str := ["faces"]
theorem sc_check_faces : FnScope N_check_faces ["faces"] (defScope s_check_faces) := ⟨rfl, rfl, rfl, by decide +kernel, rfl, by decide +kernel, by decide +kernel⟩
abbrev s_ways_to_cut : Stmt := topS 8
abbrev N_ways_to_cut : List Str := ["most", "ways", "corners", "chosen"]
theorem sc_ways_to_cut : FnScope N_ways_to_cut ["most"] (defScope s_ways_to_cut) := ⟨rfl, rfl, rfl, by decide +kernel, rfl, by decide +kernel, by decide +kernel⟩
abbrev s_how_many : Stmt := topS 6
abbrev N_how_many : List Str := ["faces"]
theorem sc_how_many : FnScope N_how_many ["faces"] (defScope s_how_many) := ⟨rfl, rfl, rfl, by decide +kernel, rfl, by decide +kernel, by decide +kernel⟩
abbrev s__law_ways : Stmt := topS 16
abbrev N__law_ways : List Str := ["_law_most", "_law_row", "_law_many"]
theorem sc__law_ways : FnScope N__law_ways ["_law_most"] (defScope s__law_ways) := ⟨rfl, rfl, rfl, by decide +kernel, rfl, by decide +kernel, by decide +kernel⟩
abbrev s_law : Stmt := topS 18
abbrev N_law : List Str := ["_law_script", "_law_bag_here", "_law_row", "_law_turn", "_law_faces", "_law_few"]
theorem sc_law : FnScope N_law ["_law_script"] (defScope s_law) := ⟨rfl, rfl, rfl, by decide +kernel, rfl, by decide +kernel, by decide +kernel⟩

section
variable {P : Program} {w : World} {K : Fg} {mg : Str → Option Value} {base : Heap}
/-! ### the program -/
def waysBeside (ways : List Int) (first chosen last : Int) : Int := ix ways (chosen - first + 1) * ix ways (last - chosen + 1)
theorem d_ways_beside (T : Tx K mg "ways_beside" ["ways", "first", "chosen", "last"] s_ways_beside) : Df P w K mg base 1 "ways_beside" ["ways", "first", "chosen", "last"]
    (sp4 (fun (ways : List Int) (first chosen last : Int) => 0 ≤ chosen - first + 1 ∧ chosen - first + 1 < ways.length ∧ 0 ≤ last - chosen + 1 ∧ last - chosen + 1 < ways.length ∧ CMulW (ix ways (chosen - first + 1)) (ix ways (last - chosen + 1))) waysBeside) := by
  refine T.ok sc_ways_beside (fun vs H Q E h => ?_) (fun cdv f A outer s H vs Q E hr h => ?_)
  · obtain ⟨v, x, v2, x2, v3, x3, v4, x4, G, rfl, _⟩ := h
    rfl
  obtain ⟨v, x, v2, x2, v3, x3, v4, x4, G, rfl, i, r1, r2, r3, r4, ⟨p1, p2, p3, p4, p5⟩, q⟩ := h
  refine ⟨_, (pss_one (ps_ret (pe_op op_mulW (pe_ix (ix_listK (K := K) rfl) (pv 0) (pe_op op_add (pe_op op_sub (pv 2) (pv 1)) pe_int) (fun _ _ => rfl)) (pe_ix (ix_listK (K := K) rfl) (pv 0) (pe_op op_add (pe_op op_sub (pv 3) (pv 2)) pe_int) (fun _ _ => rfl))))), ?_⟩
  refine st_ret (G := G) (ev_mulW ?_ ?_ p5) i (fun v G' H' g r => q v G' H' g r)
  · walk_at "pf_ev"
  · walk_at "pf_ev"
theorem or_ff {p q : Prop} [Decidable p] [Decidable q] (h : (decide p || decide q) = true) : p ∨ q := by simpa using h
theorem d_check_faces {t1 t2 : Tok} (T : Tx K mg "check_faces" ["faces"] s_check_faces) (m_LEAST_FACES : mg "LEAST_FACES" = some (.int 3 t1)) (m_MOST_FACES : mg "MOST_FACES" = some (.int 40 t2)) : Df P w K mg base 1 "check_faces" ["faces"]
    (sp1 (fun (faces : Int) => 3 ≤ faces ∧ faces ≤ 40) (fun _ => ())) := by
  refine T.ok sc_check_faces (fun vs H Q E h => ?_) (fun cdv f A outer s H vs Q E hr h => ?_)
  · obtain ⟨v, x, G, rfl, _⟩ := h
    rfl
  obtain ⟨v, x, G, rfl, i, r1, ⟨p1, p2⟩, q⟩ := h
  refine ⟨_, (pss_one (ps_if (PW.pt (pw_or (pt_cmpR op_lt (pv 0) (pe_glob (v := .int 3) (by rfl) m_LEAST_FACES ⟨_, rfl⟩) (nomark _)) (pw_or1 (pt_cmpR op_gt (pv 0) (pe_glob (v := .int 40) (by rfl) m_MOST_FACES ⟨_, rfl⟩) (nomark _)))))
      (pss_one ps_never)
      pss_nil)), ?_⟩
  refine st_if (G := G) (by walk_at "pf_ev") i (fun hb G' H' g => ?_) (fun hb G' H' g => q _ G' H' g rfl)
  have := or_ff hb
  omega
/-! ways_to_cut -/
def waysUp (ways : List Int) (corners : Int) : List Int := ways ++ [((rng 1 (corners - 1)).map fun c => waysBeside ways 0 c (corners - 1)).sum]
def waysN : Nat → List Int
  | 0 => [0, 0, 1]
  | k + 1 => waysUp (waysN k) (3 + k)
theorem waysN_len : ∀ k, (waysN k).length = 3 + k
  | 0 => rfl
  | k + 1 => by
    show (waysN k ++ [_]).length = 3 + (k + 1)
    rw [List.length_append, waysN_len k]
    rfl
theorem waysN_small : ∀ k : Fin 39, (waysN k).all (fun x => decide (0 ≤ x ∧ x < 2 ^ 80)) = true := by decide +kernel
theorem waysN_ix {k : Nat} (hk : k < 39) (i : Int) : 0 ≤ ix (waysN k) i ∧ ix (waysN k) i < 2 ^ 80 := by
  have h := waysN_small ⟨k, hk⟩
  rw [List.all_eq_true] at h
  unfold ix
  cases e : (waysN k)[i.toNat]? with
  | none => exact ⟨by decide, by decide⟩
  | some v => exact of_decide_eq_true (h v (List.mem_of_getElem? e))
theorem mulW80 {a b : Int} (ha : 0 ≤ a ∧ a < 2 ^ 80) (hb : 0 ≤ b ∧ b < 2 ^ 80) : CMulW a b := by
  have z : ∀ a : Int, 0 ≤ a ∧ a < 2 ^ 80 → a.natAbs.log2 < 81 := fun a ha => by
    by_cases h0 : a.natAbs = 0
    · rw [h0]; decide
    · have : a.natAbs < 2 ^ 80 := by omega
      exact Nat.lt_succ_of_lt ((Nat.log2_lt h0).mpr this)
  have h1 := z a ha
  have h2 := z b hb
  show a.natAbs.log2 + b.natAbs.log2 < 1000000
  omega
theorem d_ways_to_cut (T : Tx K mg "ways_to_cut" ["most"] s_ways_to_cut) (bl : Bl mg) (TB : Tx K mg "ways_beside" ["ways", "first", "chosen", "last"] s_ways_beside) : Df P w K mg base 2 "ways_to_cut" ["most"]
    (sp1 (fun (most : Int) => 3 ≤ most ∧ most ≤ 40) (fun most => waysN (most - 2).toNat)) := by
  have D_ways_beside := d_ways_beside (P := P) (w := w) (base := base) TB
  refine T.ok sc_ways_to_cut (fun vs H Q E h => ?_) (fun cdv f A outer s H vs Q E hr h => ?_)
  · obtain ⟨v, x, G, rfl, _⟩ := h
    rfl
  obtain ⟨v, x, G, rfl, i, r1, ⟨p1, p2⟩, q⟩ := h
  refine ⟨_, (pss_cons (ps_set (i := 1) sc_ways_to_cut.nd rfl (by first | exact .inl rfl | exact .inr rfl) (pe_lst (pa_cons pe_int (pa_cons pe_int (pa_cons pe_int pa_nil)))))
    (pss_cons (ps_for PassesOwn.never rfl (pi_range2 (by rfl) (bl "range" (by decide)) (pa_cons pe_int (pa_cons (pe_op op_add (pv 0) pe_int) pa_nil))) (pg_name (i := 2) sc_ways_to_cut.nd rfl (by first | exact .inl rfl | exact .inr rfl))
      (pss_one (ps_expr (pe_bm PySem.F.plainAttrs_list PySem.F.slot_list_append PySem.F.type_list_append mt_append (pv 1) (pa_cons (pe_callB (cr_sumK (K := K) rfl rfl) (by rfl) (bl "sum" (by decide)) (by decide +kernel) (pa_cons (pe_lc (own := [("chosen", 3)]) rfl sc_ways_to_cut.nd (pi_range2 (by rfl) (bl "range" (by decide)) (pa_cons pe_int (pa_cons (pe_op op_sub (pv 2) pe_int) pa_nil))) (blkOk_by (own := [("chosen", 3)]) (N := N_ways_to_cut) (sc := defScope s_ways_to_cut) (by decide +kernel)) (fun _ _ _ _ _ => (pg_name (i := 3) sc_ways_to_cut.nd rfl (by first | exact .inl rfl | exact .inr rfl))) (fun _ _ _ _ _ => pts_nil) (fun _ _ _ _ _ => (pe_df D_ways_beside hr (by first | decide | omega) (by rfl) (pa_cons (pv 1) (pa_cons pe_int (pa_cons (pv 3) (pa_cons (pe_op op_sub (pv 2) pe_int) pa_nil))))))) pa_nil)) pa_nil)))))
    (pss_one (ps_ret (pv 1))))), ?_⟩
  refine sq_newlist (G := G) (xs := [(0 : Int), 0, 1]) (by walk_at "pf_ev") i (by decide) (fun p G1 H1 o g1 np m1 s1 => ?_)
  have gm : Gr M0 G H G1 (upd H1 p o) := g1.mut (.inl (by
    cases e : H p with
    | none => rfl
    | some u => rw [g1.same _ _ e] at np; cases np)) m1.1
  refine sq_for (G := G1) (fun k σ G' H' => ∃ c, σ = [some v, some (.ref p), c, none] ∧ Gr M0 G H G' H' ∧ Ml G' H' p (waysN k)) (by walk_at "pf_ev") s1 ?_ ?_ ?_
  · intro G2 H2 g2
    exact ⟨none, rfl, gm.trans g2, m1.step0 g2⟩
  · intro k c v' σ' G2 H2 G3 H3 hk e1 e2 hP g3 r3
    obtain ⟨c0, rfl, gr, ml⟩ := hP
    obtain ⟨rfl, hk2⟩ := rng_get hk
    cases r3
    refine gn ?_
    refine st_appendF (G := G3) (i := 1) (p := p) (xs := waysN k) (x := ((rng 1 (3 + (k : Int) - 1)).map fun c => waysBeside (waysN k) 0 c (3 + (k : Int) - 1)).sum) rfl (ml.step0 g3) (fun o s2 r2 => ?_) g3.i ?_ ?_
    · refine ev_sum (ev_lc (by walk_at "pf_ev") ?_ ?_)
      · rw [rng_len]; omega
      · intro c hc v4 G4 s4 r4
        rw [rng_mem] at hc
        refine gb_name ⟨rfl, ?_⟩
        refine ev_call4 ?_ ?_ ?_ ?_ ?_
        all_goals try walk_at "pf_ev"
        · rw [waysN_len]
          refine ⟨by omega, by omega, by omega, by omega, mulW80 (waysN_ix (by omega) _) (waysN_ix (by omega) _)⟩
    · rw [waysN_len]; omega
    · intro H' o g4 m4 s4
      exact ⟨G3, g3.g, s4, _, rfl, ((gr.trans g3).trans g4).mut (.inl (up_none g1.same np)) m4.1, m4⟩
  · intro σ' G2 H2 e1 e2 hP
    obtain ⟨c, rfl, gr, ml⟩ := hP
    rw [rng_len] at ml
    obtain ⟨G4, g4, r4, s4⟩ := ml.frz gr (up_none g1.same np)
    have ex : (x + 1 - 3).toNat = (x - 2).toNat := by omega
    rw [ex] at r4
    refine st_ret (G := G4) (by walk_at "pf_ev") g4.i (fun v' G5 H5 g5 r5 => q v' G5 H5 (g4.trans g5) r5)
end

section
variable {P : Program} {w : World} {K : Fg} {mg : Str → Option Value} {base : Heap}
theorem d_how_many {t1 t2 : Tok} (T : Tx K mg "how_many" ["faces"] s_how_many) (TC : Tx K mg "check_faces" ["faces"] s_check_faces) (TW : Tx K mg "ways_to_cut" ["most"] s_ways_to_cut) (TB : Tx K mg "ways_beside" ["ways", "first", "chosen", "last"] s_ways_beside)
    (m1 : mg "LEAST_FACES" = some (.int 3 t1)) (m2 : mg "MOST_FACES" = some (.int 40 t2)) (bl : Bl mg) : Df P w K mg base 3 "how_many" ["faces"] (sp1 (fun (faces : Int) => 3 ≤ faces ∧ faces ≤ 40) (fun f => ix (waysN (f - 2).toNat) f)) := by
  have D_check_faces := d_check_faces (P := P) (w := w) (base := base) TC m1 m2
  have D_ways_to_cut := d_ways_to_cut (P := P) (w := w) (base := base) TW bl TB
  refine T.ok sc_how_many (fun vs H Q E h => ?_) (fun cdv f A outer s H vs Q E hr h => ?_)
  · obtain ⟨v, x, G, rfl, _⟩ := h
    rfl
  obtain ⟨v, x, G, rfl, i, r1, ⟨p1, p2⟩, q⟩ := h
  refine ⟨_, (pss_cons (ps_expr (pe_df D_check_faces hr (by first | decide | omega) (by rfl) (pa_cons (pv 0) pa_nil)))
    (pss_one (ps_ret (pe_ix (ix_listK (K := K) rfl) (pe_df D_ways_to_cut hr (by first | decide | omega) (by rfl) (pa_cons (pv 0) pa_nil)) (pv 0) (fun _ _ => rfl))))), ?_⟩
  refine sq_drop (G := G) (ev_call1 (ev_var rfl r1) ⟨p1, p2⟩) i (fun G1 H1 g1 => ?_)
  refine st_ret (G := G1) (ev_ixL (xs := waysN (x - 2).toNat) (i := x) (ev_call1 (ev_var rfl (Rep.mono g1.g r1)) ⟨p1, p2⟩) (ev_var rfl (Rep.mono g1.g r1)) (by rw [waysN_len]; omega)) g1.i (fun v G2 H2 g2 r2 => q v G2 H2 (g1.trans g2) r2)
/-! the law's own numbers -/
def lawWays : Nat → List Int
  | 0 => [1]
  | k + 1 => lawWays k ++ [(lawWays k).getLastD 0 * 2 * (2 * (1 + (k : Int)) - 1) / (1 + (k : Int) + 1)]
theorem lawWays_len : ∀ k, (lawWays k).length = 1 + k
  | 0 => rfl
  | k + 1 => by
    show (lawWays k ++ [_]).length = 1 + (k + 1)
    rw [List.length_append, lawWays_len k]
    rfl
theorem d_law_ways (T : Tx K mg "_law_ways" ["_law_most"] s__law_ways) (bl : Bl mg) : Df P w K mg base 1 "_law_ways" ["_law_most"] (sp1 (fun (most : Int) => 0 ≤ most ∧ most ≤ 1000) (fun most => lawWays most.toNat)) := by
  refine T.ok sc__law_ways (fun vs H Q E h => ?_) (fun cdv f A outer s H vs Q E hr h => ?_)
  · obtain ⟨v, x, G, rfl, _⟩ := h
    rfl
  obtain ⟨v, x, G, rfl, i, r1, ⟨p1, p2⟩, q⟩ := h
  cases r1
  refine ⟨_, (pss_cons (ps_set (i := 1) sc__law_ways.nd rfl (by first | exact .inl rfl | exact .inr rfl) (pe_lst (pa_cons pe_int pa_nil)))
    (pss_cons (ps_for PassesOwn.never rfl (pi_range2 (by rfl) (bl "range" (by decide)) (pa_cons pe_int (pa_cons (pe_op op_add (pv 0) pe_int) pa_nil))) (pg_name (i := 2) sc__law_ways.nd rfl (by first | exact .inl rfl | exact .inr rfl))
      (pss_one (ps_expr (pe_bm PySem.F.plainAttrs_list PySem.F.slot_list_append PySem.F.type_list_append mt_append (pv 1) (pa_cons (pe_op op_fdiv (pe_op op_mul (pe_op op_mul (pe_ix (ix_listK (K := K) rfl) (pv 1) (pe_un un_neg pe_int) (fun _ _ => rfl)) pe_int) (pe_op op_sub (pe_op op_mul pe_int (pv 2)) pe_int)) (pe_op op_add (pv 2) pe_int)) pa_nil)))))
    (pss_one (ps_ret (pv 1))))), ?_⟩
  refine sq_newlist (G := G) (xs := [(1 : Int)]) (by walk_at "pf_ev") i (by decide) (fun p G1 H1 o g1 np m1 s1 => ?_)
  have nHp := up_none g1.same np
  refine sq_for (G := G1) (xs := rng 1 (x + 1)) (fun k σ G' H' => ∃ c, σ = [some (.int x), some (.ref p), c] ∧ Gr M0 G H G' H' ∧ Ml G' H' p (lawWays k)) (by walk_at "pf_ev") s1 ?_ ?_ ?_
  · intro G2 H2 g2
    exact ⟨none, rfl, (g1.mut (.inl nHp) m1.1).trans g2, m1.step0 g2⟩
  · intro k c v' σ' G2 H2 G3 H3 hk e1 e2 hP g3 r3
    obtain ⟨c0, rfl, gr, ml⟩ := hP
    obtain ⟨rfl, hk2⟩ := rng_get hk
    cases r3
    refine gn ?_
    have hne : lawWays k ≠ [] := fun z => by
      have := lawWays_len k
      rw [z] at this
      change 0 = 1 + k at this
      omega
    refine st_appendF (G := G3) (i := 1) (p := p) (xs := lawWays k) (x := (lawWays k).getLastD 0 * 2 * (2 * (1 + (k : Int)) - 1) / (1 + (k : Int) + 1)) rfl (ml.step0 g3) (fun o s2 r2 => ?_) g3.i ?_ ?_
    · refine ev_fdiv (ev_mul (ev_mul (ev_ixLast (ev_var rfl r2) (ev_neg ev_int) hne) ev_int (.inr ⟨by decide, by decide⟩)) (ev_sub (ev_mul ev_int (ev_var rfl rfl) (.inl ⟨by decide, by decide⟩)) ev_int) (.inr ⟨by omega, by omega⟩)) (ev_add (ev_var rfl rfl) ev_int) ⟨by omega, by omega⟩
    · rw [lawWays_len]; omega
    · intro H' o g4 m4 s4
      exact ⟨G3, g3.g, s4, _, rfl, ((gr.trans g3).trans g4).mut (.inl nHp) m4.1, m4⟩
  · intro σ' G2 H2 e1 e2 hP
    obtain ⟨c, rfl, gr, ml⟩ := hP
    rw [rng_len] at ml
    obtain ⟨G4, g4, r4, s4⟩ := ml.frz gr nHp
    have ex : (x + 1 - 1).toNat = x.toNat := by omega
    rw [ex] at r4
    refine st_ret (G := G4) (by walk_at "pf_ev") g4.i (fun v' G5 H5 g5 r5 => q v' G5 H5 (g4.trans g5) r5)
/-! ### the law -/
theorem ways_ok : ∀ f : Fin 38, ix (waysN (f.val + 1)) ((f.val : Int) + 3) = ix (lawWays 38) ((f.val : Int) + 1) := by decide +kernel
theorem few_ok : ∀ f : Fin 5, ix (waysN (f.val + 1)) ((f.val : Int) + 3) = ((everyPlan ((f.val : Int) + 3)).length : Int) := by decide +kernel
theorem d_law {t1 t2 : Tok} {fa : Addr} {fd : FuncData} (F : Fun K "law" "law" s_law fa fd) (Tb : Tx K mg "_law_bag" ["_law_script"] s__law_bag) (Tw : Tx K mg "_law_ways" ["_law_most"] s__law_ways) (Tp : Tx K mg "_law_pull" ["_law_bag_here", "_law_many"] s__law_pull)
    (Ta : Tx K mg "_law_alike" ["_law_found", "_law_due"] s__law_alike) (Tl : Tx K mg "_law_whole" ["_law_found"] s__law_whole) (Te : Tx K mg "_law_every_plan" ["_law_faces"] s__law_every_plan) (Tq : Tx K mg "_law_pair" ["_law_one", "_law_other"] s__law_pair)
    (Th : Tx K mg "how_many" ["faces"] s_how_many) (TC : Tx K mg "check_faces" ["faces"] s_check_faces) (TW : Tx K mg "ways_to_cut" ["most"] s_ways_to_cut) (TB : Tx K mg "ways_beside" ["ways", "first", "chosen", "last"] s_ways_beside)
    (m1 : mg "LEAST_FACES" = some (.int 3 t1)) (m2 : mg "MOST_FACES" = some (.int 40 t2)) (bl : Bl mg) : FnOk P w K mg base CX0 4 fa fd ["_law_script"] (spLaw K) := by
  have D__law_bag := d_bag (P := P) (w := w) (base := base) Tb bl
  have D__law_ways := d_law_ways (P := P) (w := w) (base := base) Tw bl
  have D__law_pull := d_pull (P := P) (w := w) (base := base) Tp bl
  have D__law_alike := d_alike (P := P) (w := w) (base := base) Ta Tl bl 0
  have D__law_every_plan := d_every (P := P) (w := w) (base := base) Te Tq bl
  have D_how_many := d_how_many (P := P) (w := w) (base := base) Th TC TW TB m1 m2 bl
  refine F.ok sc_law (fun vs H Q E h => ?_) (fun cdv A outer s H vs Q E hr h => ?_)
  · obtain ⟨a, ns, rfl, _⟩ := h
    rfl
  obtain ⟨a, ns, rfl, hq, hl, q⟩ := h
  refine ⟨_, (pss_cons (ps_set (i := 1) sc_law.nd rfl (by first | exact .inl rfl | exact .inr rfl) (pe_df D__law_bag hr (by first | decide | omega) (by rfl) (pa_cons (pv 0) pa_nil)))
    (pss_cons (ps_set (i := 2) sc_law.nd rfl (by first | exact .inl rfl | exact .inr rfl) (pe_df D__law_ways hr (by first | decide | omega) (by rfl) (pa_cons pe_int pa_nil)))
    (pss_cons (ps_for PassesOwn.never rfl (pi_range1 (by rfl) (bl "range" (by decide)) (pa_cons pe_int pa_nil)) (pg_name (i := 3) sc_law.nd rfl (by first | exact .inl rfl | exact .inr rfl))
      (pss_cons (ps_set (i := 4) sc_law.nd rfl (by first | exact .inl rfl | exact .inr rfl) (pe_op op_add pe_int (pe_df D__law_pull hr (by first | decide | omega) (by rfl) (pa_cons (pv 1) (pa_cons pe_int pa_nil)))))
      (pss_one (ps_if (pt_not (pt_val (pe_df D__law_alike hr (by first | decide | omega) (by rfl) (pa_cons (pe_df D_how_many hr (by first | decide | omega) (by rfl) (pa_cons (pv 4) pa_nil)) (pa_cons (pe_ix (ix_listK (K := K) rfl) (pv 2) (pe_op op_sub (pv 4) pe_int) (fun _ _ => rfl)) pa_nil)))))
        (pss_one (ps_ret pe_bl))
        pss_nil))))
    (pss_cons (ps_set (i := 5) sc_law.nd rfl (by first | exact .inl rfl | exact .inr rfl) (pe_op op_add pe_int (pe_df D__law_pull hr (by first | decide | omega) (by rfl) (pa_cons (pv 1) (pa_cons pe_int pa_nil)))))
    (pss_one (ps_ret (pe_df D__law_alike hr (by first | decide | omega) (by rfl) (pa_cons (pe_df D_how_many hr (by first | decide | omega) (by rfl) (pa_cons (pv 5) pa_nil)) (pa_cons (pe_callB (call_lenK (K := K) rfl) (by rfl) (bl "len" (by decide)) (by decide +kernel) (pa_cons (pe_df D__law_every_plan hr (by first | decide | omega) (by rfl) (pa_cons (pv 5) pa_nil)) pa_nil)) pa_nil))))))))), ?_⟩
  refine ⟨.ref a, rfl, a, ns, H, rfl, Same.refl H, hq, hl, fun b G1 H1 g1 nb bg1 => ?_⟩
  refine sq_set (G := G1) (ev_call1 (x := (38 : Int)) ev_int ⟨by decide, by decide⟩) g1.i (fun rv G2 H2 g2 r2 => ?_)
  have r2 : rep G2 rv (lawWays 38) := r2
  refine sq_for (G := G2) (xs := rng 0 8) (fun k σ G' H' => ∃ o3 o4, σ = [some (.ref a), some (.ref b), some rv, o3, o4, none] ∧ Bag G' H' b ∧ rep G' rv (lawWays 38)) (by walk_at "pf_ev") g2.i ?_ ?_ ?_
  · intro G3 H3 g3
    exact ⟨none, none, rfl, (bg1.step0 g2).step0 g3, Rep.mono g3.g r2⟩
  · intro k t v σ' G3 H3 G4 H4 hk e1 e2 hP g4 r4
    obtain ⟨o3, o4, rfl, bg3, r3⟩ := hP
    refine gn ?_
    refine sq_pullAdd (b := b) (many := 38) rfl g4.i (bg3.step0 g4) ev_int (by decide) (by decide) (fun r H5 a1 a2 g5 bg5 => ?_)
    have r4' := Rep.mono g4.g r3
    refine st_if (G := G4) (et_not (et_B (ev_call2 (f := alikeN 0) (ev_dat (ev_call1 (x := 3 + r) (ev_var rfl rfl) ⟨by omega, by omega⟩)) (ev_dat (ev_ixL (xs := lawWays 38) (i := 3 + r - 2) (ev_var rfl r4') (ev_sub (ev_var rfl rfl) ev_int) (by rw [lawWays_len]; omega))) (okN_int 0 _)))) g5.i (fun hb G6 H6 g6 => ?_) (fun hb G6 H6 g6 => ?_)
    · exfalso
      rw [alike_dat (okN_int 0 _)] at hb
      have z := ways_ok ⟨r.toNat, by omega⟩
      have e1 : ((r.toNat : Nat) : Int) = r := by omega
      have e2 : (3 + r - 2).toNat = r.toNat + 1 := by omega
      have e3 : r + 3 = 3 + r := by omega
      have e4 : r + 1 = 3 + r - 2 := by omega
      simp only [e1, e3, e4] at z
      rw [← e2] at z
      rw [decide_eq_true z] at hb
      cases hb
    · exact ⟨G6, g4.g.trans g6.g, g6.i, _, _, rfl, bg5.step0 g6, Rep.mono g6.g r4'⟩
  · intro σ' G3 H3 e1 e2 hP
    obtain ⟨o3, o4, rfl, bg3, r3⟩ := hP
    refine sq_pullAdd (b := b) (many := 5) rfl e2 bg3 ev_int (by decide) (by decide) (fun r H5 a1 a2 g5 bg5 => ?_)
    refine st_ret (G := G3) (ev_call2 (f := alikeN 0) (ev_dat (ev_call1 (x := 3 + r) (ev_var rfl rfl) ⟨by omega, by omega⟩)) (ev_dat (ev_lenL (xs := everyPlan (3 + r)) (ev_call1 (x := 3 + r) (ev_var rfl rfl) ⟨by omega, by omega⟩))) (okN_int 0 _)) g5.i (fun v G6 H6 g6 r6 => ?_)
    rw [alike_dat (okN_int 0 _)] at r6
    have z := few_ok ⟨r.toNat, by omega⟩
    have e1 : ((r.toNat : Nat) : Int) = r := by omega
    have e2 : (3 + r - 2).toNat = r.toNat + 1 := by omega
    have e3 : r + 3 = 3 + r := by omega
    simp only [e1, e3] at z
    rw [← e2] at z
    rw [decide_eq_true z] at r6
    cases r6
    exact q H6
end

theorem all_mk {l : PySem.W.OpenLaw} {w : World} {K : PySem.W.Frag} {h : Heap} {mg : Str → Option Value} {fa f0 f1 f2 f3 f4 f5 f6 f7 f8 f9 f10 f11 : Addr} (X : K.In h) (G : h.Ns mainGlobals mg) (hfa : mg "law" = some (.ref fa))
    {od0 an0 od1 an1 od2 an2 od3 an3 od4 an4 od5 an5 od6 an6 od7 an7 od8 an8 od9 an9 od10 an10 od11 an11 : Option Addr} {sl0 sl1 sl2 sl3 sl4 sl5 sl6 sl7 sl8 sl9 sl10 sl11 : Array (Option Value)} {oc0 kV0 dc0 pm0 cd0 ct0 oc1 kV1 dc1 pm1 cd1 ct1 oc2 kV2 dc2 pm2 cd2 ct2 oc3 kV3 dc3 pm3 cd3 ct3 oc4 kV4 dc4 pm4 cd4 ct4 oc5 kV5 dc5 pm5 cd5 ct5 oc6 kV6 dc6 pm6 cd6 ct6 oc7 kV7 dc7 pm7 cd7 ct7 oc8 kV8 dc8 pm8 cd8 ct8 oc9 kV9 dc9 pm9 cd9 ct9 oc10 kV10 dc10 pm10 cd10 ct10 oc11 kV11 dc11 pm11 cd11 ct11 : Value}
    {tk0 tk1 : Tok}
    (a0 : PySem.W.nsIn K mainGlobals "_law_bag" = some (some (.ref f0))) (l0 : K.lookup f0 = some ⟨oc0, od0, .func (PySem.W.fnOf "_law_bag" "_law_bag" (defArgs s__law_bag) (defBody s__law_bag) (defScope s__law_bag) .none kV0 dc0 pm0 an0 cd0 ct0), sl0⟩) (c0 : PySem.W.codeIn K cd0 "_law_bag" = true) (k0 : PySem.W.keepIn K (.ref f0) = true)
    (a1 : PySem.W.nsIn K mainGlobals "_law_ways" = some (some (.ref f1))) (l1 : K.lookup f1 = some ⟨oc1, od1, .func (PySem.W.fnOf "_law_ways" "_law_ways" (defArgs s__law_ways) (defBody s__law_ways) (defScope s__law_ways) .none kV1 dc1 pm1 an1 cd1 ct1), sl1⟩) (c1 : PySem.W.codeIn K cd1 "_law_ways" = true) (k1 : PySem.W.keepIn K (.ref f1) = true)
    (a2 : PySem.W.nsIn K mainGlobals "_law_pull" = some (some (.ref f2))) (l2 : K.lookup f2 = some ⟨oc2, od2, .func (PySem.W.fnOf "_law_pull" "_law_pull" (defArgs s__law_pull) (defBody s__law_pull) (defScope s__law_pull) .none kV2 dc2 pm2 an2 cd2 ct2), sl2⟩) (c2 : PySem.W.codeIn K cd2 "_law_pull" = true) (k2 : PySem.W.keepIn K (.ref f2) = true)
    (a3 : PySem.W.nsIn K mainGlobals "_law_alike" = some (some (.ref f3))) (l3 : K.lookup f3 = some ⟨oc3, od3, .func (PySem.W.fnOf "_law_alike" "_law_alike" (defArgs s__law_alike) (defBody s__law_alike) (defScope s__law_alike) .none kV3 dc3 pm3 an3 cd3 ct3), sl3⟩) (c3 : PySem.W.codeIn K cd3 "_law_alike" = true) (k3 : PySem.W.keepIn K (.ref f3) = true)
    (a4 : PySem.W.nsIn K mainGlobals "_law_whole" = some (some (.ref f4))) (l4 : K.lookup f4 = some ⟨oc4, od4, .func (PySem.W.fnOf "_law_whole" "_law_whole" (defArgs s__law_whole) (defBody s__law_whole) (defScope s__law_whole) .none kV4 dc4 pm4 an4 cd4 ct4), sl4⟩) (c4 : PySem.W.codeIn K cd4 "_law_whole" = true) (k4 : PySem.W.keepIn K (.ref f4) = true)
    (a5 : PySem.W.nsIn K mainGlobals "_law_every_plan" = some (some (.ref f5))) (l5 : K.lookup f5 = some ⟨oc5, od5, .func (PySem.W.fnOf "_law_every_plan" "_law_every_plan" (defArgs s__law_every_plan) (defBody s__law_every_plan) (defScope s__law_every_plan) .none kV5 dc5 pm5 an5 cd5 ct5), sl5⟩) (c5 : PySem.W.codeIn K cd5 "_law_every_plan" = true) (k5 : PySem.W.keepIn K (.ref f5) = true)
    (a6 : PySem.W.nsIn K mainGlobals "_law_pair" = some (some (.ref f6))) (l6 : K.lookup f6 = some ⟨oc6, od6, .func (PySem.W.fnOf "_law_pair" "_law_pair" (defArgs s__law_pair) (defBody s__law_pair) (defScope s__law_pair) .none kV6 dc6 pm6 an6 cd6 ct6), sl6⟩) (c6 : PySem.W.codeIn K cd6 "_law_pair" = true) (k6 : PySem.W.keepIn K (.ref f6) = true)
    (a7 : PySem.W.nsIn K mainGlobals "how_many" = some (some (.ref f7))) (l7 : K.lookup f7 = some ⟨oc7, od7, .func (PySem.W.fnOf "how_many" "how_many" (defArgs s_how_many) (defBody s_how_many) (defScope s_how_many) .none kV7 dc7 pm7 an7 cd7 ct7), sl7⟩) (c7 : PySem.W.codeIn K cd7 "how_many" = true) (k7 : PySem.W.keepIn K (.ref f7) = true)
    (a8 : PySem.W.nsIn K mainGlobals "check_faces" = some (some (.ref f8))) (l8 : K.lookup f8 = some ⟨oc8, od8, .func (PySem.W.fnOf "check_faces" "check_faces" (defArgs s_check_faces) (defBody s_check_faces) (defScope s_check_faces) .none kV8 dc8 pm8 an8 cd8 ct8), sl8⟩) (c8 : PySem.W.codeIn K cd8 "check_faces" = true) (k8 : PySem.W.keepIn K (.ref f8) = true)
    (a9 : PySem.W.nsIn K mainGlobals "ways_to_cut" = some (some (.ref f9))) (l9 : K.lookup f9 = some ⟨oc9, od9, .func (PySem.W.fnOf "ways_to_cut" "ways_to_cut" (defArgs s_ways_to_cut) (defBody s_ways_to_cut) (defScope s_ways_to_cut) .none kV9 dc9 pm9 an9 cd9 ct9), sl9⟩) (c9 : PySem.W.codeIn K cd9 "ways_to_cut" = true) (k9 : PySem.W.keepIn K (.ref f9) = true)
    (a10 : PySem.W.nsIn K mainGlobals "ways_beside" = some (some (.ref f10))) (l10 : K.lookup f10 = some ⟨oc10, od10, .func (PySem.W.fnOf "ways_beside" "ways_beside" (defArgs s_ways_beside) (defBody s_ways_beside) (defScope s_ways_beside) .none kV10 dc10 pm10 an10 cd10 ct10), sl10⟩) (c10 : PySem.W.codeIn K cd10 "ways_beside" = true) (k10 : PySem.W.keepIn K (.ref f10) = true)
    (a11 : PySem.W.nsIn K mainGlobals "law" = some (some (.ref f11))) (l11 : K.lookup f11 = some ⟨oc11, od11, .func (PySem.W.fnOf "law" "law" (defArgs s_law) (defBody s_law) (defScope s_law) .none kV11 dc11 pm11 an11 cd11 ct11), sl11⟩) (c11 : PySem.W.codeIn K cd11 "law" = true) (k11 : PySem.W.keepIn K (.ref f11) = true)
    (m0 : PySem.W.nsIn K mainGlobals "LEAST_FACES" = some (some (.int 3 tk0)))
    (m1 : PySem.W.nsIn K mainGlobals "MOST_FACES" = some (some (.int 40 tk1)))
    (z0 : PySem.W.nsIn K mainGlobals "len" = some none) (z1 : PySem.W.nsIn K mainGlobals "range" = some none) (z2 : PySem.W.nsIn K mainGlobals "sum" = some none) (z3 : PySem.W.nsIn K mainGlobals "abs" = some none) (z4 : PySem.W.nsIn K mainGlobals "min" = some none) (z5 : PySem.W.nsIn K mainGlobals "max" = some none) (z6 : PySem.W.nsIn K mainGlobals "int" = some none) (z7 : PySem.W.nsIn K mainGlobals "bool" = some none) (z8 : PySem.W.nsIn K mainGlobals "str" = some none) (z9 : PySem.W.nsIn K mainGlobals "list" = some none) (z10 : PySem.W.nsIn K mainGlobals "tuple" = some none) (z11 : PySem.W.nsIn K mainGlobals "set" = some none) (z12 : PySem.W.nsIn K mainGlobals "dict" = some none) (z13 : PySem.W.nsIn K mainGlobals "sorted" = some none) (z14 : PySem.W.nsIn K mainGlobals "all" = some none) (z15 : PySem.W.nsIn K mainGlobals "any" = some none) (z16 : PySem.W.nsIn K mainGlobals "enumerate" = some none) (z17 : PySem.W.nsIn K mainGlobals "zip" = some none) (z18 : PySem.W.nsIn K mainGlobals "reversed" = some none) (z19 : PySem.W.nsIn K mainGlobals "isinstance" = some none) (z20 : PySem.W.nsIn K mainGlobals "divmod" = some none) :
    ∃ fd : FuncData, (∀ (s : Shared) (v : Value), BindsTo s fd ⟨[v], []⟩ [("_law_script", v)]) ∧ ∀ base : Heap, K.In base → base.Ns mainGlobals mg → FnOk l.prog w K mg base CX0 4 fa fd ["_law_script"] (spLaw K) := by
  have e := hfa.symm.trans (PySem.W.mg_of X G a11)
  cases e
  have F0 := fun_mk (st := s__law_bag) l0 c0 k0
  have T0 : Tx K mg "_law_bag" ["_law_script"] s__law_bag := ⟨f0, _, F0, F0.binds (ps := ["_law_script"]) fun _ _ _ _ _ _ us hl => match us, hl with | [_], _ => rfl, PySem.W.mg_of X G a0⟩
  have F1 := fun_mk (st := s__law_ways) l1 c1 k1
  have T1 : Tx K mg "_law_ways" ["_law_most"] s__law_ways := ⟨f1, _, F1, F1.binds (ps := ["_law_most"]) fun _ _ _ _ _ _ us hl => match us, hl with | [_], _ => rfl, PySem.W.mg_of X G a1⟩
  have F2 := fun_mk (st := s__law_pull) l2 c2 k2
  have T2 : Tx K mg "_law_pull" ["_law_bag_here", "_law_many"] s__law_pull := ⟨f2, _, F2, F2.binds (ps := ["_law_bag_here", "_law_many"]) fun _ _ _ _ _ _ us hl => match us, hl with | [_, _], _ => rfl, PySem.W.mg_of X G a2⟩
  have F3 := fun_mk (st := s__law_alike) l3 c3 k3
  have T3 : Tx K mg "_law_alike" ["_law_found", "_law_due"] s__law_alike := ⟨f3, _, F3, F3.binds (ps := ["_law_found", "_law_due"]) fun _ _ _ _ _ _ us hl => match us, hl with | [_, _], _ => rfl, PySem.W.mg_of X G a3⟩
  have F4 := fun_mk (st := s__law_whole) l4 c4 k4
  have T4 : Tx K mg "_law_whole" ["_law_found"] s__law_whole := ⟨f4, _, F4, F4.binds (ps := ["_law_found"]) fun _ _ _ _ _ _ us hl => match us, hl with | [_], _ => rfl, PySem.W.mg_of X G a4⟩
  have F5 := fun_mk (st := s__law_every_plan) l5 c5 k5
  have T5 : Tx K mg "_law_every_plan" ["_law_faces"] s__law_every_plan := ⟨f5, _, F5, F5.binds (ps := ["_law_faces"]) fun _ _ _ _ _ _ us hl => match us, hl with | [_], _ => rfl, PySem.W.mg_of X G a5⟩
  have F6 := fun_mk (st := s__law_pair) l6 c6 k6
  have T6 : Tx K mg "_law_pair" ["_law_one", "_law_other"] s__law_pair := ⟨f6, _, F6, F6.binds (ps := ["_law_one", "_law_other"]) fun _ _ _ _ _ _ us hl => match us, hl with | [_, _], _ => rfl, PySem.W.mg_of X G a6⟩
  have F7 := fun_mk (st := s_how_many) l7 c7 k7
  have T7 : Tx K mg "how_many" ["faces"] s_how_many := ⟨f7, _, F7, F7.binds (ps := ["faces"]) fun _ _ _ _ _ _ us hl => match us, hl with | [_], _ => rfl, PySem.W.mg_of X G a7⟩
  have F8 := fun_mk (st := s_check_faces) l8 c8 k8
  have T8 : Tx K mg "check_faces" ["faces"] s_check_faces := ⟨f8, _, F8, F8.binds (ps := ["faces"]) fun _ _ _ _ _ _ us hl => match us, hl with | [_], _ => rfl, PySem.W.mg_of X G a8⟩
  have F9 := fun_mk (st := s_ways_to_cut) l9 c9 k9
  have T9 : Tx K mg "ways_to_cut" ["most"] s_ways_to_cut := ⟨f9, _, F9, F9.binds (ps := ["most"]) fun _ _ _ _ _ _ us hl => match us, hl with | [_], _ => rfl, PySem.W.mg_of X G a9⟩
  have F10 := fun_mk (st := s_ways_beside) l10 c10 k10
  have T10 : Tx K mg "ways_beside" ["ways", "first", "chosen", "last"] s_ways_beside := ⟨f10, _, F10, F10.binds (ps := ["ways", "first", "chosen", "last"]) fun _ _ _ _ _ _ us hl => match us, hl with | [_, _, _, _], _ => rfl, PySem.W.mg_of X G a10⟩
  have F11 := fun_mk (st := s_law) l11 c11 k11
  have bl : Bl mg := by
    intro x hx
    simp only [List.mem_cons, List.not_mem_nil, or_false] at hx
    rcases hx with rfl | rfl | rfl | rfl | rfl | rfl | rfl | rfl | rfl | rfl | rfl | rfl | rfl | rfl | rfl | rfl | rfl | rfl | rfl | rfl | rfl
    · exact PySem.W.mg_none_of X G z0
    · exact PySem.W.mg_none_of X G z1
    · exact PySem.W.mg_none_of X G z2
    · exact PySem.W.mg_none_of X G z3
    · exact PySem.W.mg_none_of X G z4
    · exact PySem.W.mg_none_of X G z5
    · exact PySem.W.mg_none_of X G z6
    · exact PySem.W.mg_none_of X G z7
    · exact PySem.W.mg_none_of X G z8
    · exact PySem.W.mg_none_of X G z9
    · exact PySem.W.mg_none_of X G z10
    · exact PySem.W.mg_none_of X G z11
    · exact PySem.W.mg_none_of X G z12
    · exact PySem.W.mg_none_of X G z13
    · exact PySem.W.mg_none_of X G z14
    · exact PySem.W.mg_none_of X G z15
    · exact PySem.W.mg_none_of X G z16
    · exact PySem.W.mg_none_of X G z17
    · exact PySem.W.mg_none_of X G z18
    · exact PySem.W.mg_none_of X G z19
    · exact PySem.W.mg_none_of X G z20
  exact ⟨PySem.W.fnOf "law" "law" (defArgs s_law) (defBody s_law) (defScope s_law) .none kV11 dc11 pm11 an11 cd11 ct11, fun s v => .of_eq rfl, fun base _ _ => d_law F11 T0 T1 T2 T3 T4 T5 T6 T7 T8 T9 T10 (PySem.W.mg_of X G m0) (PySem.W.mg_of X G m1) bl⟩
end Pf
open PySem PySem.W PyProof.Rows
set_option maxRecDepth 100000 in
set_option maxHeartbeats 0 in
theorem PySem.Challenge.cw_pinchfold_k07_how_many_plans_holds : PySem.Challenge.rw_pinchfold_k07_how_many_plans.Holds := by
  w_on; o_law; k_head; (case hw => w_witness2)
  k_fill
  refine L2.walk_ofK (l := PySem.Challenge.rw_pinchfold_k07_how_many_plans) (n := 63) (k := 4) (x := "_law_script") (CX := L2.CX0) (sp := Pf.spLaw) rfl (by decide) rfl ⟨rfl, by decide, by decide⟩ (fun w h Y => PySem.W.kIn_of Y) ?F (fun _ _ a ns hl _ hS => ⟨a, ns, rfl, hS, hl, fun _ => rfl⟩) (fun _ _ _ _ h => h)
  case F =>
    intro w mg fa h KX G hmg
    refine' Pf.all_mk KX G hmg ?a0 ?l0 ?c0 ?k0 ?a1 ?l1 ?c1 ?k1 ?a2 ?l2 ?c2 ?k2 ?a3 ?l3 ?c3 ?k3 ?a4 ?l4 ?c4 ?k4 ?a5 ?l5 ?c5 ?k5 ?a6 ?l6 ?c6 ?k6 ?a7 ?l7 ?c7 ?k7 ?a8 ?l8 ?c8 ?k8 ?a9 ?l9 ?c9 ?k9 ?a10 ?l10 ?c10 ?k10 ?a11 ?l11 ?c11 ?k11 ?m0 ?m1 ?z0 ?z1 ?z2 ?z3 ?z4 ?z5 ?z6 ?z7 ?z8 ?z9 ?z10 ?z11 ?z12 ?z13 ?z14 ?z15 ?z16 ?z17 ?z18 ?z19 ?z20
    (case a0 => k_is); (case l0 => k_is); (case c0 => k_is); (case k0 => k_is); (case a1 => k_is); (case l1 => k_is); (case c1 => k_is); (case k1 => k_is); (case a2 => k_is); (case l2 => k_is); (case c2 => k_is); (case k2 => k_is); (case a3 => k_is); (case l3 => k_is); (case c3 => k_is); (case k3 => k_is); (case a4 => k_is); (case l4 => k_is); (case c4 => k_is); (case k4 => k_is); (case a5 => k_is); (case l5 => k_is); (case c5 => k_is); (case k5 => k_is); (case a6 => k_is); (case l6 => k_is); (case c6 => k_is); (case k6 => k_is); (case a7 => k_is); (case l7 => k_is); (case c7 => k_is); (case k7 => k_is); (case a8 => k_is); (case l8 => k_is); (case c8 => k_is); (case k8 => k_is); (case a9 => k_is); (case l9 => k_is); (case c9 => k_is); (case k9 => k_is); (case a10 => k_is); (case l10 => k_is); (case c10 => k_is); (case k10 => k_is); (case a11 => k_is); (case l11 => k_is); (case c11 => k_is); (case k11 => k_is); (case m0 => k_is); (case m1 => k_is); (case z0 => k_is); (case z1 => k_is); (case z2 => k_is); (case z3 => k_is); (case z4 => k_is); (case z5 => k_is); (case z6 => k_is); (case z7 => k_is); (case z8 => k_is); (case z9 => k_is); (case z10 => k_is); (case z11 => k_is); (case z12 => k_is); (case z13 => k_is); (case z14 => k_is); (case z15 => k_is); (case z16 => k_is); (case z17 => k_is); (case z18 => k_is); (case z19 => k_is); (case z20 => k_is)

