import PyProof.Rows.All
import Wide.All
import OpenK.AllK
import Wide.FinOn
import HandS.ForMost
import HandS.Wide
import HandS.IsInst
import HandS.Deep
import HandS.SortRule
import HandS.SortInts
import HandS.TupLe
import HandS.Zip
import HandS.Codes
import HandS.TupAny
import HandS.Defaults
import HandS.ForExc
import HandS.TryMany
import HandS.Zip0
import HandS.Conv
import KE.DataMinMax
import KE.SortData
import HandS.TupSets
import HandS.Style
import HandS.EndTab
import HandS.ExcOwn
import KE.KNestM
import KE.KDictDisplayH
import HandS.More
import HandS.TupLen
import PyProof.StrOps2
import HandS.Text
import HandS.FStr
import HandS.Star
import HandS.CallLocal
import HandS.RaiseMore
import HandS.ExcValue
import HandS.WrittenGet
import KE.KUnpackStar
import KE.GoesEnum
import KE.GoesMore
import KE.GoesZip
import HandS.DictComp
import PySem.Challenge.RW_pinchfold_k49_deeds_written_and_read
set_option Elab.async false
set_option linter.all false
set_option autoImplicit false
set_option maxRecDepth 100000
set_option maxHeartbeats 4000000
/-! A layer of pure values over the abstract heap. -/
namespace Pf
open PySem PySem.Spec PyProof.Rows L2

abbrev Fg := PySem.W.Frag
/-- beyond G, G' has only what is new to H, or tuples of H, and no table -/
def Nw (G H G' : Hp) : Prop := ∀ a o, G' a = some o → G a = some o ∨ ((H a = none ∨ ∃ vs, o = .tup vs ∧ H a = some o) ∧ ∀ ps, o ≠ .tbl ps)
/-- all but M stays -/
def SB (M : Addr → Prop) (H H' : Hp) : Prop := ∀ a o, ¬ M a → H a = some o → H' a = some o
/-- a step: the still part G grows to G', the heap H becomes H', but for M all of H stays -/
structure Gr (M : Addr → Prop) (G H G' H' : Hp) : Prop where
  g : Same G G'
  i : Same G' H'
  h : SB M H H'
  n : Nw G H G'
abbrev M0 : Addr → Prop := fun _ => False
theorem SB.refl {M : Addr → Prop} {H : Hp} : SB M H H := fun _ _ _ h => h
theorem SB.trans {M : Addr → Prop} {H H1 H2 : Hp} (a : SB M H H1) (b : SB M H1 H2) : SB M H H2 := fun c o n h => b c o n (a c o n h)
theorem SB.of {M : Addr → Prop} {H H' : Hp} (a : Same H H') : SB M H H' := fun c o _ h => a c o h
theorem SB.same {H H' : Hp} (a : SB M0 H H') : Same H H' := fun c o h => a c o (fun z => z) h
theorem Gr.refl {M : Addr → Prop} {G H : Hp} (i : Same G H) : Gr M G H G H := ⟨Same.refl G, i, SB.refl, fun _ _ h => .inl h⟩
theorem Gr.trans {M : Addr → Prop} {G H G1 H1 G2 H2 : Hp} (x : Gr M G H G1 H1) (y : Gr M G1 H1 G2 H2) (mm : ∀ a, M a → G2 a = none ∨ H a = none ∨ G a ≠ none := by intro _ z; exact z.elim) : Gr M G H G2 H2 :=
  ⟨x.g.trans y.g, y.i, x.h.trans y.h, fun a o e => by
    rcases y.n a o e with z | ⟨z, nt⟩
    · exact x.n a o z
    · cases q : H a with
      | none => exact .inr ⟨.inl rfl, nt⟩
      | some u =>
        by_cases m : M a
        · rcases mm a m with k | k | k
          · rw [k] at e; cases e
          · rw [k] at q; cases q
          · cases r : G a with
            | none => exact absurd r k
            | some u' =>
              have e1 := (x.g.trans y.g) a u' r
              rw [e] at e1
              exact .inl e1.symm
        · rcases z with z | ⟨vs, rfl, z⟩
          · rw [x.h a u m q] at z; cases z
          · rw [x.h a u m q] at z; cases z; exact .inr ⟨.inr ⟨vs, rfl, rfl⟩, nt⟩⟩
theorem Gr.same {G H G' H' : Hp} (x : Gr M0 G H G' H') : Same H H' := x.h.same
theorem Gr.wk {M : Addr → Prop} {G H G' H' : Hp} (x : Gr M0 G H G' H') : Gr M G H G' H' := ⟨x.g, x.i, SB.of x.same, x.n⟩
/-- G has nothing of what H had outside -/
theorem Gr.out {M : Addr → Prop} {G H G' H' : Hp} (x : Gr M G H G' H') {p : Addr} {o : HO} (hg : G p = none) (hh : H p = some o) (nt : ∀ vs, o ≠ .tup vs := by intro _ h; cases h) : G' p = none := by
  cases q : G' p with
  | none => rfl
  | some u =>
    rcases x.n p u q with z | ⟨z | ⟨vs, rfl, z⟩, _⟩
    · rw [hg] at z; cases z
    · rw [hh] at z; cases z
    · rw [hh] at z; cases z; exact absurd rfl (nt vs)

def uni (A B : Hp) : Hp := fun a => match A a with
  | some o => some o
  | none => B a
theorem uni_l {A B : Hp} : Same A (uni A B) := fun a o h => by unfold uni; rw [h]
theorem uni_c {A B : Hp} {a : Addr} {o : HO} (h : uni A B a = some o) : A a = some o ∨ B a = some o := by
  unfold uni at h
  cases q : A a with
  | some u => rw [q] at h; exact .inl h
  | none => rw [q] at h; exact .inr h
theorem uni_r {A B H : Hp} (x : Same A H) (y : Same B H) : Same B (uni A B) := fun a o h => by
  unfold uni
  cases q : A a with
  | none => exact h
  | some u =>
    have e1 := x a u q
    have e2 := y a o h
    rw [e1] at e2
    exact e2
theorem uni_i {A B H : Hp} (x : Same A H) (y : Same B H) : Same (uni A B) H := fun a o h => by
  rcases uni_c h with z | z
  · exact x a o z
  · exact y a o z

/-! ### values -/
class Rep (α : Type) where
  rep : Hp → V → α → Prop
  mono : ∀ {G G' : Hp} {v : V} {x : α}, Same G G' → rep G v x → rep G' v x
abbrev rep {α : Type} [Rep α] : Hp → V → α → Prop := Rep.rep
instance : Rep Int := ⟨fun _ v x => v = .int x, fun _ h => h⟩
instance : Rep Bool := ⟨fun _ v x => v = .bl x, fun _ h => h⟩
instance : Rep Str := ⟨fun _ v x => v = .str x, fun _ h => h⟩
instance : Rep Unit := ⟨fun _ v _ => v = .non, fun _ h => h⟩
theorem paired_mono {α : Type} [Rep α] {G G' : Hp} (e : Same G G') {vs : List V} {xs : List α} (h : Paired (rep G) vs xs) : Paired (rep G') vs xs := Paired.mapP h fun _ _ r => Rep.mono e r
instance {α : Type} [Rep α] : Rep (List α) := ⟨fun G v xs => ∃ a vs, v = .ref a ∧ G a = some (.lst vs) ∧ Paired (rep G) vs xs,
  fun e ⟨a, vs, h1, h2, h3⟩ => ⟨a, vs, h1, e _ _ h2, paired_mono e h3⟩⟩
/-- a tuple of any length, of one kind -/
structure Tup (α : Type) where
  l : List α
  deriving DecidableEq
instance {α : Type} [Rep α] : Rep (Tup α) := ⟨fun G v xs => ∃ a vs, v = .ref a ∧ G a = some (.tup vs) ∧ Paired (rep G) vs xs.l,
  fun e ⟨a, vs, h1, h2, h3⟩ => ⟨a, vs, h1, e _ _ h2, paired_mono e h3⟩⟩
instance {α β : Type} [Rep α] [Rep β] : Rep (α × β) := ⟨fun G v x => ∃ a u w, v = .ref a ∧ G a = some (.tup [u, w]) ∧ rep G u x.1 ∧ rep G w x.2,
  fun e ⟨a, u, w, h1, h2, h3, h4⟩ => ⟨a, u, w, h1, e _ _ h2, Rep.mono e h3, Rep.mono e h4⟩⟩
/-- a tuple of three -/
structure Tri (α β γ : Type) where
  a : α
  b : β
  c : γ
  deriving DecidableEq
instance {α β γ : Type} [Rep α] [Rep β] [Rep γ] : Rep (Tri α β γ) := ⟨fun G v x => ∃ a u w z, v = .ref a ∧ G a = some (.tup [u, w, z]) ∧ rep G u x.a ∧ rep G w x.b ∧ rep G z x.c,
  fun e ⟨a, u, w, z, h1, h2, h3, h4, h5⟩ => ⟨a, u, w, z, h1, e _ _ h2, Rep.mono e h3, Rep.mono e h4, Rep.mono e h5⟩⟩
theorem rep_int {G : Hp} {v : V} {x : Int} (h : rep G v x) : v = .int x := h
theorem rep_bl {G : Hp} {v : V} {x : Bool} (h : rep G v x) : v = .bl x := h
theorem rep_str {G : Hp} {v : V} {x : Str} (h : rep G v x) : v = .str x := h
theorem paired_len {α : Type} [Rep α] {G : Hp} {vs : List V} {xs : List α} (h : Paired (rep G) vs xs) : vs.length = xs.length := Paired.length h
theorem paired_get {α β : Type} {R : α → β → Prop} : ∀ {vs : List α} {xs : List β} {i : Nat} {x : β}, Paired R vs xs → xs[i]? = some x → ∃ v, vs[i]? = some v ∧ R v x
  | _, _, _, _, .nil, e => by simp at e
  | _, _, 0, _, .cons r _, e => by simp at e; subst e; exact ⟨_, rfl, r⟩
  | _, _, i + 1, x, .cons _ t, e => by
    obtain ⟨u, h1, h2⟩ := paired_get (i := i) (x := x) t (by simpa using e)
    exact ⟨u, by simpa using h1, h2⟩
theorem paired_get' {α β : Type} {R : α → β → Prop} : ∀ {vs : List α} {xs : List β} {i : Nat} {v : α}, Paired R vs xs → vs[i]? = some v → ∃ x, xs[i]? = some x ∧ R v x
  | _, _, _, _, .nil, e => by simp at e
  | _, _, 0, _, .cons r _, e => by simp at e; subst e; exact ⟨_, rfl, r⟩
  | _, _, i + 1, x, .cons _ t, e => by
    obtain ⟨u, h1, h2⟩ := paired_get' (i := i) (v := x) t (by simpa using e)
    exact ⟨u, by simpa using h1, h2⟩
theorem paired_app {α β : Type} {R : α → β → Prop} : ∀ {vs us : List α} {xs ys : List β}, Paired R vs xs → Paired R us ys → Paired R (vs ++ us) (xs ++ ys)
  | _, _, _, _, .nil, h => h
  | _, _, _, _, .cons r t, h => .cons r (paired_app t h)
theorem paired_drop {α β : Type} {R : α → β → Prop} : ∀ {vs : List α} {xs : List β} (n : Nat), Paired R vs xs → Paired R (vs.drop n) (xs.drop n)
  | _, _, 0, h => h
  | _, _, _ + 1, .nil => .nil
  | _, _, n + 1, .cons _ t => paired_drop n t
theorem paired_take {α β : Type} {R : α → β → Prop} : ∀ {vs : List α} {xs : List β} (n : Nat), Paired R vs xs → Paired R (vs.take n) (xs.take n)
  | _, _, 0, _ => .nil
  | _, _, _ + 1, .nil => .nil
  | _, _, n + 1, .cons r t => .cons r (paired_take n t)
theorem paired_ints {G : Hp} : ∀ {vs : List V} {xs : List Int}, Paired (rep G) vs xs → vs = xs.map V.int
  | _, _, .nil => rfl
  | _, _, .cons r t => by rw [rep_int r, paired_ints t]; rfl
theorem paired_of_ints {G : Hp} : ∀ (xs : List Int), Paired (rep G) (xs.map V.int) xs
  | [] => .nil
  | _ :: xs => .cons rfl (paired_of_ints xs)
theorem paired_bls {G : Hp} : ∀ {vs : List V} {xs : List Bool}, Paired (rep G) vs xs → vs = xs.map V.bl
  | _, _, .nil => rfl
  | _, _, .cons r t => by rw [rep_bl r, paired_bls t]; rfl

/-! ### what evaluates to what -/
section
variable {α β γ δ : Type} [Rep α] [Rep β] [Rep γ] [Rep δ]
def Ev (te : TE) (σ : L2.St) (G : Hp) (x : α) : Prop := ∀ H, Same G H → ∀ Q : VK, (∀ v G' H', Gr M0 G H G' H' → rep G' v x → Q v H') → te σ H Q
def EvT (tt : TT) (σ : L2.St) (G : Hp) (b : Bool) : Prop := ∀ H, Same G H → ∀ Q : Bool → Hp → Prop, (∀ G' H', Gr M0 G H G' H' → Q b H') → tt σ H Q
def EvAs (ta : TA) (σ : L2.St) (G : Hp) (xs : List α) : Prop := ∀ H, Same G H → ∀ Q : List V → Hp → Prop, (∀ vs G' H', Gr M0 G H G' H' → Paired (rep G') vs xs → Q vs H') → ta σ H Q
/-- a two-place operation on values -/
def Ev2 (r : R2) (v u : V) (G : Hp) (z : γ) : Prop := ∀ H, Same G H → ∀ Q : VK, (∀ w G' H', Gr M0 G H G' H' → rep G' w z → Q w H') → r v u H Q
theorem gr_up {G G1 H G' H' : Hp} (e : Same G G1) (i : Same G1 H) (g : Gr M0 G H G' H') : Gr M0 G1 H (uni G' G1) H' :=
  ⟨uni_r g.i (i.trans g.same), uni_i g.i (i.trans g.same), g.h, fun a o q => by
    rcases uni_c q with z | z
    · rcases g.n a o z with y | y
      · exact .inl (e a o y)
      · exact .inr y
    · exact .inl z⟩
variable {σ : L2.St} {G G1 : Hp} {te ta tb tc : TE} {tt tu : TT} {x : α} {y : β} {z : γ} {r r' : R2}
theorem Ev.mono (h : Ev te σ G x) (e : Same G G1) : Ev te σ G1 x := fun H i Q q => h H (e.trans i) Q fun v G' H' g k => q v (uni G' G1) H' (gr_up e i g) (Rep.mono uni_l k)
theorem EvT.mono {b : Bool} (h : EvT tt σ G b) (e : Same G G1) : EvT tt σ G1 b := fun H i Q q => h H (e.trans i) Q fun G' H' g => q (uni G' G1) H' (gr_up e i g)
theorem EvAs.mono {ta : TA} {xs : List α} (h : EvAs ta σ G xs) (e : Same G G1) : EvAs ta σ G1 xs := fun H i Q q => h H (e.trans i) Q fun v G' H' g k => q v (uni G' G1) H' (gr_up e i g) (paired_mono uni_l k)
theorem Ev.cast {x' : α} (h : Ev te σ G x) (e : x = x') : Ev te σ G x' := e ▸ h
theorem EvT.cast {b b' : Bool} (h : EvT tt σ G b) (e : b = b') : EvT tt σ G b' := e ▸ h
theorem ev_var {i : Nat} {v : V} (h : σ[i]? = some (some v)) (k : rep G v x) : Ev (tVar i) σ G x := fun H i Q q => ⟨v, h, q v G H (Gr.refl i) k⟩
theorem ev_c {v : V} (k : rep G v x) : Ev (tC v) σ G x := fun H i Q q => q v G H (Gr.refl i) k
theorem ev_int {n : Int} : Ev (tC (.int n)) σ G n := ev_c rfl
theorem ev_bl {n : Bool} : Ev (tC (.bl n)) σ G n := ev_c rfl
theorem ev_str {n : Str} : Ev (tC (.str n)) σ G n := ev_c rfl
theorem ev_non : Ev (tC .non) σ G () := ev_c rfl
/-- two, then a step on their values -/
theorem ev2 (ha : Ev ta σ G x) (hb : Ev tb σ G y) (hr : ∀ v u G', Same G G' → rep G' v x → rep G' u y → Ev2 r v u G' z) : Ev (tOp r ta tb) σ G z := fun H i Q q =>
  ha H i _ fun v G1 H1 g1 k1 => (hb.mono g1.g) H1 g1.i _ fun u G2 H2 g2 k2 =>
    hr v u G2 (g1.g.trans g2.g) (Rep.mono g2.g k1) k2 H2 g2.i Q fun w G3 H3 g3 k3 => q w G3 H3 ((g1.trans g2).trans g3) k3
theorem ev_I0 {g : Int → Int → V} {i j : Int} (hz : ∀ G', rep G' (g i j) z) (ha : Ev ta σ G i) (hb : Ev tb σ G j) : Ev (tOp (rI0 g) ta tb) σ G z :=
  ev2 ha hb fun v u G' _ k1 k2 H h Q q => ⟨i, j, k1, k2, q _ G' H (Gr.refl h) (hz G')⟩
theorem ev_I {C : Int → Int → Prop} {g : Int → Int → V} {i j : Int} (hz : ∀ G', rep G' (g i j) z) (hc : C i j) (ha : Ev ta σ G i) (hb : Ev tb σ G j) : Ev (tOp (rI C g) ta tb) σ G z :=
  ev2 ha hb fun v u G' _ k1 k2 H h Q q => ⟨i, j, k1, k2, hc, q _ G' H (Gr.refl h) (hz G')⟩
variable {i j : Int}
theorem ev_add (ha : Ev ta σ G i) (hb : Ev tb σ G j) : Ev (tOp (rI0 fun i j => .int (i + j)) ta tb) σ G (i + j) := ev_I0 (fun _ => rfl) ha hb
theorem ev_sub (ha : Ev ta σ G i) (hb : Ev tb σ G j) : Ev (tOp (rI0 fun i j => .int (i - j)) ta tb) σ G (i - j) := ev_I0 (fun _ => rfl) ha hb
theorem ev_mul (ha : Ev ta σ G i) (hb : Ev tb σ G j) (hc : CMul i j) : Ev (tOp (rI CMul fun i j => .int (i * j)) ta tb) σ G (i * j) := ev_I (fun _ => rfl) hc ha hb
theorem ev_mulW (ha : Ev ta σ G i) (hb : Ev tb σ G j) (hc : CMulW i j) : Ev (tOp (rI CMulW fun i j => .int (i * j)) ta tb) σ G (i * j) := ev_I (fun _ => rfl) hc ha hb
theorem ev_fdiv (ha : Ev ta σ G i) (hb : Ev tb σ G j) (hc : CDiv i j) : Ev (tOp (rI CDiv fun i j => .int (i / j)) ta tb) σ G (i / j) := ev_I (fun _ => rfl) hc ha hb
theorem ev_fdivW (ha : Ev ta σ G i) (hb : Ev tb σ G j) (hc : CDivW i j) : Ev (tOp (rI CDivW fun i j => .int (i / j)) ta tb) σ G (i / j) := ev_I (fun _ => rfl) hc ha hb
theorem ev_mod (ha : Ev ta σ G i) (hb : Ev tb σ G j) (hc : 0 < j) : Ev (tOp (rI (fun _ j => 0 < j) fun i j => .int (i % j)) ta tb) σ G (i % j) := ev_I (fun _ => rfl) hc ha hb
theorem ev_pow (ha : Ev ta σ G i) (hb : Ev tb σ G j) (hc : CPow i j) : Ev (tOp (rI CPow fun i j => .int (i ^ j.toNat)) ta tb) σ G (i ^ j.toNat) := ev_I (fun _ => rfl) hc ha hb
theorem ev_lt (ha : Ev ta σ G i) (hb : Ev tb σ G j) : Ev (tOp (rI0 fun i j => .bl (decide (i < j))) ta tb) σ G (decide (i < j)) := ev_I0 (fun _ => rfl) ha hb
theorem ev_le (ha : Ev ta σ G i) (hb : Ev tb σ G j) : Ev (tOp (rI0 fun i j => .bl (decide (i ≤ j))) ta tb) σ G (decide (i ≤ j)) := ev_I0 (fun _ => rfl) ha hb
theorem ev_gt (ha : Ev ta σ G i) (hb : Ev tb σ G j) : Ev (tOp (rI0 fun i j => .bl (decide (j < i))) ta tb) σ G (decide (j < i)) := ev_I0 (fun _ => rfl) ha hb
theorem ev_ge (ha : Ev ta σ G i) (hb : Ev tb σ G j) : Ev (tOp (rI0 fun i j => .bl (decide (j ≤ i))) ta tb) σ G (decide (j ≤ i)) := ev_I0 (fun _ => rfl) ha hb
theorem v_int_eq {i j : Int} : decide (V.int i = V.int j) = decide (i = j) := by
  by_cases h : i = j
  · rw [decide_eq_true h, decide_eq_true (congrArg V.int h)]
  · rw [decide_eq_false h, decide_eq_false (fun e => h (V.int.inj e))]
theorem v_str_eq {i j : Str} : decide (V.str i = V.str j) = decide (i = j) := by
  by_cases h : i = j
  · rw [decide_eq_true h, decide_eq_true (congrArg V.str h)]
  · rw [decide_eq_false h, decide_eq_false (fun e => h (V.str.inj e))]
theorem v_bl_eq {i j : Bool} : decide (V.bl i = V.bl j) = decide (i = j) := by
  by_cases h : i = j
  · rw [decide_eq_true h, decide_eq_true (congrArg V.bl h)]
  · rw [decide_eq_false h, decide_eq_false (fun e => h (V.bl.inj e))]
theorem ev_eqI (ha : Ev ta σ G i) (hb : Ev tb σ G j) : Ev (tOp rEq ta tb) σ G (decide (i = j)) :=
  ev2 ha hb fun v u G' _ k1 k2 H h Q q => by
    cases k1; cases k2
    exact ⟨rfl, q _ G' H (Gr.refl h) (by rw [v_int_eq]; rfl)⟩
theorem ev_neI (ha : Ev ta σ G i) (hb : Ev tb σ G j) : Ev (tOp rNe ta tb) σ G (!decide (i = j)) :=
  ev2 ha hb fun v u G' _ k1 k2 H h Q q => by
    cases k1; cases k2
    exact ⟨rfl, q _ G' H (Gr.refl h) (by rw [v_int_eq]; rfl)⟩
theorem ev_eqS {i j : Str} (ha : Ev ta σ G i) (hb : Ev tb σ G j) : Ev (tOp rEq ta tb) σ G (decide (i = j)) :=
  ev2 ha hb fun v u G' _ k1 k2 H h Q q => by
    cases k1; cases k2
    exact ⟨rfl, q _ G' H (Gr.refl h) (by rw [v_str_eq]; rfl)⟩
theorem ev_neS {i j : Str} (ha : Ev ta σ G i) (hb : Ev tb σ G j) : Ev (tOp rNe ta tb) σ G (!decide (i = j)) :=
  ev2 ha hb fun v u G' _ k1 k2 H h Q q => by
    cases k1; cases k2
    exact ⟨rfl, q _ G' H (Gr.refl h) (by rw [v_str_eq]; rfl)⟩
theorem ev_eqB {i j : Bool} (ha : Ev ta σ G i) (hb : Ev tb σ G j) : Ev (tOp rEq ta tb) σ G (decide (i = j)) :=
  ev2 ha hb fun v u G' _ k1 k2 H h Q q => by
    cases k1; cases k2
    exact ⟨rfl, q _ G' H (Gr.refl h) (by rw [v_bl_eq]; rfl)⟩
theorem ev_neB {i j : Bool} (ha : Ev ta σ G i) (hb : Ev tb σ G j) : Ev (tOp rNe ta tb) σ G (!decide (i = j)) :=
  ev2 ha hb fun v u G' _ k1 k2 H h Q q => by
    cases k1; cases k2
    exact ⟨rfl, q _ G' H (Gr.refl h) (by rw [v_bl_eq]; rfl)⟩
theorem ev_neg (ha : Ev ta σ G i) : Ev (tUn (rU fun i => .int (-i)) ta) σ G (-i) := fun H h Q q => ha H h _ fun v G' H' g k => ⟨i, k, q _ G' H' g rfl⟩
/-! tests -/
theorem et_test {b : Bool} (h : Ev te σ G b) : EvT (tTest te) σ G b := fun H i Q q => h H i _ fun v G' H' g k => ⟨b, k, q G' H' g⟩
theorem et_B {b : Bool} (h : Ev te σ G b) : EvT (tB te) σ G b := fun H i Q q => h H i _ fun v G' H' g k => ⟨b, k, q G' H' g⟩
theorem et_yes : EvT tYes σ G true := fun H i Q q => q G H (Gr.refl i)
theorem et_not {b : Bool} (h : EvT tt σ G b) : EvT (tNot tt) σ G (!b) := fun H i Q q => h H i _ fun G' H' g => q G' H' g
theorem et_and {a b : Bool} (h1 : EvT tt σ G a) (h2 : a = true → EvT tu σ G b) : EvT (tAnd tt tu) σ G (a && b) := fun H i Q q => h1 H i _ fun G1 H1 g1 => by
  cases a with
  | true =>
    show tu σ H1 Q
    exact ((h2 rfl).mono g1.g) H1 g1.i Q fun G2 H2 g2 => q G2 H2 (g1.trans g2)
  | false =>
    show Q false H1
    exact q G1 H1 g1
theorem et_or {a b : Bool} (h1 : EvT tt σ G a) (h2 : a = false → EvT tu σ G b) : EvT (tOr tt tu) σ G (a || b) := fun H i Q q => h1 H i _ fun G1 H1 g1 => by
  cases a with
  | false =>
    show tu σ H1 Q
    exact ((h2 rfl).mono g1.g) H1 g1.i Q fun G2 H2 g2 => q G2 H2 (g1.trans g2)
  | true =>
    show Q true H1
    exact q G1 H1 g1
theorem ev_andV {a b : Bool} (h1 : Ev ta σ G a) (h2 : a = true → Ev tb σ G b) : Ev (tAndV ta tb) σ G (a && b) := fun H i Q q => h1 H i _ fun v G1 H1 g1 k1 => ⟨a, k1, by
  cases a with
  | true =>
    show tb σ H1 Q
    exact ((h2 rfl).mono g1.g) H1 g1.i Q fun v G2 H2 g2 k2 => q v G2 H2 (g1.trans g2) k2
  | false =>
    show Q (.bl false) H1
    exact q _ G1 H1 g1 rfl⟩
theorem ev_orV {a b : Bool} (h1 : Ev ta σ G a) (h2 : a = false → Ev tb σ G b) : Ev (tOrV ta tb) σ G (a || b) := fun H i Q q => h1 H i _ fun v G1 H1 g1 k1 => ⟨a, k1, by
  cases a with
  | false =>
    show tb σ H1 Q
    exact ((h2 rfl).mono g1.g) H1 g1.i Q fun v G2 H2 g2 k2 => q v G2 H2 (g1.trans g2) k2
  | true =>
    show Q (.bl true) H1
    exact q _ G1 H1 g1 rfl⟩
theorem ev_notV {a : Bool} (h1 : Ev ta σ G a) : Ev (tNotV ta) σ G (!a) := fun H i Q q => h1 H i _ fun v G1 H1 g1 k1 => ⟨a, k1, q _ G1 H1 g1 rfl⟩
theorem ev_if {b : Bool} {x y : α} (h : EvT tt σ G b) (h1 : b = true → Ev ta σ G x) (h2 : b = false → Ev tb σ G y) : Ev (tIf tt ta tb) σ G (if b = true then x else y) := fun H i Q q => h H i _ fun G1 H1 g1 => by
  cases b with
  | true =>
    show ta σ H1 Q
    exact ((h1 rfl).mono g1.g) H1 g1.i Q fun v G2 H2 g2 k2 => q v G2 H2 (g1.trans g2) k2
  | false =>
    show tb σ H1 Q
    exact ((h2 rfl).mono g1.g) H1 g1.i Q fun v G2 H2 g2 k2 => q v G2 H2 (g1.trans g2) k2
/-! a < b < c -/
theorem ev_chain {a b : Bool} (ha : Ev ta σ G x) (hb : Ev tb σ G y) (hc : a = true → Ev tc σ G z)
    (hr : ∀ v u G', Same G G' → rep G' v x → rep G' u y → Ev2 r v u G' a) (hr' : ∀ u w G', Same G G' → rep G' u y → rep G' w z → Ev2 r' u w G' b) : Ev (tChain r r' ta tb tc) σ G (a && b) := fun H i Q q =>
  ha H i _ fun v G1 H1 g1 k1 => (hb.mono g1.g) H1 g1.i _ fun u G2 H2 g2 k2 => hr v u G2 (g1.g.trans g2.g) (Rep.mono g2.g k1) k2 H2 g2.i _ fun w G3 H3 g3 k3 => ⟨a, k3, by
    have g13 := (g1.trans g2).trans g3
    cases a with
    | true =>
      show tc σ H3 _
      exact ((hc rfl).mono g13.g) H3 g3.i _ fun w4 G4 H4 g4 k4 => hr' u w4 G4 (g13.g.trans g4.g) (Rep.mono (g3.g.trans g4.g) k2) k4 H4 g4.i Q fun w5 G5 H5 g5 k5 => q w5 G5 H5 ((g13.trans g4).trans g5) k5
    | false =>
      show Q (.bl false) H3
      exact q _ G3 H3 g13 rfl⟩
theorem r_I0 {g : Int → Int → V} {i j : Int} (hz : ∀ G', rep G' (g i j) z) : ∀ v u G', Same G G' → rep G' v i → rep G' u j → Ev2 (rI0 g) v u G' z := fun v u G' _ k1 k2 H h Q q => ⟨i, j, k1, k2, q _ G' H (Gr.refl h) (hz G')⟩
theorem r_lt : ∀ v u G', Same G G' → rep G' v i → rep G' u j → Ev2 (rI0 fun i j => .bl (decide (i < j))) v u G' (decide (i < j)) := r_I0 fun _ => rfl
theorem r_le : ∀ v u G', Same G G' → rep G' v i → rep G' u j → Ev2 (rI0 fun i j => .bl (decide (i ≤ j))) v u G' (decide (i ≤ j)) := r_I0 fun _ => rfl
/-! displays -/
theorem evs_nil : EvAs (α := α) tNil σ G [] := fun H i Q q => q [] G H (Gr.refl i) .nil
theorem evs_cons {tr : TA} {xs : List α} (ha : Ev ta σ G x) (hr : EvAs tr σ G xs) : EvAs (tCons ta tr) σ G (x :: xs) := fun H i Q q =>
  ha H i _ fun v G1 H1 g1 k1 => (hr.mono g1.g) H1 g1.i _ fun vs G2 H2 g2 k2 => q _ G2 H2 (g1.trans g2) (.cons (Rep.mono g2.g k1) k2)
/-- a new object that stays still -/
theorem gr_new {G H : Hp} {p : Addr} {o : HO} (i : Same G H) (np : H p = none) (nt : ∀ ps, o ≠ .tbl ps := by intro _ h; cases h) : Gr M0 G H (upd G p o) (upd H p o) :=
  ⟨fun a u e => by rw [upd_ne (fun z => by subst z; rw [i _ _ e] at np; cases np)]; exact e,
   fun a u e => by
     by_cases h : a = p
     · subst h; rw [upd_same] at e ⊢; exact e
     · rw [upd_ne h] at e ⊢; exact i a u e,
   SB.of fun a u e => by rw [upd_ne (ne_of_none e np)]; exact e,
   fun a u e => by
     by_cases h : a = p
     · subst h; rw [upd_same] at e; cases e; exact .inr ⟨.inl np, nt⟩
     · rw [upd_ne h] at e; exact .inl e⟩
theorem sl_small {n : Nat} (h : n ≤ 100000) : n ≤ sizeLine := Nat.le_trans h (by decide)
theorem sl_lt {n : Nat} (h : n < 100000) : n < sizeLine := Nat.lt_of_lt_of_le h (by decide)
theorem ev_lst {tr : TA} {xs : List α} (h : EvAs tr σ G xs) (hl : xs.length ≤ 100000) : Ev (tLst tr) σ G xs := fun H i Q q =>
  h H i _ fun vs G1 H1 g1 k1 => ⟨by rw [paired_len k1]; exact sl_small hl, fun p np => q _ (upd G1 p (.lst vs)) _ (g1.trans (gr_new g1.i np)) ⟨p, vs, rfl, upd_same, paired_mono (gr_new (o := .lst vs) g1.i np).g k1⟩⟩
theorem ev_tupn {tr : TA} {xs : List α} (h : EvAs tr σ G xs) (hl : xs.length ≤ 100000) : Ev (tTup tr) σ G (Tup.mk xs) := fun H i Q q =>
  h H i _ fun vs G1 H1 g1 k1 => ⟨by rw [paired_len k1]; exact sl_small hl, fun p np => q _ (upd G1 p (.tup vs)) _ (g1.trans (gr_new g1.i np)) ⟨p, vs, rfl, upd_same, paired_mono (gr_new (o := .tup vs) g1.i np).g k1⟩⟩
theorem ev_tup2 (ha : Ev ta σ G x) (hb : Ev tb σ G y) : Ev (tTup (tCons ta (tCons tb tNil))) σ G (x, y) := fun H i Q q =>
  ha H i _ fun v G1 H1 g1 k1 => (hb.mono g1.g) H1 g1.i _ fun u G2 H2 g2 k2 => ⟨by show 2 ≤ sizeLine; decide, fun p np =>
    q _ (upd G2 p (.tup [v, u])) _ ((g1.trans g2).trans (gr_new g2.i np)) ⟨p, v, u, rfl, upd_same, Rep.mono (g2.g.trans (gr_new g2.i np).g) k1, Rep.mono (gr_new g2.i np).g k2⟩⟩
theorem ev_tup3 (ha : Ev ta σ G x) (hb : Ev tb σ G y) (hc : Ev tc σ G z) : Ev (tTup (tCons ta (tCons tb (tCons tc tNil)))) σ G (Tri.mk x y z) := fun H i Q q =>
  ha H i _ fun v G1 H1 g1 k1 => (hb.mono g1.g) H1 g1.i _ fun u G2 H2 g2 k2 => (hc.mono (g1.g.trans g2.g)) H2 g2.i _ fun w G3 H3 g3 k3 => ⟨by show 3 ≤ sizeLine; decide, fun p np =>
    q _ (upd G3 p (.tup [v, u, w])) _ (((g1.trans g2).trans g3).trans (gr_new g3.i np)) ⟨p, v, u, w, rfl, upd_same, Rep.mono (g2.g.trans (g3.g.trans (gr_new g3.i np).g)) k1, Rep.mono (g3.g.trans (gr_new g3.i np).g) k2, Rep.mono (gr_new g3.i np).g k3⟩⟩
end
end Pf

namespace Pf
open PySem PySem.Spec PyProof.Rows L2

/-! ### changes of what is not still -/
theorem Gr.mut {M : Addr → Prop} {Ge He G H : Hp} {p : Addr} {o : HO} (x : Gr M Ge He G H) (hp : He p = none ∨ M p) (hg : G p = none) : Gr M Ge He G (upd H p o) :=
  ⟨x.g, fun a u e => by rw [upd_ne (ne_of_none e hg)]; exact x.i a u e,
   fun a u m e => by
     have ne : a ≠ p := fun z => by
       subst z
       rcases hp with h | h
       · rw [h] at e; cases e
       · exact m h
     rw [upd_ne ne]; exact x.h a u m e, x.n⟩
theorem same_mut {G H : Hp} {p : Addr} {o : HO} (i : Same G H) (hg : G p = none) : Same G (upd H p o) := fun a u e => by rw [upd_ne (ne_of_none e hg)]; exact i a u e
theorem same_new {H : Hp} {p : Addr} (h : H p = none) {o : HO} : Same H (upd H p o) := fun b u q => by rw [upd_ne (ne_of_none q h)]; exact q
/-- what stands outside becomes still -/
theorem Gr.still {M : Addr → Prop} {Ge He G H : Hp} {p : Addr} {o : HO} (x : Gr M Ge He G H) (hp : He p = none) (hg : G p = none) (hh : H p = some o) (nt : ∀ ps, o ≠ .tbl ps := by intro _ h; cases h) : Gr M Ge He (upd G p o) H :=
  ⟨x.g.trans (same_new hg), fun a u e => by
     by_cases h : a = p
     · subst h; rw [upd_same] at e; cases e; exact hh
     · rw [upd_ne h] at e; exact x.i a u e,
   x.h, fun a u e => by
     by_cases h : a = p
     · subst h; rw [upd_same] at e; cases e; exact .inr ⟨.inl hp, nt⟩
     · rw [upd_ne h] at e; exact x.n a u e⟩
theorem same_still {G H : Hp} {p : Addr} {o : HO} (i : Same G H) (hh : H p = some o) : Same (upd G p o) H := fun a u e => by
  by_cases h : a = p
  · subst h; rw [upd_same] at e; cases e; exact hh
  · rw [upd_ne h] at e; exact i a u e
/-- kinds whose values do not lean on the heap -/
class Flat (α : Type) [Rep α] : Prop where
  any : ∀ {G G' : Hp} {v : V} {x : α}, rep G v x → rep G' v x
instance : Flat Int := ⟨fun h => h⟩
instance : Flat Bool := ⟨fun h => h⟩
instance : Flat Str := ⟨fun h => h⟩
instance : Flat Unit := ⟨fun h => h⟩
section
variable {α β γ δ ε ζ : Type} [Rep α] [Rep β] [Rep γ] [Rep δ] [Rep ε] [Rep ζ]
/-- a list that is still being made -/
def Ml (G H : Hp) (p : Addr) (xs : List α) : Prop := G p = none ∧ ∃ vs, H p = some (.lst vs) ∧ Paired (rep G) vs xs
theorem Ml.step {M : Addr → Prop} {G H G' H' : Hp} {p : Addr} {xs : List α} (m : Ml G H p xs) (g : Gr M G H G' H') (hp : ¬ M p) : Ml G' H' p xs := by
  obtain ⟨h1, vs, h2, h3⟩ := m
  exact ⟨g.out h1 h2, vs, g.h p _ hp h2, paired_mono g.g h3⟩
theorem Ml.step0 {G H G' H' : Hp} {p : Addr} {xs : List α} (m : Ml G H p xs) (g : Gr M0 G H G' H') : Ml G' H' p xs := m.step g (fun z => z)
theorem Ml.other {G H : Hp} {p q : Addr} {o : HO} {xs : List α} (m : Ml G H p xs) (ne : p ≠ q) : Ml G (upd H q o) p xs := by
  obtain ⟨h1, vs, h2, h3⟩ := m
  exact ⟨h1, vs, by rw [upd_ne ne]; exact h2, h3⟩
theorem Ml.sq {K : Fg} {G H : Hp} {p : Addr} {xs : List α} (m : Ml G H p xs) : ∃ vs, SqL K H p vs := by
  obtain ⟨_, vs, h, _⟩ := m
  exact ⟨vs, .inl (.inl h)⟩

def EvG (te : TE) (σ : L2.St) (G : Hp) (x : α) : Prop := Ev te σ G x
variable {σ : L2.St} {G H G1 H1 : Hp} {te ta tb tc td tf : TE} {tt tu : TT} {x : α} {y : β} {z : γ} {r r' : R2} {K : Fg}
/-- an expression of a flat kind, over a heap of which more is taken as still -/
theorem Ev.flat [Flat α] {Q : VK} (h : Ev te σ G1 x) (i : Same G1 H) (g : Same G H) (k : ∀ v H', Gr M0 G H G H' → Same H H' → rep G v x → Q v H') : te σ H Q :=
  h H i Q fun v G' H' g' r => k v H' ⟨Same.refl G, g.trans g'.same, g'.h, fun _ _ e => .inl e⟩ g'.same (Flat.any r)
theorem EvT.flat {b : Bool} {Q : Bool → Hp → Prop} (h : EvT tt σ G1 b) (i : Same G1 H) (g : Same G H) (k : ∀ H', Gr M0 G H G H' → Same H H' → Q b H') : tt σ H Q :=
  h H i Q fun G' H' g' => k H' ⟨Same.refl G, g.trans g'.same, g'.h, fun _ _ e => .inl e⟩ g'.same
theorem Ml.rep {p : Addr} {xs : List α} (m : Ml G H p xs) (i : Same G H) : ∃ o, H p = some o ∧ Same G (upd G p o) ∧ Same (upd G p o) H ∧ Pf.rep (upd G p o) (.ref p) xs := by
  obtain ⟨h1, vs, h2, h3⟩ := m
  exact ⟨_, h2, same_new h1, same_still i h2, p, vs, rfl, upd_same, paired_mono (same_new h1) h3⟩

/-! ### subscripts, len -/
def ix [Inhabited α] (xs : List α) (i : Int) : α := (xs[i.toNat]?).getD default
theorem ix_nat [Inhabited α] {xs : List α} {n : Nat} {v : α} (h : xs[n]? = some v) : ix xs (n : Int) = v := by unfold ix; rw [Int.toNat_natCast, h]; rfl
theorem at_ix [Inhabited α] {vs : List V} {xs : List α} {i : Int} (p : Paired (Pf.rep G) vs xs) (h : 0 ≤ i ∧ i < xs.length) : ∃ v, atI vs i = some v ∧ Pf.rep G v (ix xs i) := by
  have hi : i.toNat < xs.length := by omega
  obtain ⟨v, h1, h2⟩ := paired_get p (List.getElem?_eq_getElem hi)
  refine ⟨v, ?_, ?_⟩
  · have e : i = ((i.toNat : Nat) : Int) := by omega
    rw [e]; exact atI_nat h1
  · unfold ix; rw [List.getElem?_eq_getElem hi]; exact h2
theorem ev_ixL [Inhabited α] {xs : List α} {i : Int} (ha : Ev ta σ G xs) (hb : Ev tb σ G i) (h : 0 ≤ i ∧ i < xs.length) : Ev (tOp (rIxL K) ta tb) σ G (ix xs i) :=
  ev2 ha hb fun v u G' _ k1 k2 H hh Q q => by
    obtain ⟨a, vs, rfl, h2, h3⟩ := k1
    cases k2
    obtain ⟨w, e1, e2⟩ := at_ix h3 h
    exact ⟨a, vs, i, w, rfl, rfl, .inl (.inl (hh _ _ h2)), e1, q w G' H (Gr.refl hh) e2⟩
theorem ev_ixT [Inhabited α] {xs : Tup α} {i : Int} (ha : Ev ta σ G xs) (hb : Ev tb σ G i) (h : 0 ≤ i ∧ i < xs.l.length) : Ev (tOp (rIxT K) ta tb) σ G (ix xs.l i) :=
  ev2 ha hb fun v u G' _ k1 k2 H hh Q q => by
    obtain ⟨a, vs, rfl, h2, h3⟩ := k1
    cases k2
    obtain ⟨w, e1, e2⟩ := at_ix h3 h
    exact ⟨a, vs, i, w, rfl, rfl, .inl (.inl (hh _ _ h2)), e1, q w G' H (Gr.refl hh) e2⟩
theorem ev_ixLast [Inhabited α] {xs : List α} (ha : Ev ta σ G xs) (hb : Ev tb σ G (-1 : Int)) (h : xs ≠ []) : Ev (tOp (rIxL K) ta tb) σ G (xs.getLastD default) :=
  ev2 ha hb fun v u G' _ k1 k2 H hh Q q => by
    obtain ⟨a, vs, rfl, h2, h3⟩ := k1
    cases k2
    have hl := paired_len h3
    have hx : xs.length ≠ 0 := fun e => h (List.length_eq_zero_iff.mp e)
    obtain ⟨w, e1, e2⟩ := paired_get h3 (i := xs.length - 1) (List.getElem?_eq_getElem (by omega))
    refine ⟨a, vs, -1, w, rfl, rfl, .inl (.inl (hh _ _ h2)), ?_, q w G' H (Gr.refl hh) ?_⟩
    · unfold atI ixN
      rw [if_neg (by decide), if_pos (by omega)]
      show vs[((-1 : Int) + vs.length).toNat]? = some w
      rw [show ((-1 : Int) + vs.length).toNat = xs.length - 1 by omega]
      exact e1
    · have e3 : xs.getLastD default = xs[xs.length - 1] := by
        rw [List.getLastD_eq_getLast?, List.getLast?_eq_getElem?, List.getElem?_eq_getElem (by omega)]
        rfl
      rw [e3]; exact e2
theorem ev_fst {x : α × β} (ha : Ev ta σ G x) : Ev (tOp (rIxT K) ta (tC (.int 0))) σ G x.1 := fun H i Q q => ha H i _ fun v G1 H1 g1 k1 => by
  obtain ⟨a, u, w, rfl, h2, h3, h4⟩ := k1
  exact ⟨a, [u, w], 0, u, rfl, rfl, .inl (.inl (g1.i _ _ h2)), rfl, q u G1 H1 g1 h3⟩
theorem ev_snd {x : α × β} (ha : Ev ta σ G x) : Ev (tOp (rIxT K) ta (tC (.int 1))) σ G x.2 := fun H i Q q => ha H i _ fun v G1 H1 g1 k1 => by
  obtain ⟨a, u, w, rfl, h2, h3, h4⟩ := k1
  exact ⟨a, [u, w], 1, w, rfl, rfl, .inl (.inl (g1.i _ _ h2)), rfl, q w G1 H1 g1 h4⟩
theorem ev_t0 {x : Tri α β γ} (ha : Ev ta σ G x) : Ev (tOp (rIxT K) ta (tC (.int 0))) σ G x.a := fun H i Q q => ha H i _ fun v G1 H1 g1 k1 => by
  obtain ⟨a, u, w, z, rfl, h2, h3, h4, h5⟩ := k1
  exact ⟨a, [u, w, z], 0, u, rfl, rfl, .inl (.inl (g1.i _ _ h2)), rfl, q u G1 H1 g1 h3⟩
theorem ev_t1 {x : Tri α β γ} (ha : Ev ta σ G x) : Ev (tOp (rIxT K) ta (tC (.int 1))) σ G x.b := fun H i Q q => ha H i _ fun v G1 H1 g1 k1 => by
  obtain ⟨a, u, w, z, rfl, h2, h3, h4, h5⟩ := k1
  exact ⟨a, [u, w, z], 1, w, rfl, rfl, .inl (.inl (g1.i _ _ h2)), rfl, q w G1 H1 g1 h4⟩
theorem ev_t2 {x : Tri α β γ} (ha : Ev ta σ G x) : Ev (tOp (rIxT K) ta (tC (.int 2))) σ G x.c := fun H i Q q => ha H i _ fun v G1 H1 g1 k1 => by
  obtain ⟨a, u, w, z, rfl, h2, h3, h4, h5⟩ := k1
  exact ⟨a, [u, w, z], 2, z, rfl, rfl, .inl (.inl (g1.i _ _ h2)), rfl, q z G1 H1 g1 h5⟩
/-- a built-in of one argument, of two -/
theorem ev_B1 {r : List V → Hp → VK → Prop} (ha : Ev ta σ G x) (hr : ∀ v G' H, Same G G' → Same G' H → rep G' v x → ∀ Q : VK, (∀ w G2 H2, Gr M0 G' H G2 H2 → rep G2 w y → Q w H2) → r [v] H Q) : Ev (tCB r (tCons ta tNil)) σ G y := fun H i Q q =>
  ha H i _ fun v G1 H1 g1 k1 => hr v G1 H1 g1.g g1.i k1 Q fun w G2 H2 g2 k2 => q w G2 H2 (g1.trans g2) k2
theorem ev_B2 {r : List V → Hp → VK → Prop} (ha : Ev ta σ G x) (hb : Ev tb σ G y) (hr : ∀ v u G' H, Same G G' → Same G' H → rep G' v x → rep G' u y → ∀ Q : VK, (∀ w G2 H2, Gr M0 G' H G2 H2 → rep G2 w z → Q w H2) → r [v, u] H Q) : Ev (tCB r (tCons ta (tCons tb tNil))) σ G z := fun H i Q q =>
  ha H i _ fun v G1 H1 g1 k1 => (hb.mono g1.g) H1 g1.i _ fun u G2 H2 g2 k2 => hr v u G2 H2 (g1.g.trans g2.g) g2.i (Rep.mono g2.g k1) k2 Q fun w G3 H3 g3 k3 => q w G3 H3 ((g1.trans g2).trans g3) k3
abbrev rLen (K : Fg) : List V → Hp → VK → Prop := fun xs H Q => ∃ p ys, xs = [.ref p] ∧ (SqL K H p ys ∨ SqT K H p ys) ∧ Q (.int ys.length) H
theorem ev_lenL {xs : List α} (ha : Ev ta σ G xs) : Ev (tCB (rLen K) (tCons ta tNil)) σ G (xs.length : Int) := ev_B1 ha fun v G' H _ i k Q q => by
  obtain ⟨a, vs, rfl, h2, h3⟩ := k
  exact ⟨a, vs, rfl, .inl (.inl (.inl (i _ _ h2))), q _ G' H (Gr.refl i) (by rw [paired_len h3]; rfl)⟩
theorem ev_lenT {xs : Tup α} (ha : Ev ta σ G xs) : Ev (tCB (rLen K) (tCons ta tNil)) σ G (xs.l.length : Int) := ev_B1 ha fun v G' H _ i k Q q => by
  obtain ⟨a, vs, rfl, h2, h3⟩ := k
  exact ⟨a, vs, rfl, .inr (.inl (.inl (i _ _ h2))), q _ G' H (Gr.refl i) (by rw [paired_len h3]; rfl)⟩
theorem ev_sum {xs : List Int} (ha : Ev ta σ G xs) : Ev (tCB (rSum K) (tCons ta tNil)) σ G xs.sum := ev_B1 ha fun v G' H _ i k Q q => by
  obtain ⟨a, vs, rfl, h2, h3⟩ := k
  exact ⟨a, xs, rfl, .inl (.inl (by rw [← paired_ints h3]; exact i _ _ h2)), q _ G' H (Gr.refl i) rfl⟩
theorem ev_all {xs : List Bool} (ha : Ev ta σ G xs) : Ev (tCB (rAll K) (tCons ta tNil)) σ G (xs.all id) := ev_B1 ha fun v G' H _ i k Q q => by
  obtain ⟨a, vs, rfl, h2, h3⟩ := k
  exact ⟨a, xs, rfl, .inl (.inl (by rw [← paired_bls h3]; exact i _ _ h2)), q _ G' H (Gr.refl i) rfl⟩
theorem ev_any {xs : List Bool} (ha : Ev ta σ G xs) : Ev (tCB (rAny K) (tCons ta tNil)) σ G (xs.any id) := ev_B1 ha fun v G' H _ i k Q q => by
  obtain ⟨a, vs, rfl, h2, h3⟩ := k
  exact ⟨a, xs, rfl, .inl (.inl (by rw [← paired_bls h3]; exact i _ _ h2)), q _ G' H (Gr.refl i) rfl⟩
abbrev rAbs : List V → Hp → VK → Prop := fun xs H Q => ∃ i, xs = [.int i] ∧ Q (.int (if i < 0 then -i else i)) H
abbrev rMax2 : List V → Hp → VK → Prop := fun xs H Q => ∃ i j, xs = [.int i, .int j] ∧ Q (.int (if j > i then j else i)) H
abbrev rMin2 : List V → Hp → VK → Prop := fun xs H Q => ∃ i j, xs = [.int i, .int j] ∧ Q (.int (if j < i then j else i)) H
abbrev rInt1 : List V → Hp → VK → Prop := fun xs H Q => (∃ i, xs = [.int i] ∧ Q (.int i) H) ∨ ∃ k, xs = [.bl k] ∧ Q (.int (if k then 1 else 0)) H
theorem ev_abs {i : Int} (ha : Ev ta σ G i) : Ev (tCB rAbs (tCons ta tNil)) σ G (if i < 0 then -i else i) := ev_B1 ha fun v G' H _ h k Q q => ⟨i, by rw [rep_int k], q _ G' H (Gr.refl h) rfl⟩
theorem ev_max2 {i j : Int} (ha : Ev ta σ G i) (hb : Ev tb σ G j) : Ev (tCB rMax2 (tCons ta (tCons tb tNil))) σ G (if j > i then j else i) := ev_B2 ha hb fun v u G' H _ h k1 k2 Q q => ⟨i, j, by rw [rep_int k1, rep_int k2], q _ G' H (Gr.refl h) rfl⟩
theorem ev_min2 {i j : Int} (ha : Ev ta σ G i) (hb : Ev tb σ G j) : Ev (tCB rMin2 (tCons ta (tCons tb tNil))) σ G (if j < i then j else i) := ev_B2 ha hb fun v u G' H _ h k1 k2 Q q => ⟨i, j, by rw [rep_int k1, rep_int k2], q _ G' H (Gr.refl h) rfl⟩
theorem ev_intB {b : Bool} (ha : Ev ta σ G b) : Ev (tCB rInt1 (tCons ta tNil)) σ G (if b = true then (1 : Int) else 0) := ev_B1 ha fun v G' H _ h k Q q => .inr ⟨b, by rw [rep_bl k], q _ G' H (Gr.refl h) rfl⟩
abbrev rTupOf (K : Fg) : List V → Hp → VK → Prop := fun xs H Q => ∃ p ys, xs = [.ref p] ∧ ((SqL K H p ys ∧ ∀ l, H l = none → Q (.ref l) (upd H l (.tup ys))) ∨ (SqT K H p ys ∧ Q (.ref p) H))
abbrev rListOf (K : Fg) : List V → Hp → VK → Prop := fun xs H Q => ∃ p ys, xs = [.ref p] ∧ (SqL K H p ys ∨ SqT K H p ys) ∧ ∀ l, H l = none → Q (.ref l) (upd H l (.lst ys))
theorem ev_tupleL {xs : List α} (ha : Ev ta σ G xs) : Ev (tCB (rTupOf K) (tCons ta tNil)) σ G (Tup.mk xs) := ev_B1 ha fun v G' H _ i k Q q => by
  obtain ⟨a, vs, rfl, h2, h3⟩ := k
  exact ⟨a, vs, rfl, .inl ⟨.inl (.inl (i _ _ h2)), fun l nl => q _ (upd G' l (.tup vs)) _ (gr_new i nl) ⟨l, vs, rfl, upd_same, paired_mono (gr_new (o := .tup vs) i nl).g h3⟩⟩⟩
theorem ev_listT {xs : Tup α} (ha : Ev ta σ G xs) : Ev (tCB (rListOf K) (tCons ta tNil)) σ G xs.l := ev_B1 ha fun v G' H _ i k Q q => by
  obtain ⟨a, vs, rfl, h2, h3⟩ := k
  exact ⟨a, vs, rfl, .inr (.inl (.inl (i _ _ h2))), fun l nl => q _ (upd G' l (.lst vs)) _ (gr_new i nl) ⟨l, vs, rfl, upd_same, paired_mono (gr_new (o := .lst vs) i nl).g h3⟩⟩
theorem ev_catL {xs ys : List α} (ha : Ev ta σ G xs) (hb : Ev tb σ G ys) (hl : xs.length + ys.length ≤ 100000) : Ev (tOp rCat ta tb) σ G (xs ++ ys) :=
  ev2 ha hb fun v u G' _ k1 k2 H i Q q => by
    obtain ⟨a, vs, rfl, h2, h3⟩ := k1
    obtain ⟨b, us, rfl, h4, h5⟩ := k2
    exact ⟨a, b, vs, us, rfl, rfl, i _ _ h2, i _ _ h4, by rw [paired_len h3, paired_len h5]; exact sl_small hl, fun p np => q _ (upd G' p (.lst (vs ++ us))) _ (gr_new i np) ⟨p, _, rfl, upd_same, paired_mono (gr_new (o := .lst (vs ++ us)) i np).g (paired_app h3 h5)⟩⟩

/-! ### calls -/
def sp1 (pre : α → Prop) (f : α → β) : Sp := fun vs H Q _ => ∃ v x G, vs = [v] ∧ Same G H ∧ rep G v x ∧ pre x ∧ ∀ w G' H', Gr M0 G H G' H' → rep G' w (f x) → Q w H'
def sp2 (pre : α → β → Prop) (f : α → β → γ) : Sp := fun vs H Q _ => ∃ v x v2 x2 G, vs = [v, v2] ∧ Same G H ∧ rep G v x ∧ rep G v2 x2 ∧ pre x x2 ∧ ∀ w G' H', Gr M0 G H G' H' → rep G' w (f x x2) → Q w H'
def sp3 (pre : α → β → γ → Prop) (f : α → β → γ → δ) : Sp := fun vs H Q _ => ∃ v x v2 x2 v3 x3 G, vs = [v, v2, v3] ∧ Same G H ∧ rep G v x ∧ rep G v2 x2 ∧ rep G v3 x3 ∧ pre x x2 x3 ∧ ∀ w G' H', Gr M0 G H G' H' → rep G' w (f x x2 x3) → Q w H'
def sp4 (pre : α → β → γ → δ → Prop) (f : α → β → γ → δ → ε) : Sp := fun vs H Q _ => ∃ v x v2 x2 v3 x3 v4 x4 G, vs = [v, v2, v3, v4] ∧ Same G H ∧ rep G v x ∧ rep G v2 x2 ∧ rep G v3 x3 ∧ rep G v4 x4 ∧ pre x x2 x3 x4 ∧ ∀ w G' H', Gr M0 G H G' H' → rep G' w (f x x2 x3 x4) → Q w H'
def sp5 (pre : α → β → γ → δ → ε → Prop) (f : α → β → γ → δ → ε → ζ) : Sp := fun vs H Q _ => ∃ v x v2 x2 v3 x3 v4 x4 v5 x5 G, vs = [v, v2, v3, v4, v5] ∧ Same G H ∧ rep G v x ∧ rep G v2 x2 ∧ rep G v3 x3 ∧ rep G v4 x4 ∧ rep G v5 x5 ∧ pre x x2 x3 x4 x5 ∧ ∀ w G' H', Gr M0 G H G' H' → rep G' w (f x x2 x3 x4 x5) → Q w H'
variable {x2 : β} {x3 : γ} {x4 : δ} {x5 : ε}
theorem ev_call1 {pre : α → Prop} {f : α → β} (ha : Ev ta σ G x) (hp : pre x) : Ev (tCall (sp1 pre f) [] E0 (tCons ta tNil)) σ G (f x) := fun H i Q q =>
  ha H i _ fun v G1 H1 g1 k1 => ⟨v, x, G1, rfl, g1.i, k1, hp, fun w G' H' g k => q w G' H' (g1.trans g) k⟩
theorem ev_call2 {pre : α → β → Prop} {f : α → β → γ} (ha : Ev ta σ G x) (hb : Ev tb σ G x2) (hp : pre x x2) : Ev (tCall (sp2 pre f) [] E0 (tCons ta (tCons tb tNil))) σ G (f x x2) := fun H i Q q =>
  ha H i _ fun v G1 H1 g1 k1 => (hb.mono g1.g) H1 g1.i _ fun v2 G2 H2 g2 k2 => ⟨v, x, v2, x2, G2, rfl, g2.i, Rep.mono g2.g k1, k2, hp, fun w G' H' g k => q w G' H' ((g1.trans g2).trans g) k⟩
theorem ev_call3 {pre : α → β → γ → Prop} {f : α → β → γ → δ} (ha : Ev ta σ G x) (hb : Ev tb σ G x2) (hc : Ev tc σ G x3) (hp : pre x x2 x3) : Ev (tCall (sp3 pre f) [] E0 (tCons ta (tCons tb (tCons tc tNil)))) σ G (f x x2 x3) := fun H i Q q =>
  ha H i _ fun v G1 H1 g1 k1 => (hb.mono g1.g) H1 g1.i _ fun v2 G2 H2 g2 k2 => (hc.mono (g1.g.trans g2.g)) H2 g2.i _ fun v3 G3 H3 g3 k3 =>
    ⟨v, x, v2, x2, v3, x3, G3, rfl, g3.i, Rep.mono (g2.g.trans g3.g) k1, Rep.mono g3.g k2, k3, hp, fun w G' H' g k => q w G' H' (((g1.trans g2).trans g3).trans g) k⟩
theorem ev_call4 {pre : α → β → γ → δ → Prop} {f : α → β → γ → δ → ε} (ha : Ev ta σ G x) (hb : Ev tb σ G x2) (hc : Ev tc σ G x3) (hd : Ev td σ G x4) (hp : pre x x2 x3 x4) : Ev (tCall (sp4 pre f) [] E0 (tCons ta (tCons tb (tCons tc (tCons td tNil))))) σ G (f x x2 x3 x4) := fun H i Q q =>
  ha H i _ fun v G1 H1 g1 k1 => (hb.mono g1.g) H1 g1.i _ fun v2 G2 H2 g2 k2 => (hc.mono (g1.g.trans g2.g)) H2 g2.i _ fun v3 G3 H3 g3 k3 => (hd.mono ((g1.g.trans g2.g).trans g3.g)) H3 g3.i _ fun v4 G4 H4 g4 k4 =>
    ⟨v, x, v2, x2, v3, x3, v4, x4, G4, rfl, g4.i, Rep.mono ((g2.g.trans g3.g).trans g4.g) k1, Rep.mono (g3.g.trans g4.g) k2, Rep.mono g4.g k3, k4, hp, fun w G' H' g k => q w G' H' ((((g1.trans g2).trans g3).trans g4).trans g) k⟩
theorem ev_call5 {pre : α → β → γ → δ → ε → Prop} {f : α → β → γ → δ → ε → ζ} (ha : Ev ta σ G x) (hb : Ev tb σ G x2) (hc : Ev tc σ G x3) (hd : Ev td σ G x4) (he : Ev te σ G x5) (hp : pre x x2 x3 x4 x5) : Ev (tCall (sp5 pre f) [] E0 (tCons ta (tCons tb (tCons tc (tCons td (tCons te tNil)))))) σ G (f x x2 x3 x4 x5) := fun H i Q q =>
  ha H i _ fun v G1 H1 g1 k1 => (hb.mono g1.g) H1 g1.i _ fun v2 G2 H2 g2 k2 => (hc.mono (g1.g.trans g2.g)) H2 g2.i _ fun v3 G3 H3 g3 k3 => (hd.mono ((g1.g.trans g2.g).trans g3.g)) H3 g3.i _ fun v4 G4 H4 g4 k4 => (he.mono (((g1.g.trans g2.g).trans g3.g).trans g4.g)) H4 g4.i _ fun v5 G5 H5 g5 k5 =>
    ⟨v, x, v2, x2, v3, x3, v4, x4, v5, x5, G5, rfl, g5.i, Rep.mono (((g2.g.trans g3.g).trans g4.g).trans g5.g) k1, Rep.mono ((g3.g.trans g4.g).trans g5.g) k2, Rep.mono (g4.g.trans g5.g) k3, Rep.mono g5.g k4, k5, hp, fun w G' H' g k => q w G' H' (((((g1.trans g2).trans g3).trans g4).trans g5).trans g) k⟩
end

/-! ### a def of the text -/
structure Tx (K : Fg) (mg : Str → Option Value) (x : Str) (ps : List Str) (st : Stmt) : Prop where
  ex : ∃ f fd, Fun K x x st f fd ∧ Binds K fd ps [] ∧ mg x = some (.ref f)
structure Df (P : Program) (w : World) (K : Fg) (mg : Str → Option Value) (base : Heap) (k : Nat) (x : Str) (ps : List Str) (sp : Sp) : Prop where
  ex : ∃ f fd, FnOk P w K mg base CX0 k f fd ps sp ∧ Binds K fd ps [] ∧ PySem.W.keepIn K (.ref f) = true ∧ mg x = some (.ref f)
section
variable {P : Program} {w : World} {K : Fg} {mg : Str → Option Value} {base : Heap}
theorem Tx.ok {x : Str} {st : Stmt} {N ps : List Str} {k : Nat} {sp : Sp} (T : Tx K mg x ps st) (S : FnScope N ps (defScope st)) (len : ∀ vs H Q E, sp vs H Q E → vs.length = ps.length)
    (hbody : ∀ (cdv : Value) (f : Addr) (A : Around) (outer : List Env) (s : Shared) (H : Hp) (vs : List V) (Q : VK) (E : XK), Room k (A.deeper (envOfC x (defScope st) s.heap.objs.size f cdv)) → sp vs H Q E →
      ∃ t, PSs (cxOf CX0 P w K mg base N x (defScope st) f cdv A outer s H E).nox (defBody st) t ∧ t { nx := fun _ H' => Q .non H', rt := Q } (start N vs) H) : Df P w K mg base (k + 1) x ps sp := by
  obtain ⟨f, fd, F, b, m⟩ := T.ex
  exact ⟨f, fd, F.ok S len fun cdv A outer s H vs Q E hr h => hbody cdv f A outer s H vs Q E hr h, b, F.kp, m⟩
theorem Df.mono {j k : Nat} {x : Str} {ps : List Str} {sp : Sp} (D : Df P w K mg base j x ps sp) (h : j ≤ k) : Df P w K mg base k x ps sp := by
  obtain ⟨f, fd, F, r⟩ := D.ex
  exact ⟨f, fd, F.mono h, r⟩
theorem Df.imp {k : Nat} {x : Str} {ps : List Str} {sp sp' : Sp} (D : Df P w K mg base k x ps sp) (h : ∀ vs H Q E, sp' vs H Q E → sp vs H Q E) : Df P w K mg base k x ps sp' := by
  obtain ⟨f, fd, F, r⟩ := D.ex
  exact ⟨f, fd, F.imp h, r⟩
theorem pe_df {X : Cx} {j k : Nat} {x : Str} {ps : List Str} {sp : Sp} {p pos : Pos} {e : Expr} {es : List Expr} {t : TA} (D : Df X.prog X.w X.K X.mg X.base j x ps sp) (hr : Room k X.A) (le : j ≤ k) (hg : Gl X x)
    (ha : PA X (e :: es) t) (hdb : (x == ("__debug__" : Str)) = false := by decide) (he : starEach (e :: es) X.env = (false, eval e X.env) :: starEach es X.env := by rfl) (hpl : (backTo pos (starEach es X.env)).any (·.1) = false := by rfl) :
    PE X (.Call (.Name x p) (e :: es) [] pos) (tCall sp [] E0 t) := by
  obtain ⟨f, fd, F, b, kp, m⟩ := D.ex
  exact pe_call F (hr.mono le) hg m kp b .nil pass0 ha hdb he hpl
end
def Bl (mg : Str → Option Value) : Prop := ∀ x ∈ (["len", "range", "sum", "abs", "min", "max", "int", "bool", "str", "list", "tuple", "set", "dict", "sorted", "all", "any", "enumerate", "zip", "reversed", "isinstance", "divmod"] : List Str), mg x = none
end Pf

namespace Pf
open PySem PySem.Spec PyProof.Rows L2
section
variable {α β γ δ : Type} [Rep α] [Rep β] [Rep γ] [Rep δ]
/-! ### what is walked -/
structure ItOk (J : It) (G : Hp) (xs : List α) : Prop where
  go : ∀ k H, Same G H → k < xs.length → J.go k H
  stop : ∀ k H, Same G H → xs.length ≤ k → J.stop k H
  yld : ∀ k H v H' G1 x, Same G G1 → Same G1 H → J.yld k H v H' → xs[k]? = some x → ∃ G2, Gr M0 G1 H G2 H' ∧ rep G2 v x
def EvI (wi : TI) (σ : L2.St) (G : Hp) (xs : List α) : Prop := ∀ H, Same G H → ∀ R : It → Hp → Prop, (∀ J G' H', Gr M0 G H G' H' → ItOk J G' xs → R J H') → wi σ H R
variable {σ : L2.St} {G H G1 H1 : Hp} {te ta tb tc td tf : TE} {tt tu : TT} {x : α} {y : β} {z : γ} {K : Fg}
theorem ei_list {xs : List α} (h : Ev te σ G xs) : EvI (iList K te) σ G xs := fun H i R q => h H i _ fun v G' H' g k => by
  obtain ⟨a, vs, rfl, h2, h3⟩ := k
  refine ⟨a, rfl, ⟨vs, .inl (.inl (g.i _ _ h2))⟩, q _ G' H' g ⟨fun k H s l => ?_, fun k H s l => ?_, fun k H v H' G1 x s1 s2 y e => ?_⟩⟩
  · obtain ⟨v, e, _⟩ := paired_get h3 (List.getElem?_eq_getElem l)
    exact ⟨vs, v, .inl (.inl (s _ _ h2)), e⟩
  · exact ⟨vs, .inl (.inl (s _ _ h2)), by rw [paired_len h3]; exact l⟩
  · obtain ⟨rfl, y⟩ := y
    have e1 := y vs (.inl (.inl (s2 _ _ (s1 _ _ h2))))
    obtain ⟨x', e2, r⟩ := paired_get' h3 e1
    rw [e] at e2
    cases e2
    exact ⟨G1, Gr.refl s2, Rep.mono s1 r⟩
theorem ei_tup {xs : Tup α} (h : Ev te σ G xs) : EvI (iTup K te) σ G xs.l := fun H i R q => h H i _ fun v G' H' g k => by
  obtain ⟨a, vs, rfl, h2, h3⟩ := k
  refine ⟨a, rfl, ⟨vs, .inl (.inl (g.i _ _ h2))⟩, q _ G' H' g ⟨fun k H s l => ?_, fun k H s l => ?_, fun k H v H' G1 x s1 s2 y e => ?_⟩⟩
  · obtain ⟨v, e, _⟩ := paired_get h3 (List.getElem?_eq_getElem l)
    exact ⟨vs, v, .inl (.inl (s _ _ h2)), e⟩
  · exact ⟨vs, .inl (.inl (s _ _ h2)), by rw [paired_len h3]; exact l⟩
  · obtain ⟨rfl, y⟩ := y
    have e1 := y vs (.inl (.inl (s2 _ _ (s1 _ _ h2))))
    obtain ⟨x', e2, r⟩ := paired_get' h3 e1
    rw [e] at e2
    cases e2
    exact ⟨G1, Gr.refl s2, Rep.mono s1 r⟩
/-- lo, lo + 1 .. below hi -/
def rng (lo hi : Int) : List Int := (List.range (hi - lo).toNat).map fun (k : Nat) => lo + (k : Int)
theorem rng_len (lo hi : Int) : (rng lo hi).length = (hi - lo).toNat := by unfold rng; rw [List.length_map, List.length_range]
theorem rng_get {lo hi : Int} {k : Nat} {x : Int} (h : (rng lo hi)[k]? = some x) : x = lo + k ∧ k < (hi - lo).toNat := by
  unfold rng at h
  rw [List.getElem?_map] at h
  by_cases hk : k < (hi - lo).toNat
  · rw [List.getElem?_range hk] at h
    exact ⟨(Option.some.inj h).symm, hk⟩
  · rw [List.getElem?_eq_none (by rw [List.length_range]; omega)] at h
    cases h
theorem rng_at {lo hi : Int} {k : Nat} (h : k < (hi - lo).toNat) : (rng lo hi)[k]? = some (lo + k) := by
  unfold rng
  rw [List.getElem?_map, List.getElem?_range h]
  rfl
theorem rng_mem {lo hi x : Int} : x ∈ rng lo hi ↔ lo ≤ x ∧ x < hi := by
  unfold rng
  rw [List.mem_map]
  constructor
  · rintro ⟨k, hk, rfl⟩
    rw [List.mem_range] at hk
    omega
  · rintro ⟨h1, h2⟩
    exact ⟨(x - lo).toNat, by rw [List.mem_range]; omega, by omega⟩
theorem it_rng {lo hi : Int} {n : Nat} {G' : Hp} (e : n = (hi - lo).toNat) : ItOk (Itr lo n) G' (rng lo hi) := by
  subst e
  refine ⟨fun k H s l => ?_, fun k H s l => ?_, fun k H v H' G1 x s1 s2 y e => ?_⟩
  · rw [rng_len] at l; exact l
  · rw [rng_len] at l; exact l
  · obtain ⟨rfl, rfl⟩ := y
    obtain ⟨rfl, _⟩ := rng_get e
    exact ⟨G1, Gr.refl s2, rfl⟩
theorem ei_r1 {j : Int} (h : Ev ta σ G j) (b : -(2 ^ 62) ≤ j ∧ j < 2 ^ 62) : EvI (iRng1 (tCons ta tNil)) σ G (rng 0 j) := fun H i R q => h H i _ fun v G' H' g k =>
  ⟨j, by rw [rep_int k], b.1, b.2, q _ G' H' g (it_rng (by omega))⟩
theorem ei_r2 {i j : Int} (ha : Ev ta σ G i) (hb : Ev tb σ G j) (b : -(2 ^ 62) ≤ i ∧ i < 2 ^ 62 ∧ -(2 ^ 62) ≤ j ∧ j < 2 ^ 62) : EvI (iRng2 (tCons ta (tCons tb tNil))) σ G (rng i j) := fun H hi R q =>
  ha H hi _ fun v G1 H1 g1 k1 => (hb.mono g1.g) H1 g1.i _ fun u G2 H2 g2 k2 => ⟨i, j, by rw [rep_int k1, rep_int k2], b, q _ G2 H2 (g1.trans g2) (it_rng rfl)⟩
theorem EvI.cast {wi : TI} {xs ys : List α} (h : EvI wi σ G xs) (e : xs = ys) : EvI wi σ G ys := e ▸ h

/-! ### targets -/
def GB (g : TG) (v : V) (σ : L2.St) (G : Hp) (R : L2.St → Prop) : Prop := ∀ H, Same G H → ∀ Q : L2.St → Hp → Prop, (∀ σ2, R σ2 → Q σ2 H) → g v σ H Q
variable {g : TG} {v : V} {R : L2.St → Prop}
theorem gb_name {i : Nat} (h : R (σ.set i (some v))) : GB (gName i) v σ G R := fun H _ Q q => q _ h
theorem gb_pair {i j : Nat} (hv : rep G v (x, y)) (h : ∀ u w, rep G u x → rep G w y → R ((σ.set i (some u)).set j (some w))) : GB (gTup K 2 (gCons (gName i) (gCons (gName j) gNil))) v σ G R := fun H s Q q => by
  obtain ⟨a, u, w, rfl, h2, h3, h4⟩ := hv
  exact ⟨a, [u, w], rfl, .inl (.inl (s _ _ h2)), rfl, u, [w], rfl, w, [], rfl, rfl, q _ (h u w h3 h4)⟩
theorem gb_pair' {p : α × β} {i j : Nat} (hv : rep G v p) (h : ∀ u w, rep G u p.1 → rep G w p.2 → R ((σ.set i (some u)).set j (some w))) : GB (gTup K 2 (gCons (gName i) (gCons (gName j) gNil))) v σ G R := gb_pair (x := p.1) (y := p.2) hv h
theorem gb_tri {p : Tri α β γ} {i j l : Nat} (hv : rep G v p) (h : ∀ u w z, rep G u p.a → rep G w p.b → rep G z p.c → R (((σ.set i (some u)).set j (some w)).set l (some z))) : GB (gTup K 3 (gCons (gName i) (gCons (gName j) (gCons (gName l) gNil)))) v σ G R := fun H s Q q => by
  obtain ⟨a, u, w, z, rfl, h2, h3, h4, h5⟩ := hv
  exact ⟨a, [u, w, z], rfl, .inl (.inl (s _ _ h2)), rfl, u, [w, z], rfl, w, [z], rfl, z, [], rfl, rfl, q _ (h u w z h3 h4 h5)⟩
/-- n, (a, b) -/
theorem gb_npair {p : α × (β × γ)} {i j l : Nat} (hv : rep G v p) (h : ∀ u w z, rep G u p.1 → rep G w p.2.1 → rep G z p.2.2 → R (((σ.set i (some u)).set j (some w)).set l (some z))) :
    GB (gTup K 2 (gCons (gName i) (gCons (gTup K 2 (gCons (gName j) (gCons (gName l) gNil))) gNil))) v σ G R := fun H s Q q => by
  obtain ⟨a, u, w, rfl, h2, h3, b, w1, w2, rfl, h5, h6, h7⟩ := hv
  exact ⟨a, [u, .ref b], rfl, .inl (.inl (s _ _ h2)), rfl, u, [.ref b], rfl, .ref b, [], rfl, b, [w1, w2], rfl, .inl (.inl (s _ _ h5)), rfl, w1, [w2], rfl, w2, [], rfl, rfl, rfl, q _ (h u w1 w2 h3 h6 h7)⟩

/-! ### comprehensions -/
theorem ev_lcf {wi : TI} {vs : List Nat} {xs : List α} {p : α → Bool} {f : α → β} (hx : EvI wi σ G xs) (hl : xs.length ≤ 100000)
    (hb : ∀ x ∈ xs, ∀ v G1, Same G G1 → rep G1 v x → GB g v (wipe σ vs) G1 fun σ2 => wipe σ2 vs = wipe σ vs ∧ EvT tt σ2 G1 (p x) ∧ (p x = true → Ev te σ2 G1 (f x))) : Ev (tLc wi g tt te vs) σ G ((xs.filter p).map f) := fun H i Q q => by
  refine hx H i _ fun J G1 H1 g1 ok D nD => ?_
  have nG : G1 D = none := by
    cases e : G1 D with
    | none => rfl
    | some o => rw [g1.i _ _ e] at nD; cases nD
  refine ⟨fun k m H => m = xs.length - k ∧ k ≤ xs.length ∧ ∃ Gk, Gr M0 G1 H1 Gk H ∧ Ml Gk H D (((xs.take k).filter p).map f), ⟨_, rfl, Nat.zero_le _, G1, (Gr.refl g1.i).mut (.inl nD) nG, nG, [], upd_same, .nil⟩, ?_⟩
  rintro k m H2 ⟨rfl, hk, Gk, gk, ml⟩
  by_cases hlt : k < xs.length
  · refine .inr ⟨ok.go k H2 (gk.g.trans gk.i) hlt, fun H' => ∃ Gk, Gr M0 G1 H1 Gk H' ∧ Ml Gk H' D (((xs.take (k + 1)).filter p).map f), fun H' h' => ⟨xs.length - (k + 1), by omega, rfl, hlt, h'⟩, fun v H3 yl => ?_⟩
    have hxk : xs[k]? = some xs[k] := List.getElem?_eq_getElem hlt
    obtain ⟨G3, g3, r3⟩ := ok.yld k H2 v H3 Gk xs[k] gk.g gk.i yl hxk
    have g13 := gk.trans g3
    have et : ((xs.take (k + 1)).filter p).map f = ((xs.take k).filter p).map f ++ (if p xs[k] = true then [f xs[k]] else []) := by
      rw [List.take_add_one, hxk, List.filter_append, List.map_append]
      congr 1
      show ((([xs[k]] : List α)).filter p).map f = _
      by_cases hp : p xs[k] = true
      · rw [if_pos hp, List.filter_cons, if_pos hp]; rfl
      · rw [if_neg hp, List.filter_cons, if_neg hp]; rfl
    refine hb xs[k] (List.getElem_mem hlt) v G3 (g1.g.trans g13.g) r3 H3 g3.i _ fun σ2 ⟨hw, ht, he⟩ => ⟨hw, ?_⟩
    refine ht H3 g3.i _ fun G4 H4 g4 => ?_
    have ml4 := (ml.step0 g3).step0 g4
    refine ite2 (fun hp => ?_) (fun hp => ?_)
    · refine ((he hp).mono g4.g) H4 g4.i _ fun y G5 H5 g5 r5 => ?_
      have ml5 := ml4.step0 g5
      obtain ⟨n5, acc, e5, p5⟩ := ml5
      refine ⟨acc, e5, sl_lt ?_, G5, ((g13.trans g4).trans g5).mut (.inl nD) n5, n5, acc ++ [y], upd_same, ?_⟩
      · rw [paired_len p5, List.length_map]
        exact Nat.lt_of_le_of_lt (Nat.le_trans (List.length_filter_le _ _) (by rw [List.length_take]; exact Nat.min_le_left _ _)) (by omega)
      · rw [et, if_pos hp]
        exact paired_app p5 (.cons r5 .nil)
    · refine ⟨G4, g13.trans g4, ?_⟩
      rw [et, if_neg hp, List.append_nil]
      exact ml4
  · have e : xs.take k = xs := List.take_of_length_le (by omega)
    rw [e] at ml
    obtain ⟨n5, acc, e5, p5⟩ := ml
    exact .inl ⟨ok.stop k H2 (gk.g.trans gk.i) (by omega), q _ (upd Gk D (.lst acc)) H2 (g1.trans (gk.still nD n5 e5)) ⟨D, acc, rfl, upd_same, paired_mono (same_new n5) p5⟩⟩
theorem ev_lc {wi : TI} {vs : List Nat} {xs : List α} {f : α → β} (hx : EvI wi σ G xs) (hl : xs.length ≤ 100000)
    (hb : ∀ x ∈ xs, ∀ v G1, Same G G1 → rep G1 v x → GB g v (wipe σ vs) G1 fun σ2 => wipe σ2 vs = wipe σ vs ∧ Ev te σ2 G1 (f x)) : Ev (tLc wi g tYes te vs) σ G (xs.map f) := by
  have h := ev_lcf (σ := σ) (G := G) (g := g) (tt := tYes) (te := te) (vs := vs) (p := fun _ => true) (f := f) hx hl fun x hx v G1 s r H i Q q => hb x hx v G1 s r H i Q fun σ2 ⟨h1, h2⟩ => q σ2 ⟨h1, et_yes, fun _ => h2⟩
  rw [List.filter_eq_self.mpr (fun _ _ => rfl)] at h
  exact h

/-! ### statements -/
variable {D : Ends} {ts tr : TS}
theorem st_set {i : Nat} (h : Ev te σ G x) (s : Same G H) (k : ∀ v G' H', Gr M0 G H G' H' → rep G' v x → D.nx (σ.set i (some v)) H') : tAsg te (gName i) D σ H := h H s _ k
theorem st_ret (h : Ev te σ G x) (s : Same G H) (k : ∀ v G' H', Gr M0 G H G' H' → rep G' v x → D.rt v H') : tRet te D σ H := h H s _ k
theorem st_drop (h : Ev te σ G x) (s : Same G H) (k : ∀ G' H', Gr M0 G H G' H' → D.nx σ H') : tDrop te D σ H := h H s _ fun _ G' H' g _ => k G' H' g
theorem st_if {b : Bool} (h : EvT tt σ G b) (s : Same G H) (k1 : b = true → ∀ G' H', Gr M0 G H G' H' → ts D σ H') (k2 : b = false → ∀ G' H', Gr M0 G H G' H' → tr D σ H') : tIfS tt ts tr D σ H :=
  h H s _ fun G' H' g => ite2 (fun e => k1 e G' H' g) (fun e => k2 (by simpa using e) G' H' g)
theorem st_pair {x : α × β} {i j : Nat} (h : Ev te σ G x) (s : Same G H) (k : ∀ u w G' H', Gr M0 G H G' H' → rep G' u x.1 → rep G' w x.2 → D.nx ((σ.set i (some u)).set j (some w)) H') :
    tAsg te (gTup K 2 (gCons (gName i) (gCons (gName j) gNil))) D σ H := h H s _ fun v G' H' g r => by
  obtain ⟨a, u, w, rfl, h2, h3, h4⟩ := r
  exact ⟨a, [u, w], rfl, .inl (.inl (g.i _ _ h2)), rfl, u, [w], rfl, w, [], rfl, rfl, k u w G' H' g h3 h4⟩
/-- xs.append(e), xs still being made -/
theorem st_append {i : Nat} {p : Addr} {xs : List α} (hv : σ[i]? = some (some (.ref p))) (m : Ml G H p xs) (h : Ev te σ G x) (s : Same G H) (hl : xs.length < 100000)
    (k : ∀ G' H' o, Gr M0 G H G' H' → Ml G' (upd H' p o) p (xs ++ [x]) → Same G' (upd H' p o) → D.nx σ (upd H' p o)) : tDrop (tBM K "list" rAppend (tVar i) (tCons te tNil)) D σ H := by
  refine ⟨.ref p, hv, .inl ⟨rfl, m.sq⟩, h H s _ fun v G' H' g r => ?_⟩
  obtain ⟨n, acc, e, pa⟩ := m.step0 g
  exact ⟨p, acc, v, rfl, rfl, e, sl_lt (by rw [paired_len pa]; exact hl), k G' H' _ g ⟨n, _, upd_same, paired_app pa (.cons r .nil)⟩ (same_mut g.i n)⟩
/-- a new list that is still being made -/
theorem st_newlist {i : Nat} {tr : TA} {xs : List α} (h : EvAs tr σ G xs) (s : Same G H) (hl : xs.length ≤ 100000) (k : ∀ p G' H' o, Gr M0 G H G' H' → H' p = none → Ml G' (upd H' p o) p xs → Same G' (upd H' p o) → D.nx (σ.set i (some (.ref p))) (upd H' p o)) :
    tAsg (tLst tr) (gName i) D σ H := h H s _ fun vs G1 H1 g1 k1 => ⟨by rw [paired_len k1]; exact sl_small hl, fun p np => by
      have nG : G1 p = none := by
        cases e : G1 p with
        | none => rfl
        | some o => rw [g1.i _ _ e] at np; cases np
      exact k p G1 H1 (.lst vs) g1 np ⟨nG, vs, upd_same, k1⟩ (same_mut g1.i nG)⟩
/-- for target in xs: .. -/
theorem st_for {wi : TI} {xs : List α} (P : Nat → L2.St → Hp → Hp → Prop) (hx : EvI wi σ G xs) (s : Same G H)
    (h0 : ∀ G' H', Gr M0 G H G' H' → P 0 σ G' H')
    (hs : ∀ k x v σ' G1 H1 G2 H2, xs[k]? = some x → Same G G1 → Same G1 H1 → P k σ' G1 H1 → Gr M0 G1 H1 G2 H2 → rep G2 v x →
      g v σ' H2 fun σ2 H3 => ts { D with nx := fun σ3 H3 => ∃ G3, Same G1 G3 ∧ Same G3 H3 ∧ P (k + 1) σ3 G3 H3, ct := fun σ3 H3 => ∃ G3, Same G1 G3 ∧ Same G3 H3 ∧ P (k + 1) σ3 G3 H3, bk := D.nx } σ2 H3)
    (hd : ∀ σ' G' H', Same G G' → Same G' H' → P xs.length σ' G' H' → D.nx σ' H') : tFor wi g ts D σ H := by
  refine hx H s _ fun J G1 H1 g1 ok => ?_
  refine ⟨fun k m σ' H' => m = xs.length - k ∧ k ≤ xs.length ∧ ∃ Gk, Same G1 Gk ∧ Same Gk H' ∧ P k σ' Gk H', ⟨_, rfl, Nat.zero_le _, G1, Same.refl G1, g1.i, h0 G1 H1 g1⟩, ?_⟩
  rintro k m σ' H2 ⟨rfl, hk, Gk, sg, sh, pk⟩
  by_cases hlt : k < xs.length
  · refine .inr ⟨ok.go k H2 (sg.trans sh) hlt, fun σ3 H3 => ∃ G3, Same Gk G3 ∧ Same G3 H3 ∧ P (k + 1) σ3 G3 H3, fun σ3 H3 h3 => ?_, fun v H3 yl => ?_⟩
    · obtain ⟨G3, e1, e2, e3⟩ := h3
      exact ⟨xs.length - (k + 1), by omega, rfl, hlt, G3, sg.trans e1, e2, e3⟩
    · obtain ⟨G3, g3, r3⟩ := ok.yld k H2 v H3 Gk xs[k] sg sh yl (List.getElem?_eq_getElem hlt)
      have z := hs k xs[k] v σ' Gk H2 G3 H3 (List.getElem?_eq_getElem hlt) (g1.g.trans sg) sh pk g3 r3
      exact z
  · have e : k = xs.length := by omega
    subst e
    exact .inl ⟨ok.stop _ H2 (sg.trans sh) (Nat.le_refl _), hd σ' Gk H2 (g1.g.trans sg) sh pk⟩
/-! .. with what follows -/
variable {u : TS}
theorem sq_set {i : Nat} (h : Ev te σ G x) (s : Same G H) (k : ∀ v G' H', Gr M0 G H G' H' → rep G' v x → u D (σ.set i (some v)) H') : tSeq (tAsg te (gName i)) u D σ H := h H s _ k
theorem sq_drop (h : Ev te σ G x) (s : Same G H) (k : ∀ G' H', Gr M0 G H G' H' → u D σ H') : tSeq (tDrop te) u D σ H := h H s _ fun _ G' H' g _ => k G' H' g
theorem sq_pair {x : α × β} {i j : Nat} (h : Ev te σ G x) (s : Same G H) (k : ∀ v w G' H', Gr M0 G H G' H' → rep G' v x.1 → rep G' w x.2 → u D ((σ.set i (some v)).set j (some w)) H') :
    tSeq (tAsg te (gTup K 2 (gCons (gName i) (gCons (gName j) gNil)))) u D σ H := st_pair (D := { D with nx := u D }) h s k
theorem sq_if {b : Bool} (h : EvT tt σ G b) (s : Same G H) (k1 : b = true → ∀ G' H', Gr M0 G H G' H' → ts { D with nx := u D } σ H') (k2 : b = false → ∀ G' H', Gr M0 G H G' H' → tr { D with nx := u D } σ H') : tSeq (tIfS tt ts tr) u D σ H :=
  st_if (D := { D with nx := u D }) h s k1 k2
/-- an if that only leaves or goes on -/
theorem sq_ifn {b : Bool} (h : EvT tt σ G b) (s : Same G H) (k1 : b = true → ∀ G' H', Gr M0 G H G' H' → ts { D with nx := u D } σ H') (k2 : b = false → ∀ G' H', Gr M0 G H G' H' → u D σ H') : tSeq (tIfS tt ts tNext) u D σ H :=
  st_if (D := { D with nx := u D }) (tr := tNext) h s k1 k2
theorem sq_append {i : Nat} {p : Addr} {xs : List α} (hv : σ[i]? = some (some (.ref p))) (m : Ml G H p xs) (h : Ev te σ G x) (s : Same G H) (hl : xs.length < 100000)
    (k : ∀ G' H' o, Gr M0 G H G' H' → Ml G' (upd H' p o) p (xs ++ [x]) → Same G' (upd H' p o) → u D σ (upd H' p o)) : tSeq (tDrop (tBM K "list" rAppend (tVar i) (tCons te tNil))) u D σ H := st_append (D := { D with nx := u D }) hv m h s hl k
theorem sq_newlist {i : Nat} {tr : TA} {xs : List α} (h : EvAs tr σ G xs) (s : Same G H) (hl : xs.length ≤ 100000) (k : ∀ p G' H' o, Gr M0 G H G' H' → H' p = none → Ml G' (upd H' p o) p xs → Same G' (upd H' p o) → u D (σ.set i (some (.ref p))) (upd H' p o)) :
    tSeq (tAsg (tLst tr) (gName i)) u D σ H := st_newlist (D := { D with nx := u D }) h s hl k
theorem sq_for {wi : TI} {xs : List α} (P : Nat → L2.St → Hp → Hp → Prop) (hx : EvI wi σ G xs) (s : Same G H)
    (h0 : ∀ G' H', Gr M0 G H G' H' → P 0 σ G' H')
    (hs : ∀ k x v σ' G1 H1 G2 H2, xs[k]? = some x → Same G G1 → Same G1 H1 → P k σ' G1 H1 → Gr M0 G1 H1 G2 H2 → rep G2 v x →
      g v σ' H2 fun σ2 H3 => ts { nx := fun σ3 H3 => ∃ G3, Same G1 G3 ∧ Same G3 H3 ∧ P (k + 1) σ3 G3 H3, rt := D.rt, ct := fun σ3 H3 => ∃ G3, Same G1 G3 ∧ Same G3 H3 ∧ P (k + 1) σ3 G3 H3, bk := u D } σ2 H3)
    (hd : ∀ σ' G' H', Same G G' → Same G' H' → P xs.length σ' G' H' → u D σ' H') : tSeq (tFor wi g ts) u D σ H := st_for (D := { D with nx := u D }) P hx s h0 hs hd
theorem up_none {G H : Hp} (i : Same G H) {p : Addr} (h : H p = none) : G p = none := by
  cases e : G p with
  | none => rfl
  | some u => rw [i _ _ e] at h; cases h
theorem gn {i : Nat} {Q : L2.St → Hp → Prop} (h : Q (σ.set i (some v)) H) : gName i v σ H Q := h
theorem gp {x : α × β} {i j : Nat} {Q : L2.St → Hp → Prop} (r : rep G v x) (s : Same G H) (h : ∀ u w, rep G u x.1 → rep G w x.2 → Q ((σ.set i (some u)).set j (some w)) H) : gTup K 2 (gCons (gName i) (gCons (gName j) gNil)) v σ H Q := by
  obtain ⟨a, u, w, rfl, h2, h3, h4⟩ := r
  exact ⟨a, [u, w], rfl, .inl (.inl (s _ _ h2)), rfl, u, [w], rfl, w, [], rfl, rfl, h u w h3 h4⟩
/-- xs.append(e), e of a flat kind that reads xs itself -/
theorem st_appendF [Flat α] {i : Nat} {p : Addr} {xs : List α} (hv : σ[i]? = some (some (.ref p))) (m : Ml G H p xs) (h : ∀ o, Same G (upd G p o) → rep (upd G p o) (.ref p) xs → Ev te σ (upd G p o) x) (s : Same G H) (hl : xs.length < 100000)
    (k : ∀ H' o, Gr M0 G H G H' → Ml G (upd H' p o) p (xs ++ [x]) → Same G (upd H' p o) → D.nx σ (upd H' p o)) : tDrop (tBM K "list" rAppend (tVar i) (tCons te tNil)) D σ H := by
  obtain ⟨o, e1, e2, e3, e4⟩ := m.rep s
  refine ⟨.ref p, hv, .inl ⟨rfl, m.sq⟩, (h o e2 e4).flat e3 s fun v H' g sm r => ?_⟩
  obtain ⟨n, acc, e, pa⟩ := m.step0 g
  exact ⟨p, acc, v, rfl, rfl, e, sl_lt (by rw [paired_len pa]; exact hl), k H' _ g ⟨n, _, upd_same, paired_app pa (.cons r .nil)⟩ (same_mut g.i n)⟩
theorem Ml.frz {M : Addr → Prop} {Ge He : Hp} {p : Addr} {xs : List α} (m : Ml G H p xs) (g : Gr M Ge He G H) (np : He p = none) : ∃ G', Gr M Ge He G' H ∧ Pf.rep G' (.ref p) xs ∧ Same G G' := by
  obtain ⟨n, vs, e, pa⟩ := m
  exact ⟨upd G p (.lst vs), g.still np n e, ⟨p, vs, rfl, upd_same, paired_mono (same_new n) pa⟩, same_new n⟩
end
end Pf

namespace Pf
open PySem PySem.Spec PyProof.Rows L2
/-! ### data of any kind -/
mutual
def RD (G : Hp) : PyData → V → Prop
  | .none, v => v = .non
  | .bool b, v => v = .bl b
  | .int i, v => v = .int i
  | .str x, v => v = .str x
  | .list ds, v => ∃ a vs, v = .ref a ∧ G a = some (.lst vs) ∧ RDs G ds vs
  | .tuple ds, v => ∃ a vs, v = .ref a ∧ G a = some (.tup vs) ∧ RDs G ds vs
  | .dict _, _ => False
def RDs (G : Hp) : List PyData → List V → Prop
  | [], vs => vs = []
  | d :: ds, vs => ∃ v r, vs = v :: r ∧ RD G d v ∧ RDs G ds r
end
mutual
theorem RD.mono {G G' : Hp} (e : Same G G') : ∀ (d : PyData) (v : V), RD G d v → RD G' d v
  | .none, _, h => h
  | .bool _, _, h => h
  | .int _, _, h => h
  | .str _, _, h => h
  | .list ds, _, ⟨a, vs, h1, h2, h3⟩ => ⟨a, vs, h1, e _ _ h2, RDs.mono e ds vs h3⟩
  | .tuple ds, _, ⟨a, vs, h1, h2, h3⟩ => ⟨a, vs, h1, e _ _ h2, RDs.mono e ds vs h3⟩
  | .dict _, _, h => h
theorem RDs.mono {G G' : Hp} (e : Same G G') : ∀ (ds : List PyData) (vs : List V), RDs G ds vs → RDs G' ds vs
  | [], _, h => h
  | d :: ds, _, ⟨v, r, h1, h2, h3⟩ => ⟨v, r, h1, RD.mono e d v h2, RDs.mono e ds r h3⟩
end
instance : Rep PyData := ⟨fun G v d => RD G d v, fun e h => RD.mono e _ _ h⟩
theorem rds_paired {G : Hp} : ∀ {ds : List PyData} {vs : List V}, RDs G ds vs → Paired (rep G) vs ds
  | [], _, h => by cases (show _ = [] from h); exact .nil
  | d :: ds, _, ⟨v, r, h1, h2, h3⟩ => by subst h1; exact .cons h2 (rds_paired h3)
theorem paired_rds {G : Hp} : ∀ {ds : List PyData} {vs : List V}, Paired (rep G) vs ds → RDs G ds vs
  | _, _, .nil => rfl
  | _, _, .cons r t => ⟨_, _, rfl, r, paired_rds t⟩
instance : Inhabited PyData := ⟨.none⟩
class Dat (α : Type) [Rep α] where
  dat : α → PyData
  rd : ∀ {G : Hp} {v : V} {x : α}, rep G v x → RD G (dat x) v
  inj : ∀ {x y : α}, dat x = dat y → x = y
abbrev dat {α : Type} [Rep α] [Dat α] : α → PyData := Dat.dat
instance : Dat Int := ⟨.int, fun h => h, fun h => by injection h⟩
instance : Dat Bool := ⟨.bool, fun h => h, fun h => by injection h⟩
instance : Dat Str := ⟨.str, fun h => h, fun h => by injection h⟩
instance : Dat PyData := ⟨id, fun h => h, fun h => h⟩
theorem paired_dat {α : Type} [Rep α] [Dat α] {G : Hp} : ∀ {vs : List V} {xs : List α}, Paired (rep G) vs xs → RDs G (xs.map dat) vs
  | _, _, .nil => rfl
  | _, _, .cons r t => ⟨_, _, rfl, Dat.rd r, paired_dat t⟩
theorem map_dat_inj {α : Type} [Rep α] [Dat α] : ∀ {xs ys : List α}, xs.map dat = ys.map dat → xs = ys
  | [], [], _ => rfl
  | [], _ :: _, h => by cases h
  | _ :: _, [], h => by cases h
  | x :: xs, y :: ys, h => by
    injection h with h1 h2
    rw [Dat.inj h1, map_dat_inj h2]
instance {α : Type} [Rep α] [Dat α] : Dat (List α) := ⟨fun xs => .list (xs.map dat), fun ⟨a, vs, h1, h2, h3⟩ => ⟨a, vs, h1, h2, paired_dat h3⟩, fun h => by injection h with h; exact map_dat_inj h⟩
instance {α : Type} [Rep α] [Dat α] : Dat (Tup α) := ⟨fun xs => .tuple (xs.l.map dat), fun ⟨a, vs, h1, h2, h3⟩ => ⟨a, vs, h1, h2, paired_dat h3⟩, fun {x y} h => by
  injection h with h
  cases x; cases y
  exact congrArg Tup.mk (map_dat_inj h)⟩
instance {α β : Type} [Rep α] [Dat α] [Rep β] [Dat β] : Dat (α × β) := ⟨fun x => .tuple [dat x.1, dat x.2], fun ⟨a, u, w, h1, h2, h3, h4⟩ => ⟨a, [u, w], h1, h2, u, [w], rfl, Dat.rd h3, w, [], rfl, Dat.rd h4, rfl⟩, fun {x y} h => by
  injection h with h
  injection h with h1 h
  injection h with h2 h
  cases x; cases y
  exact congr (congrArg Prod.mk (Dat.inj h1)) (Dat.inj h2)⟩
instance {α β γ : Type} [Rep α] [Dat α] [Rep β] [Dat β] [Rep γ] [Dat γ] : Dat (Tri α β γ) := ⟨fun x => .tuple [dat x.a, dat x.b, dat x.c], fun ⟨a, u, w, z, h1, h2, h3, h4, h5⟩ => ⟨a, [u, w, z], h1, h2, u, [w, z], rfl, Dat.rd h3, w, [z], rfl, Dat.rd h4, z, [], rfl, Dat.rd h5, rfl⟩, fun {x y} h => by
  injection h with h
  injection h with h1 h
  injection h with h2 h
  injection h with h3 h
  cases x; cases y
  exact congr (congr (congrArg Tri.mk (Dat.inj h1)) (Dat.inj h2)) (Dat.inj h3)⟩
section
variable {α β γ : Type} [Rep α] [Rep β] [Rep γ] {σ : L2.St} {G : Hp} {te ta tb : TE} {x : α} {K : Fg}
theorem ev_dat [Dat α] (h : Ev te σ G x) : Ev te σ G (dat x) := fun H i Q q => h H i Q fun v G' H' g r => q v G' H' g (Dat.rd r)
/-! is None, isinstance -/
abbrev rIsN : R2 := fun x y H Q => y = .non ∧ Q (.bl (decide (x = .non))) H
def isNone : PyData → Bool
  | .none => true
  | _ => false
theorem rd_none {G : Hp} {d : PyData} {v : V} (h : RD G d v) : decide (v = .non) = isNone d := by
  cases d with
  | none => rw [show v = .non from h]; rfl
  | bool b => rw [show v = .bl b from h]; rfl
  | int b => rw [show v = .int b from h]; rfl
  | str b => rw [show v = .str b from h]; rfl
  | list ds => obtain ⟨a, vs, e, _⟩ := h; rw [e]; rfl
  | tuple ds => obtain ⟨a, vs, e, _⟩ := h; rw [e]; rfl
  | dict _ => exact h.elim
theorem ev_isN {d : PyData} (h : Ev ta σ G d) : Ev (tOp rIsN ta (tC .non)) σ G (isNone d) := fun H i Q q => h H i _ fun v G' H' g r => ⟨rfl, q _ G' H' g (by rw [rd_none r]; rfl)⟩
def tyD : PyData → String
  | .none => "NoneType"
  | .bool _ => "bool"
  | .int _ => "int"
  | .str _ => "str"
  | .list _ => "list"
  | .tuple _ => "tuple"
  | .dict _ => "dict"
theorem rd_ty {G H : Hp} {d : PyData} {v : V} (h : RD G d v) (i : Same G H) : TyX K H v (.type (tyD d)) := by
  cases d with
  | none => rw [show v = .non from h]; exact .base .non
  | bool b => rw [show v = .bl b from h]; exact .base (.bl b)
  | int b => rw [show v = .int b from h]; exact .base (.int b)
  | str b => rw [show v = .str b from h]; exact .base (.str b)
  | list ds => obtain ⟨a, vs, e, e2, _⟩ := h; rw [e]; exact .base (.lst (i _ _ e2))
  | tuple ds => obtain ⟨a, vs, e, e2, _⟩ := h; rw [e]; exact .base (.tup (i _ _ e2))
  | dict _ => exact h.elim
def isTy (T : String) (d : PyData) : Bool := tyD d == T || (tyD d == "bool" && T == "int")
abbrev tys : List String := ["NoneType", "bool", "int", "str", "list", "tuple", "dict"]
abbrev Tys : List String := ["bool", "int", "str", "list", "tuple"]
theorem kit_tab : ∀ t ∈ tys, ∀ T ∈ Tys, kitB t T = some (t == T || (t == "bool" && T == "int")) := by decide +kernel
theorem tyD_mem (d : PyData) : tyD d ∈ tys := by cases d <;> simp [tyD]
theorem kit_is (d : PyData) {T : String} (h : T ∈ Tys) : kitB (tyD d) T = some (isTy T d) := kit_tab _ (tyD_mem d) T h
theorem ev_isi {d : PyData} {T : String} (h : Ev ta σ G d) (hk : T ∈ Tys) : Ev (tCB (rIsi K) (tCons ta (tCons (tC (.ty T)) tNil))) σ G (isTy T d) := fun H i Q q => h H i _ fun v G' H' g r =>
  ⟨v, .ty T, _, _, isTy T d, rfl, .ty T, rd_ty r g.i, kit_ty (kit_is d hk), q _ G' H' g rfl⟩
theorem ev_isiT {d : PyData} {T U : String} (h : Ev ta σ G d) (h1 : T ∈ Tys) (h2 : U ∈ Tys) :
    Ev (tCB (rIsiT K) (tCons ta (tCons (tTup (tCons (tC (.ty T)) (tCons (tC (.ty U)) tNil))) tNil))) σ G (isTy T d || isTy U d) := fun H i Q q => h H i _ fun v G' H' g r => by
  refine ⟨by show 2 ≤ sizeLine; decide, fun p np => ?_⟩
  have g2 := gr_new (o := .tup [.ty T, .ty U]) g.i np
  refine ⟨v, p, [.ty T, .ty U], _, [.type T, .type U], isTy T d || isTy U d, rfl, upd_same, .cons (.ty T) (.cons (.ty U) .nil), rd_ty r (g.i.trans g2.same), ?_, q _ _ _ (g.trans g2) rfl⟩
  refine kitAny_cons (kit_ty (kit_is d h1)) (fun e => kitAny_cons (kit_ty (kit_is d h2)) (fun e2 => ?_) (fun e2 => ?_)) (fun e => ?_)
  · rw [e, e2]; exact kitAny_nil
  · rw [e2]; exact Bool.or_true _
  · rw [e]; rfl
theorem ev_eqD {d e : PyData} (ha : Ev ta σ G d) (hb : Ev tb σ G e) (b : Bool) (hs : ∀ G v u, RD G d v → RD G e u → scal v u = true ∧ decide (v = u) = b) : Ev (tOp rEq ta tb) σ G b :=
  ev2 ha hb fun v u G' _ k1 k2 H h Q q => by
    obtain ⟨h1, h2⟩ := hs G' v u k1 k2
    exact ⟨h1, q _ G' H (Gr.refl h) (by rw [h2]; rfl)⟩
def itemsD : PyData → List PyData
  | .list ds => ds
  | .tuple ds => ds
  | _ => []
def isSeq : PyData → Bool
  | .list _ => true
  | .tuple _ => true
  | _ => false
theorem ev_lenD {d : PyData} (h : Ev ta σ G d) (hs : isSeq d = true) : Ev (tCB (rLen K) (tCons ta tNil)) σ G ((itemsD d).length : Int) := ev_B1 h fun v G' H _ i k Q q => by
  cases d with
  | list ds =>
    obtain ⟨a, vs, rfl, h2, h3⟩ := k
    exact ⟨a, vs, rfl, .inl (.inl (.inl (i _ _ h2))), q _ G' H (Gr.refl i) (by rw [paired_len (rds_paired h3)]; rfl)⟩
  | tuple ds =>
    obtain ⟨a, vs, rfl, h2, h3⟩ := k
    exact ⟨a, vs, rfl, .inr (.inl (.inl (i _ _ h2))), q _ G' H (Gr.refl i) (by rw [paired_len (rds_paired h3)]; rfl)⟩
  | _ => cases hs
theorem ev_ixD {d : PyData} {n : Int} (ha : Ev ta σ G d) (hb : Ev tb σ G n) (hs : isSeq d = true) (h : 0 ≤ n ∧ n < (itemsD d).length) : Ev (tOp (rIx K) ta tb) σ G (ix (itemsD d) n) :=
  ev2 ha hb fun v u G' _ k1 k2 H hh Q q => by
    cases k2
    cases d with
    | list ds =>
      obtain ⟨a, vs, rfl, h2, h3⟩ := k1
      obtain ⟨w, e1, e2⟩ := at_ix (rds_paired h3) h
      exact .inl ⟨a, vs, n, w, rfl, rfl, .inl (.inl (hh _ _ h2)), e1, q w G' H (Gr.refl hh) e2⟩
    | tuple ds =>
      obtain ⟨a, vs, rfl, h2, h3⟩ := k1
      obtain ⟨w, e1, e2⟩ := at_ix (rds_paired h3) h
      exact .inr (.inl ⟨a, vs, n, w, rfl, rfl, .inl (.inl (hh _ _ h2)), e1, q w G' H (Gr.refl hh) e2⟩)
    | _ => cases hs
end
/-! ### data compared -/
def isDict : PyData → Bool
  | .dict _ => true
  | _ => false
def OkN : Nat → PyData → Prop
  | 0, d => isSeq d = false ∧ isDict d = false
  | n + 1, d => isDict d = false ∧ (itemsD d).length ≤ 100000 ∧ ∀ e ∈ itemsD d, OkN n e
theorem okN_flat (n : Nat) {d : PyData} (h : isSeq d = false) (h2 : isDict d = false) : OkN n d := by
  cases n with
  | zero => exact ⟨h, h2⟩
  | succ n =>
    have e : itemsD d = [] := by cases d <;> first | rfl | cases h
    exact ⟨h2, by rw [e]; decide, fun x hx => by rw [e] at hx; cases hx⟩
theorem okN_int (n : Nat) (i : Int) : OkN n (dat i) := okN_flat n rfl rfl
theorem okN_bool (n : Nat) (i : Bool) : OkN n (dat i) := okN_flat n rfl rfl
theorem okN_str (n : Nat) (i : Str) : OkN n (dat i) := okN_flat n rfl rfl
theorem okN_list {α : Type} [Rep α] [Dat α] {n : Nat} {xs : List α} (h : xs.length ≤ 100000) (k : ∀ x ∈ xs, OkN n (dat x)) : OkN (n + 1) (dat xs) :=
  ⟨rfl, by show (xs.map dat).length ≤ _; rw [List.length_map]; exact h, fun e he => by
    obtain ⟨x, hx, rfl⟩ := List.mem_map.mp (show e ∈ xs.map dat from he)
    exact k x hx⟩
theorem okN_tup {α : Type} [Rep α] [Dat α] {n : Nat} {xs : Tup α} (h : xs.l.length ≤ 100000) (k : ∀ x ∈ xs.l, OkN n (dat x)) : OkN (n + 1) (dat xs) :=
  ⟨rfl, by show (xs.l.map dat).length ≤ _; rw [List.length_map]; exact h, fun e he => by
    obtain ⟨x, hx, rfl⟩ := List.mem_map.mp (show e ∈ xs.l.map dat from he)
    exact k x hx⟩
theorem okN_pair {α β : Type} [Rep α] [Dat α] [Rep β] [Dat β] {n : Nat} {x : α × β} (h1 : OkN n (dat x.1)) (h2 : OkN n (dat x.2)) : OkN (n + 1) (dat x) :=
  ⟨rfl, by show 2 ≤ 100000; decide, fun e he => by
    have he : e ∈ [dat x.1, dat x.2] := he
    simp only [List.mem_cons, List.not_mem_nil, or_false] at he
    rcases he with rfl | rfl
    · exact h1
    · exact h2⟩
theorem okN_tri {α β γ : Type} [Rep α] [Dat α] [Rep β] [Dat β] [Rep γ] [Dat γ] {n : Nat} {x : Tri α β γ} (h1 : OkN n (dat x.a)) (h2 : OkN n (dat x.b)) (h3 : OkN n (dat x.c)) : OkN (n + 1) (dat x) :=
  ⟨rfl, by show 3 ≤ 100000; decide, fun e he => by
    have he : e ∈ [dat x.a, dat x.b, dat x.c] := he
    simp only [List.mem_cons, List.not_mem_nil, or_false] at he
    rcases he with rfl | rfl | rfl
    · exact h1
    · exact h2
    · exact h3⟩
/-- found, due -/
def alikeN : Nat → PyData → PyData → Bool
  | _, .none, .none => true
  | _, .bool c, .bool b => decide (c = b)
  | _, .int c, .int b => decide (c = b)
  | _, .str c, .str b => decide (c = b)
  | n + 1, .list fs, .list ds => decide (fs.length = ds.length) && ((rng 0 ds.length).map fun k => alikeN n (ix fs k) (ix ds k)).all id
  | n + 1, .tuple fs, .tuple ds => decide (fs.length = ds.length) && ((rng 0 ds.length).map fun k => alikeN n (ix fs k) (ix ds k)).all id
  | _, _, _ => false
theorem all_rng {n : Nat} {f : Int → Bool} : ((rng 0 (n : Int)).map f).all id = true ↔ ∀ k : Nat, k < n → f (k : Int) = true := by
  rw [List.all_eq_true]
  constructor
  · intro h k hk
    exact h _ (List.mem_map.mpr ⟨(k : Int), rng_mem.mpr ⟨by omega, by omega⟩, rfl⟩)
  · intro h b hb
    obtain ⟨k, hk, rfl⟩ := List.mem_map.mp hb
    have hk := rng_mem.mp hk
    have e : k = ((k.toNat : Nat) : Int) := by omega
    rw [e]
    exact h k.toNat (by omega)
theorem ix_get {fs : List PyData} {k : Nat} (h : k < fs.length) : ix fs (k : Int) = fs[k] := ix_nat (List.getElem?_eq_getElem h)
theorem seq_iff {n : Nat} {fs ds : List PyData} (ih : ∀ f d, OkN n d → (alikeN n f d = true ↔ f = d)) (ok : ∀ e ∈ ds, OkN n e) :
    (decide (fs.length = ds.length) && ((rng 0 ds.length).map fun k => alikeN n (ix fs k) (ix ds k)).all id) = true ↔ fs = ds := by
  rw [Bool.and_eq_true, decide_eq_true_eq, all_rng]
  constructor
  · rintro ⟨h1, h2⟩
    refine List.ext_getElem h1 fun k hk1 hk2 => ?_
    have h := (ih _ _ (by rw [ix_get hk2]; exact ok _ (List.getElem_mem hk2))).mp (h2 k hk2)
    rw [ix_get hk1, ix_get hk2] at h
    exact h
  · rintro rfl
    exact ⟨rfl, fun k hk => (ih _ _ (by rw [ix_get hk]; exact ok _ (List.getElem_mem hk))).mpr rfl⟩
theorem alikeN_iff : ∀ (n : Nat) (f d : PyData), OkN n d → (alikeN n f d = true ↔ f = d)
  | n, f, .none, _ => by cases n <;> cases f <;> simp [alikeN]
  | n, f, .bool b, _ => by cases n <;> cases f <;> simp [alikeN]
  | n, f, .int b, _ => by cases n <;> cases f <;> simp [alikeN]
  | n, f, .str b, _ => by cases n <;> cases f <;> simp [alikeN]
  | 0, _, .list _, h => by cases h.1
  | 0, _, .tuple _, h => by cases h.1
  | n + 1, f, .list ds, h => by
    cases f with
    | list fs => rw [alikeN, seq_iff (ds := ds) (alikeN_iff n) h.2.2]; simp
    | _ => simp [alikeN]
  | n + 1, f, .tuple ds, h => by
    cases f with
    | tuple fs => rw [alikeN, seq_iff (ds := ds) (alikeN_iff n) h.2.2]; simp
    | _ => simp [alikeN]
  | 0, _, .dict _, h => by cases h.2
  | _ + 1, _, .dict _, h => by cases h.1
theorem alike_dat {α : Type} [Rep α] [Dat α] [DecidableEq α] {n : Nat} {x y : α} (h : OkN n (dat y)) : alikeN n (dat x) (dat y) = decide (x = y) := by
  by_cases e : x = y
  · subst e
    rw [decide_eq_true rfl]
    exact (alikeN_iff n _ _ h).mpr rfl
  · rw [decide_eq_false e]
    cases q : alikeN n (dat x) (dat y) with
    | false => rfl
    | true => exact absurd (Dat.inj ((alikeN_iff n _ _ h).mp q)) e
end Pf

namespace Pf
open PySem PySem.Spec PyProof.Rows L2
/-! ### the layer's rules with the written part as a letter -/
section
variable {X : Cx} {K : Fg}
theorem ix_listK (h : X.K = K) : IxR X (rIxL K) := h ▸ ix_list
theorem ix_tupK (h : X.K = K) : IxR X (rIxT K) := h ▸ ix_tup
theorem ix_seqK (h : X.K = K) : IxR X (rIx K) := h ▸ ix_seq
theorem sl_listK (h : X.K = K) : SlR X (rSlL K) := h ▸ sl_list
theorem call_lenK (h : X.K = K) : CallR X (.builtin "len") (rLen K) := h ▸ call_len_seq
theorem cr_sumK (h : X.K = K) (hc : X.calm = true) : CallR X (.builtin "sum") (rSum K) := h ▸ cr_sum hc
theorem cr_allK (h : X.K = K) (hc : X.calm = true) : CallR X (.builtin "all") (rAll K) := h ▸ cr_all hc
theorem cr_anyK (h : X.K = K) (hc : X.calm = true) : CallR X (.builtin "any") (rAny K) := h ▸ cr_any hc
theorem call_isiKK (h : X.K = K) : CallR X (.builtin "isinstance") (rIsi K) := h ▸ call_isi
theorem call_isiTK (h : X.K = K) : CallR X (.builtin "isinstance") (rIsiT K) := h ▸ call_isiT
theorem call_listK (h : X.K = K) : CallR X (.type "list") (rListOf K) := h ▸ call_list_of
theorem call_tupleK (h : X.K = K) : CallR X (.type "tuple") (rTupOf K) := h ▸ call_tuple_of
theorem cr_sortedPOK (h : X.K = K) : CallR X (.builtin "sorted") (rSortedPO K) := h ▸ cr_sortedPO
theorem cr_sortedIK (h : X.K = K) : CallR X (.builtin "sorted") (rSortedI K) := h ▸ cr_sortedI
theorem op_inDK (h : X.K = K) (hu : X.A.units + 65 < cLine) : OpR X (compareOp .In) (rInD K) := h ▸ op_inD hu
theorem op_notInDK (h : X.K = K) (hu : X.A.units + 65 < cLine) : OpR X (compareOp .NotIn) (rNotInD K) := h ▸ op_notInD hu
theorem op_eqDK (h : X.K = K) (hu : X.A.units + 64 < cLine) : OpR X (compareOp .Eq) (rEqD K) := h ▸ op_eqD hu
theorem op_neDK (h : X.K = K) (hu : X.A.units + 64 < cLine) : OpR X (compareOp .NotEq) (rNeD K) := h ▸ op_neD hu
theorem op_ltTK (h : X.K = K) (hu : X.A.units < cLine) : OpR X (compareOp .Lt) (rLtT K) := h ▸ op_ltT hu
theorem op_leTK (h : X.K = K) (hu : X.A.units < cLine) : OpR X (compareOp .LtE) (rLeT K) := h ▸ op_leT hu
theorem op_catTK (h : X.K = K) : OpR X (binaryOp .Add) (rCatT K) := h ▸ op_catT
theorem pi_listK {tg l : Expr} {tl : TE} (h : X.K = K) (hl : PE X l tl) : PI X tg l (iList K tl) := h ▸ pi_list hl
theorem pi_tupK {tg l : Expr} {tl : TE} (h : X.K = K) (hl : PE X l tl) : PI X tg l (iTup K tl) := h ▸ pi_tup hl
theorem pg_tupK {es : List Expr} {k : Nat} {t : TGs} {n : Nat} {pos : Pos} (h : X.K = K) (hp : PG X (.Tuple es k pos) (gTup X.K n t)) : PG X (.Tuple es k pos) (gTup K n t) := h ▸ hp
end
end Pf

namespace Pf
open PySem PySem.Spec PyProof.Rows L2
def rGetL (K : Fg) : V → V → Hp → VK → Prop := fun x y H Q => ∃ p xs i v, x = .ref p ∧ y = .int i ∧ SqL K H p xs ∧ 0 ≤ i ∧ atI xs i = some v ∧ Q v H
theorem get_listK {X : Cx} {K : Fg} (h : X.K = K) : PGet X (rGetL K) := by
  subst h
  intro pins s σ H x y v u Q I rx ry h
  obtain ⟨p, xs, i, z, rfl, rfl, hq, h0, he, q⟩ := h
  cases rx
  obtain ⟨t, rfl⟩ := ry
  obtain ⟨its, r, pl, hz⟩ := I.list hq
  obtain ⟨j, h1, h2, h3, h4, h5⟩ := atI_get he
  obtain ⟨w, ew, rw'⟩ := r.get h2
  have hl := r.length
  have hn := line63
  have fin : EP X pins σ Q w s := ⟨z, H, I, rw', q⟩
  have hj : i.toNat = j := by
    rw [seqIndex_of h0 h5] at h1
    exact Option.some.inj h1
  exact wpAny_getItem_list pl.isList h0 (by omega) (by rw [hj]; simpa using ew) fin
/-! ### the law's own bag -/
/-- a bag: its cells, a place, a rest, a salt -/
def Bag (G H : Hp) (b : Addr) : Prop := G b = none ∧ ∃ cv c1 c2 c3, ∃ cells : List Int, H b = some (.lst [cv, .int c1, .int c2, .int c3]) ∧ rep G cv cells ∧ 0 ≤ c1 ∧ 0 ≤ c2 ∧ 0 ≤ c3 ∧ (∀ x ∈ cells, 0 ≤ x)
abbrev Mb (b : Addr) : Addr → Prop := fun a => a = b
theorem Bag.step {M : Addr → Prop} {G H G' H' : Hp} {b : Addr} (x : Bag G H b) (g : Gr M G H G' H') (hb : ¬ M b) : Bag G' H' b := by
  obtain ⟨n, cv, c1, c2, c3, cells, e, r, h⟩ := x
  exact ⟨g.out n e, cv, c1, c2, c3, cells, g.h _ _ hb e, Rep.mono g.g r, h⟩
theorem Bag.step0 {G H G' H' : Hp} {b : Addr} (x : Bag G H b) (g : Gr M0 G H G' H') : Bag G' H' b := x.step g fun z => z
theorem Bag.other {G H : Hp} {b q : Addr} {o : HO} (x : Bag G H b) (ne : b ≠ q) : Bag G (upd H q o) b := by
  obtain ⟨n, cv, c1, c2, c3, cells, e, r, h⟩ := x
  exact ⟨n, cv, c1, c2, c3, cells, by rw [upd_ne ne]; exact e, r, h⟩
theorem Bag.up {G G' H : Hp} {b : Addr} (x : Bag G H b) (g : Same G G') (n : G' b = none) : Bag G' H b := by
  obtain ⟨_, cv, c1, c2, c3, cells, e, r, h⟩ := x
  exact ⟨n, cv, c1, c2, c3, cells, e, Rep.mono g r, h⟩
def spPull : Sp := fun vs H Q _ => ∃ b many G, vs = [.ref b, .int many] ∧ Same G H ∧ Bag G H b ∧ 0 < many ∧ many.natAbs.log2 < 9000 ∧ ∀ r H', 0 ≤ r → r < many → Gr (Mb b) G H G H' → Bag G H' b → Q (.int r) H'
def spBag (K : Fg) : Sp := fun vs H Q _ => ∃ (a : Addr) (ns : List Int) (G : Hp), vs = [.ref a] ∧ Same G H ∧ SqL K G a (ns.map V.int) ∧ ns.length ≤ 63 ∧ ∀ b G' H', Gr M0 G H G' H' → H b = none → Bag G' H' b → Q (.ref b) H'
section
variable {α : Type} [Rep α] {σ : L2.St} {G G1 H : Hp} {te ta tb : TE} {tt : TT} {x : α} {K : Fg} {D : Ends} {ts tr u : TS}
theorem ev_at {i : Nat} {p : Addr} {vs : List V} {n : Nat} {v : V} (hv : σ[i]? = some (some (.ref p))) (hp : G p = some (.lst vs)) (ha : vs[n]? = some v) (r : rep G v x) : Ev (tOp (rIxL K) (tVar i) (tC (.int n))) σ G x :=
  fun H h Q q => ⟨.ref p, hv, p, vs, n, v, rfl, rfl, .inl (.inl (h _ _ hp)), atI_nat ha, q v G H (Gr.refl h) r⟩
/-! what is read while more is taken as still -/
theorem sq_setF [Flat α] {i : Nat} (h : Ev te σ G1 x) (i1 : Same G1 H) (s : Same G H) (k : ∀ v H', Gr M0 G H G H' → Same H H' → rep G v x → u D (σ.set i (some v)) H') : tSeq (tAsg te (gName i)) u D σ H := h.flat i1 s k
theorem st_setF [Flat α] {i : Nat} (h : Ev te σ G1 x) (i1 : Same G1 H) (s : Same G H) (k : ∀ v H', Gr M0 G H G H' → Same H H' → rep G v x → D.nx (σ.set i (some v)) H') : tAsg te (gName i) D σ H := h.flat i1 s k
theorem st_retF [Flat α] (h : Ev te σ G1 x) (i1 : Same G1 H) (s : Same G H) (k : ∀ v H', Gr M0 G H G H' → Same H H' → rep G v x → D.rt v H') : tRet te D σ H := h.flat i1 s k
theorem st_ifF {b : Bool} (h : EvT tt σ G1 b) (i1 : Same G1 H) (s : Same G H) (k1 : b = true → ∀ H', Gr M0 G H G H' → Same H H' → ts D σ H') (k2 : b = false → ∀ H', Gr M0 G H G H' → Same H H' → tr D σ H') : tIfS tt ts tr D σ H :=
  h.flat i1 s fun H' g e => ite2 (fun z => k1 z H' g e) (fun z => k2 (by simpa using z) H' g e)
theorem sq_ifF {b : Bool} (h : EvT tt σ G1 b) (i1 : Same G1 H) (s : Same G H) (k1 : b = true → ∀ H', Gr M0 G H G H' → Same H H' → ts { D with nx := u D } σ H') (k2 : b = false → ∀ H', Gr M0 G H G H' → Same H H' → tr { D with nx := u D } σ H') : tSeq (tIfS tt ts tr) u D σ H :=
  st_ifF (D := { D with nx := u D }) h i1 s k1 k2
/-- xs[n] = e -/
theorem sq_put [Flat α] {i n : Nat} {p : Addr} {vs : List V} (hv : σ[i]? = some (some (.ref p))) (hp : H p = some (.lst vs)) (hn : n < vs.length) (h : Ev te σ G1 x) (i1 : Same G1 H) (s : Same G H) (np : G p = none)
    (k : ∀ v H', Same H H' → Same G (upd H' p (.lst (vs.set n v))) → rep G v x → u D σ (upd H' p (.lst (vs.set n v)))) : tSeq (tAsg te (gSub (tVar i) (tC (.int n)) rSetL)) u D σ H :=
  h.flat i1 s fun v H' g e r => ⟨.ref p, hv, p, vs, n, n, rfl, rfl, e _ _ hp, by unfold ixN; rw [if_pos (by omega), if_pos (by omega)]; rfl, k v H' e (same_mut g.i np) r⟩
/-- xs[n] += k -/
theorem sq_up {i n : Nat} {p : Addr} {vs : List V} {a k : Int} (hv : σ[i]? = some (some (.ref p))) (hp : H p = some (.lst vs)) (hn : vs[n]? = some (.int a))
    (q : u D σ (upd H p (.lst (vs.set n (.int (a + k)))))) : tSeq (tAugS (tVar i) (tC (.int n)) (tC (.int k)) (rGetL K) (ipI fun i j => i + j) rSetL) u D σ H := by
  have hl : n < vs.length := by
    by_cases h : n < vs.length
    · exact h
    · rw [List.getElem?_eq_none (by omega)] at hn; cases hn
  exact ⟨.ref p, hv, p, vs, n, .int a, rfl, rfl, .inl (.inl hp), by omega, atI_nat hn, a, k, rfl, rfl, p, vs, n, n, rfl, rfl, hp, by unfold ixN; rw [if_pos (by omega), if_pos (by omega)]; rfl, q⟩
theorem sq_cut (Mid : L2.St → Hp → Prop) {H : Hp} (h1 : ts { D with nx := Mid } σ H) (h2 : ∀ σ' H', Mid σ' H' → u D σ' H') : C8.tCut ts u D σ H := ⟨Mid, h1, h2⟩
/-- the script, cut at 63 -/
theorem ev_script {i : Nat} {a : Addr} {ns : List Int} (hv : σ[i]? = some (some (.ref a))) (h : SqL K G a (ns.map V.int)) (hl : ns.length ≤ 63) : Ev (tSl (rSlL K) (tVar i) tNoPart (tPart (tC (.int 63)))) σ G ns := fun H s Q q => by
  refine ⟨.ref a, hv, 63, rfl, a, ns.map V.int, rfl, s.seq h, fun p np => ?_⟩
  have e : cutV (ns.map V.int) none (some 63) = ns.map V.int := by
    unfold cutV
    rw [HT.sIx_none, show HT.sIx (ns.map V.int).length (ns.map V.int).length (some 63) = min 63 (ns.map V.int).length from HT.sIx_nat _ _ 63, List.drop_zero, Nat.sub_zero]
    exact List.take_of_length_le (by rw [List.length_map]; omega)
  rw [e]
  exact q _ (upd G p (.lst (ns.map V.int))) _ (gr_new s np) ⟨p, _, rfl, upd_same, paired_of_ints ns⟩
end
theorem gr_bag {G H H' : Hp} {b : Addr} {o : HO} (g : Gr (Mb b) G H G H') (n : G b = none) : Gr (Mb b) G H G (upd H' b o) := g.mut (.inr rfl) n
theorem gr_b0 {G H H' : Hp} {b : Addr} (g : Gr M0 G H G H') : Gr (Mb b) G H G H' := g.wk
theorem gr_bt {G H H1 H2 : Hp} {b : Addr} (x : Gr (Mb b) G H G H1) (y : Gr (Mb b) G H1 G H2) (n : G b = none) : Gr (Mb b) G H G H2 := x.trans y fun a e => .inl (by cases e; exact n)
def spLaw (K : Fg) : Sp := fun vs H Q _ => ∃ (a : Addr) (ns : List Int), vs = [.ref a] ∧ SqL K H a (ns.map V.int) ∧ ns.length ≤ 63 ∧ ∀ H', Q (.bl true) H'
theorem rd_pull {σ : L2.St} {G H : Hp} {tm : TE} {i : Nat} {b : Addr} {many : Int} {E : XK} {Q : VK} (hv : σ[i]? = some (some (.ref b))) (s : Same G H) (bg : Bag G H b) (hm : Ev tm σ G many) (h0 : 0 < many) (hl : many.natAbs.log2 < 9000)
    (k : ∀ r H', 0 ≤ r → r < many → Gr (Mb b) G H G H' → Bag G H' b → Q (.int r) H') : tCall spPull [] E (tCons (tVar i) (tCons tm tNil)) σ H Q :=
  ⟨.ref b, hv, hm.flat s s fun v H1 g1 s1 r1 => ⟨b, many, G, by rw [rep_int r1]; rfl, g1.i, bg.step0 g1, h0, hl, fun r H' a1 a2 g2 b2 => k r H' a1 a2 (gr_bt (gr_b0 g1) g2 bg.1) b2⟩⟩
theorem sq_pull {σ : L2.St} {G H : Hp} {tm : TE} {i j : Nat} {b : Addr} {many : Int} {u : TS} {D : Ends} (hv : σ[i]? = some (some (.ref b))) (s : Same G H) (bg : Bag G H b) (hm : Ev tm σ G many) (h0 : 0 < many) (hl : many.natAbs.log2 < 9000)
    (k : ∀ r H', 0 ≤ r → r < many → Gr (Mb b) G H G H' → Bag G H' b → u D (σ.set j (some (.int r))) H') : tSeq (tAsg (tCall spPull [] E0 (tCons (tVar i) (tCons tm tNil))) (gName j)) u D σ H := rd_pull (E := E0) (Q := fun x H1 => gName j x σ H1 (u D)) hv s bg hm h0 hl k
theorem sq_pullAdd {σ : L2.St} {G H : Hp} {tm : TE} {i j : Nat} {b : Addr} {c many : Int} {u : TS} {D : Ends} (hv : σ[i]? = some (some (.ref b))) (s : Same G H) (bg : Bag G H b) (hm : Ev tm σ G many) (h0 : 0 < many) (hl : many.natAbs.log2 < 9000)
    (k : ∀ r H', 0 ≤ r → r < many → Gr (Mb b) G H G H' → Bag G H' b → u D (σ.set j (some (.int (c + r)))) H') : tSeq (tAsg (tOp (rI0 fun i j => .int (i + j)) (tC (.int c)) (tCall spPull [] E0 (tCons (tVar i) (tCons tm tNil)))) (gName j)) u D σ H :=
  rd_pull (E := E0) (Q := fun x H1 => rI0 (fun i j => .int (i + j)) (.int c) x H1 fun x H1 => gName j x σ H1 (u D)) hv s bg hm h0 hl fun r H' a1 a2 g b2 => ⟨c, r, rfl, rfl, k r H' a1 a2 g b2⟩
end Pf

namespace Pf
open PySem PySem.Spec PyProof.Rows L2
/-! ### pairs in order -/
abbrev ltI (p q : Int × Int) : Bool := SrtO.lexB p q
def insP (x : Int × Int) : List (Int × Int) → List (Int × Int)
  | [] => [x]
  | y :: r => if ltI y x = true then y :: insP x r else x :: y :: r
def sortP : List (Int × Int) → List (Int × Int)
  | [] => []
  | x :: r => insP x (sortP r)
theorem insP_perm (x : Int × Int) : ∀ l, (insP x l).Perm (x :: l)
  | [] => List.Perm.refl _
  | y :: r => by
    unfold insP
    split
    · exact ((insP_perm x r).cons y).trans (List.Perm.swap x y r)
    · exact List.Perm.refl _
theorem sortP_perm : ∀ l, (sortP l).Perm l
  | [] => List.Perm.refl _
  | x :: r => (insP_perm x (sortP r)).trans ((sortP_perm r).cons x)
theorem sortP_len (l : List (Int × Int)) : (sortP l).length = l.length := (sortP_perm l).length_eq
theorem ltI_tr {x y z : Int × Int} (h1 : ltI y x = false) (h2 : ltI z y = false) : ltI z x = false := by
  have a := SrtO.lexB_no.mp h1
  have b := SrtO.lexB_no.mp h2
  refine SrtO.lexB_no.mpr ?_
  omega
theorem ltI_as {x y : Int × Int} (h : ltI x y = true) : ltI y x = false := by
  have a := SrtO.lexB_iff.mp h
  refine SrtO.lexB_no.mpr ?_
  omega
theorem ltI_eq {x y : Int × Int} (h1 : ltI x y = false) (h2 : ltI y x = false) : x = y := by
  have a := SrtO.lexB_no.mp h1
  have b := SrtO.lexB_no.mp h2
  have e1 : x.1 = y.1 := by omega
  have e2 : x.2 = y.2 := by omega
  cases x; cases y
  exact congr (congrArg Prod.mk e1) e2
theorem insP_sorted (x : Int × Int) : ∀ l, SrtO.Srtd ltI l → SrtO.Srtd ltI (insP x l)
  | [], _ => List.pairwise_singleton _ _
  | y :: r, h => by
    obtain ⟨h1, h2⟩ := List.pairwise_cons.mp h
    unfold insP
    split
    · rename_i hy
      refine List.pairwise_cons.mpr ⟨fun z hz => ?_, insP_sorted x r h2⟩
      rcases List.mem_cons.mp ((insP_perm x r).mem_iff.mp hz) with e | e
      · subst e; exact ltI_as hy
      · exact h1 z e
    · rename_i hy
      have hy : ltI y x = false := by simpa using hy
      refine List.pairwise_cons.mpr ⟨fun z hz => ?_, h⟩
      rcases List.mem_cons.mp hz with e | e
      · subst e; exact hy
      · exact ltI_tr hy (h1 z e)
theorem sortP_sorted : ∀ l, SrtO.Srtd ltI (sortP l)
  | [] => List.Pairwise.nil
  | x :: r => insP_sorted x _ (sortP_sorted r)
theorem sorted_uniq : ∀ {l m : List (Int × Int)}, l.Perm m → SrtO.Srtd ltI l → SrtO.Srtd ltI m → l = m
  | [], m, p, _, _ => p.nil_eq
  | x :: l, [], p, _, _ => by cases p.symm.nil_eq
  | x :: l, y :: m, p, h1, h2 => by
    have e : x = y := by
      have hx := p.mem_iff.mp (List.mem_cons_self)
      have hy := p.symm.mem_iff.mp (List.mem_cons_self)
      rcases List.mem_cons.mp hx with e | e
      · exact e
      · rcases List.mem_cons.mp hy with e' | e'
        · exact e'.symm
        · exact ltI_eq ((List.pairwise_cons.mp h2).1 x e) ((List.pairwise_cons.mp h1).1 y e')
    subst e
    rw [sorted_uniq (List.Perm.cons_inv p) (List.pairwise_cons.mp h1).2 (List.pairwise_cons.mp h2).2]
theorem sortP_uniq {l m : List (Int × Int)} (p : l.Perm m) (h : SrtO.Srtd ltI l) : l = sortP m := sorted_uniq (p.trans (sortP_perm m).symm) h (sortP_sorted m)
/-- the pair that stands at a value -/
def keyAt (G : Hp) (v : V) : Int × Int := match v with
  | .ref t => match G t with
    | some (.tup [.int i, .int j]) => (i, j)
    | _ => (0, 0)
  | _ => (0, 0)
theorem keyAt_of {G : Hp} {v : V} {p : Int × Int} (h : rep G v p) : keyAt G v = p ∧ ∃ t, v = .ref t ∧ G t = some (.tup [.int p.1, .int p.2]) := by
  obtain ⟨t, u, w, rfl, h2, h3, h4⟩ := h
  cases h3; cases h4
  unfold keyAt
  exact ⟨by simp only [h2], t, rfl, h2⟩
theorem map_keyAt {G : Hp} : ∀ {vs : List V} {ps : List (Int × Int)}, Paired (rep G) vs ps → vs.map (keyAt G) = ps
  | _, _, .nil => rfl
  | _, _, .cons r t => by rw [List.map_cons, (keyAt_of r).1, map_keyAt t]
theorem paired_keyAt {G : Hp} : ∀ {vs : List V}, (∀ v ∈ vs, ∃ p : Int × Int, rep G v p) → Paired (rep G) vs (vs.map (keyAt G))
  | [], _ => .nil
  | v :: vs, h => by
    obtain ⟨p, hp⟩ := h v List.mem_cons_self
    refine .cons ?_ (paired_keyAt fun u hu => h u (List.mem_cons_of_mem _ hu))
    rw [(keyAt_of hp).1]; exact hp
theorem paired_mem {α : Type} [Rep α] {G : Hp} : ∀ {vs : List V} {xs : List α}, Paired (rep G) vs xs → ∀ v ∈ vs, ∃ x : α, rep G v x
  | _, _, .cons r t, v, h => by
    rcases List.mem_cons.mp h with e | e
    · subst e; exact ⟨_, r⟩
    · exact paired_mem t v e
section
variable {α β : Type} [Rep α] [Rep β] {σ : L2.St} {G H : Hp} {te ta tb : TE} {tt : TT} {x : α} {K : Fg} {D : Ends} {ts tr u : TS}
theorem ev_sortedP {ps : List (Int × Int)} (ha : Ev ta σ G ps) : Ev (tCB (rSortedPO K) (tCons ta tNil)) σ G (sortP ps) := ev_B1 ha fun v G' H _ i k Q q => by
  obtain ⟨a, vs, rfl, h2, h3⟩ := k
  refine ⟨a, vs, keyAt G', rfl, .inl (.inl (i _ _ h2)), fun x hx => ?_, fun ys p hs hb np => ?_⟩
  · obtain ⟨p, hp⟩ := paired_mem h3 x hx
    obtain ⟨e, t, e1, e2⟩ := keyAt_of hp
    exact ⟨t, e1, by rw [e]; exact i _ _ e2⟩
  · have hy : ∀ v ∈ ys, ∃ p : Int × Int, rep G' v p := fun v hv => paired_mem h3 v (hb.perm.mem_iff.mp hv)
    have hm : ys.map (keyAt G') = sortP ps := by
      refine sortP_uniq ?_ (List.pairwise_map.mpr hs)
      rw [← map_keyAt h3]
      exact hb.perm.map _
    refine q _ (upd G' p (.lst ys)) _ (gr_new i np) ⟨p, ys, rfl, upd_same, ?_⟩
    rw [← hm]
    exact paired_mono (gr_new (o := .lst ys) i np).g (paired_keyAt hy)
/-! ### at one heap -/
def EvH (te : TE) (σ : L2.St) (G H : Hp) (x : α) : Prop := ∀ Q : VK, (∀ v G' H', Gr M0 G H G' H' → rep G' v x → Q v H') → te σ H Q
def EvIH (wi : TI) (σ : L2.St) (G H : Hp) (xs : List α) : Prop := ∀ R : It → Hp → Prop, (∀ J G' H', Gr M0 G H G' H' → ItOk J G' xs → R J H') → wi σ H R
theorem Ev.at (h : Ev te σ G x) (s : Same G H) : EvH te σ G H x := h H s
theorem EvI.at {wi : TI} {xs : List α} (h : EvI wi σ G xs) (s : Same G H) : EvIH wi σ G H xs := h H s
theorem eih_list {xs : List α} (h : EvH te σ G H xs) : EvIH (iList K te) σ G H xs := fun R q => h _ fun v G' H' g k => by
  obtain ⟨a, vs, rfl, h2, h3⟩ := k
  refine ⟨a, rfl, ⟨vs, .inl (.inl (g.i _ _ h2))⟩, q _ G' H' g ⟨fun k H s l => ?_, fun k H s l => ?_, fun k H v H' G1 x s1 s2 y e => ?_⟩⟩
  · obtain ⟨v, e, _⟩ := paired_get h3 (List.getElem?_eq_getElem l)
    exact ⟨vs, v, .inl (.inl (s _ _ h2)), e⟩
  · exact ⟨vs, .inl (.inl (s _ _ h2)), by rw [paired_len h3]; exact l⟩
  · obtain ⟨rfl, y⟩ := y
    have e1 := y vs (.inl (.inl (s2 _ _ (s1 _ _ h2))))
    obtain ⟨x', e2, r⟩ := paired_get' h3 e1
    rw [e] at e2
    cases e2
    exact ⟨G1, Gr.refl s2, Rep.mono s1 r⟩
theorem st_forH {g : TG} {wi : TI} {xs : List α} (P : Nat → L2.St → Hp → Hp → Prop) (hx : EvIH wi σ G H xs)
    (h0 : ∀ G' H', Gr M0 G H G' H' → P 0 σ G' H')
    (hs : ∀ k x v σ' G1 H1 G2 H2, xs[k]? = some x → Same G G1 → Same G1 H1 → P k σ' G1 H1 → Gr M0 G1 H1 G2 H2 → rep G2 v x →
      g v σ' H2 fun σ2 H3 => ts { nx := fun σ3 H3 => ∃ G3, Same G1 G3 ∧ Same G3 H3 ∧ P (k + 1) σ3 G3 H3, rt := D.rt, ct := fun σ3 H3 => ∃ G3, Same G1 G3 ∧ Same G3 H3 ∧ P (k + 1) σ3 G3 H3, bk := D.nx } σ2 H3)
    (hd : ∀ σ' G' H', Same G G' → Same G' H' → P xs.length σ' G' H' → D.nx σ' H') : tFor wi g ts D σ H := by
  refine hx _ fun J G1 H1 g1 ok => ?_
  refine ⟨fun k m σ' H' => m = xs.length - k ∧ k ≤ xs.length ∧ ∃ Gk, Same G1 Gk ∧ Same Gk H' ∧ P k σ' Gk H', ⟨_, rfl, Nat.zero_le _, G1, Same.refl G1, g1.i, h0 G1 H1 g1⟩, ?_⟩
  rintro k m σ' H2 ⟨rfl, hk, Gk, sg, sh, pk⟩
  by_cases hlt : k < xs.length
  · refine .inr ⟨ok.go k H2 (sg.trans sh) hlt, fun σ3 H3 => ∃ G3, Same Gk G3 ∧ Same G3 H3 ∧ P (k + 1) σ3 G3 H3, fun σ3 H3 h3 => ?_, fun v H3 yl => ?_⟩
    · obtain ⟨G3, e1, e2, e3⟩ := h3
      exact ⟨xs.length - (k + 1), by omega, rfl, hlt, G3, sg.trans e1, e2, e3⟩
    · obtain ⟨G3, g3, r3⟩ := ok.yld k H2 v H3 Gk xs[k] sg sh yl (List.getElem?_eq_getElem hlt)
      exact hs k xs[k] v σ' Gk H2 G3 H3 (List.getElem?_eq_getElem hlt) (g1.g.trans sg) sh pk g3 r3
  · have e : k = xs.length := by omega
    subst e
    exact .inl ⟨ok.stop _ H2 (sg.trans sh) (Nat.le_refl _), hd σ' Gk H2 (g1.g.trans sg) sh pk⟩
theorem sq_forH {g : TG} {wi : TI} {xs : List α} (P : Nat → L2.St → Hp → Hp → Prop) (hx : EvIH wi σ G H xs)
    (h0 : ∀ G' H', Gr M0 G H G' H' → P 0 σ G' H')
    (hs : ∀ k x v σ' G1 H1 G2 H2, xs[k]? = some x → Same G G1 → Same G1 H1 → P k σ' G1 H1 → Gr M0 G1 H1 G2 H2 → rep G2 v x →
      g v σ' H2 fun σ2 H3 => ts { nx := fun σ3 H3 => ∃ G3, Same G1 G3 ∧ Same G3 H3 ∧ P (k + 1) σ3 G3 H3, rt := D.rt, ct := fun σ3 H3 => ∃ G3, Same G1 G3 ∧ Same G3 H3 ∧ P (k + 1) σ3 G3 H3, bk := u D } σ2 H3)
    (hd : ∀ σ' G' H', Same G G' → Same G' H' → P xs.length σ' G' H' → u D σ' H') : tSeq (tFor wi g ts) u D σ H := st_forH (D := { D with nx := u D }) P hx h0 hs hd
/-! ### a dict with pairs as keys, still being made -/
abbrev kk (p : Int × Int) : List Key := [Sum.inl p.1, Sum.inl p.2]
theorem kk_inj {p q : Int × Int} (h : kk p = kk q) : p = q := by
  injection h with h1 h
  injection h with h2 h
  cases p; cases q
  exact congr (congrArg Prod.mk (Sum.inl.inj h1)) (Sum.inl.inj h2)
def OptRep (G : Hp) (o : Option V) (m : Option α) : Prop := match m with
  | some x => ∃ v, o = some v ∧ rep G v x
  | none => o = none
def Md (G H : Hp) (d : Addr) (n : Nat) (m : Int × Int → Option α) : Prop := G d = none ∧ ∃ kvs, H d = some (.dT kvs) ∧ kvs.length ≤ n ∧ ∀ p, OptRep G (valV kvs (kk p)) (m p)
theorem OptRep.mono {G G' : Hp} (e : Same G G') {o : Option V} {m : Option α} (h : OptRep G o m) : OptRep G' o m := by
  cases m with
  | none => exact h
  | some x => obtain ⟨v, h1, h2⟩ := h; exact ⟨v, h1, Rep.mono e h2⟩
theorem Md.step {M : Addr → Prop} {G H G' H' : Hp} {d : Addr} {n : Nat} {m : Int × Int → Option α} (x : Md G H d n m) (g : Gr M G H G' H') (hp : ¬ M d) : Md G' H' d n m := by
  obtain ⟨h1, kvs, h2, h3, h4⟩ := x
  exact ⟨g.out h1 h2, kvs, g.h _ _ hp h2, h3, fun p => (h4 p).mono g.g⟩
theorem Md.step0 {G H G' H' : Hp} {d : Addr} {n : Nat} {m : Int × Int → Option α} (x : Md G H d n m) (g : Gr M0 G H G' H') : Md G' H' d n m := x.step g fun z => z
theorem Md.other {q d : Addr} {o : HO} {n : Nat} {m : Int × Int → Option α} (x : Md G H d n m) (ne : d ≠ q) : Md G (upd H q o) d n m := by
  obtain ⟨h1, kvs, h2, h⟩ := x
  exact ⟨h1, kvs, by rw [upd_ne ne]; exact h2, h⟩
theorem Md.up {G' : Hp} {d : Addr} {n : Nat} {m : Int × Int → Option α} (x : Md G H d n m) (g : Same G G') (nd : G' d = none) : Md G' H d n m := by
  obtain ⟨h1, kvs, h2, h3, h4⟩ := x
  exact ⟨nd, kvs, h2, h3, fun p => (h4 p).mono g⟩
theorem Md.cast {d : Addr} {n : Nat} {m m' : Int × Int → Option α} (x : Md G H d n m) (e : ∀ p, m p = m' p) : Md G H d n m' := by
  obtain ⟨h1, kvs, h2, h3, h4⟩ := x
  exact ⟨h1, kvs, h2, h3, fun p => by rw [← e p]; exact h4 p⟩
theorem sq_newdict {i : Nat} (s : Same G H) (k : ∀ d o, H d = none → Md (α := α) G (upd H d o) d 0 (fun _ => none) → Same G (upd H d o) → u D (σ.set i (some (.ref d))) (upd H d o)) : tSeq (tAsg tDNewT (gName i)) u D σ H := fun d nd =>
  k d (.dT []) nd ⟨up_none s nd, [], upd_same, Nat.le_refl _, fun p => rfl⟩ (same_mut s (up_none s nd))
/-- d[a, b] -/
theorem evh_dget {i : Nat} {d : Addr} {n : Nat} {m : Int × Int → Option α} {p : Int × Int} {x : α} (hv : σ[i]? = some (some (.ref d))) (md : Md G H d n m) (s : Same G H) (hk : Ev te σ G p) (hm : m p = some x) : EvH (tDGet (tVar i) te) σ G H x := fun Q q =>
  ⟨.ref d, hv, hk H s _ fun v G1 H1 g1 k1 => by
    obtain ⟨n1, kvs, e1, _, e3⟩ := md.step0 g1
    have h := e3 p
    rw [hm] at h
    obtain ⟨w, e4, r⟩ := h
    obtain ⟨t, u, w', rfl, h2, h3, h4⟩ := k1
    cases h3; cases h4
    exact ⟨d, w, rfl, e4 ▸ DGet.t (k := kk p) e1 (g1.i _ _ h2), q w G1 H1 g1 r⟩⟩
/-- d[a, b] = e, e stands still from then on -/
theorem sq_dput {i : Nat} {d : Addr} {n : Nat} {m : Int × Int → Option α} {p : Int × Int} {x : α} (hv : σ[i]? = some (some (.ref d))) (md : Md G H d n m) (s : Same G H) (hx : Ev te σ G x) (hk : Ev tb σ G p) (hn : n < 100000)
    (k : ∀ G' H' o, Gr M0 G H G' H' → Md G' (upd H' d o) d (n + 1) (fun q => if q = p then some x else m q) → Same G' (upd H' d o) → D.nx σ (upd H' d o)) : sDPut (tVar i) tb te D σ H := hx H s _ fun v G1 H1 g1 k1 =>
  ⟨.ref d, hv, (hk.mono g1.g) H1 g1.i _ fun w G2 H2 g2 k2 => by
    obtain ⟨n1, kvs, e1, e2, e3⟩ := (md.step0 g1).step0 g2
    obtain ⟨t, u, w', rfl, h2, h3, h4⟩ := k2
    cases h3; cases h4
    refine ⟨d, upd H2 d (.dT (putK kvs (kk p) v)), rfl, DPut.t (k := kk p) e1 (g2.i _ _ h2) (sl_lt (by omega)), ?_⟩
    refine k G2 H2 _ (g1.trans g2) ⟨n1, _, upd_same, ?_, fun q => ?_⟩ (same_mut g2.i n1)
    · unfold putK
      split
      · rw [List.length_map]; omega
      · rw [List.length_append]; show kvs.length + 1 ≤ n + 1; omega
    · rw [valV_put]
      by_cases e : q = p
      · subst e
        rw [if_pos rfl]
        simp only [if_pos]
        exact ⟨v, rfl, Rep.mono g2.g k1⟩
      · rw [if_neg fun z => e (kk_inj z)]
        simp only [if_neg e]
        exact e3 q⟩
theorem st_retC {y : α} (h : Ev te σ G x) (s : Same G H) (e : x = y) (k : ∀ v G' H', Gr M0 G H G' H' → rep G' v y → D.rt v H') : tRet te D σ H := h H s _ fun v G' H' g r => k v G' H' g (e ▸ r)
end
end Pf

namespace Pf
open PySem PySem.Spec PyProof.Rows L2
/-! ### == of data -/
mutual
theorem rd_dp {K : Fg} {G H : Hp} (i : Same G H) : ∀ (d : PyData) (v : V), RD G d v → Dp K H v d
  | .none, v, h => by rw [show v = .non from h]; exact .non
  | .bool b, v, h => by rw [show v = .bl b from h]; exact .bl b
  | .int b, v, h => by rw [show v = .int b from h]; exact .int b
  | .str b, v, h => by rw [show v = .str b from h]; exact .str b
  | .list ds, v, ⟨a, vs, h1, h2, h3⟩ => by rw [h1]; exact .lst (.inl (.inl (i _ _ h2))) (rds_dp i ds vs h3)
  | .tuple ds, v, ⟨a, vs, h1, h2, h3⟩ => by rw [h1]; exact .tup (.inl (.inl (i _ _ h2))) (rds_dp i ds vs h3)
  | .dict _, v, h => h.elim
theorem rds_dp {K : Fg} {G H : Hp} (i : Same G H) : ∀ (ds : List PyData) (vs : List V), RDs G ds vs → DpAll K H vs ds
  | [], vs, h => by rw [show vs = [] from h]; exact .nil
  | d :: ds, _, ⟨v, r, h1, h2, h3⟩ => by rw [h1]; exact .cons (rd_dp i d v h2) (rds_dp i ds r h3)
end
/-- data that == tells apart as Lean does -/
class DatE (α : Type) [Rep α] [DecidableEq α] extends Dat α where
  ok : ∀ x : α, (dat x).canLay0 = true
  dp : Nat
  deep : ∀ x : α, (dat x).depth ≤ dp
  eq : ∀ x y : α, PyData.eqv (dat x) (dat y) = decide (x = y)
instance : DatE Int := { (inferInstance : Dat Int) with ok := fun _ => rfl, dp := 0, deep := fun _ => Nat.le_refl _, eq := fun x y => Bool.beq_eq_decide_eq x y }
section
variable {α β : Type} [Rep α] [DecidableEq α] [DatE α] [Rep β] [DecidableEq β] [DatE β]
theorem lay_map : ∀ xs : List α, PyData.canLayAll0 (xs.map dat) = true
  | [] => rfl
  | x :: xs => by rw [List.map_cons, PyData.canLayAll0, DatE.ok x, lay_map xs]; rfl
theorem deep_map : ∀ xs : List α, PyData.depthAll (xs.map dat) ≤ DatE.dp α
  | [] => Nat.zero_le _
  | x :: xs => by rw [List.map_cons, PyData.depthAll]; exact Nat.max_le.mpr ⟨DatE.deep x, deep_map xs⟩
theorem eq_map : ∀ xs ys : List α, PyData.eqvAll (xs.map dat) (ys.map dat) = decide (xs = ys)
  | [], [] => rfl
  | [], y :: ys => by rw [decide_eq_false (fun h => by cases h)]; rfl
  | x :: xs, [] => by rw [decide_eq_false (fun h => by cases h)]; rfl
  | x :: xs, y :: ys => by
    rw [List.map_cons, List.map_cons, PyData.eqvAll, DatE.eq x y, eq_map xs ys]
    by_cases h1 : x = y <;> by_cases h2 : xs = ys <;> simp [h1, h2]
end
instance {α : Type} [Rep α] [DecidableEq α] [DatE α] : DatE (List α) := { (inferInstance : Dat (List α)) with ok := fun xs => lay_map xs, dp := DatE.dp α + 1, deep := fun xs => Nat.succ_le_succ (deep_map xs), eq := fun xs ys => eq_map xs ys }
theorem tup_dec {α : Type} [DecidableEq α] (xs ys : Tup α) : decide (xs.l = ys.l) = decide (xs = ys) := by
  cases xs; cases ys
  simp
instance {α : Type} [Rep α] [DecidableEq α] [DatE α] : DatE (Tup α) := { (inferInstance : Dat (Tup α)) with ok := fun xs => lay_map xs.l, dp := DatE.dp α + 1, deep := fun xs => Nat.succ_le_succ (deep_map xs.l), eq := fun xs ys => (eq_map xs.l ys.l).trans (tup_dec xs ys) }
instance {α β : Type} [Rep α] [DecidableEq α] [DatE α] [Rep β] [DecidableEq β] [DatE β] : DatE (α × β) := { (inferInstance : Dat (α × β)) with
  ok := fun x => by
    show PyData.canLayAll0 [dat x.1, dat x.2] = true
    rw [PyData.canLayAll0, PyData.canLayAll0, PyData.canLayAll0, DatE.ok, DatE.ok]; rfl
  dp := max (DatE.dp α) (DatE.dp β) + 1
  deep := fun x => by
    show PyData.depthAll [dat x.1, dat x.2] + 1 ≤ _
    rw [PyData.depthAll, PyData.depthAll, PyData.depthAll]
    exact Nat.succ_le_succ (Nat.max_le.mpr ⟨Nat.le_trans (DatE.deep x.1) (Nat.le_max_left _ _), Nat.max_le.mpr ⟨Nat.le_trans (DatE.deep x.2) (Nat.le_max_right _ _), Nat.zero_le _⟩⟩)
  eq := fun x y => by
    show PyData.eqvAll [dat x.1, dat x.2] [dat y.1, dat y.2] = _
    rw [PyData.eqvAll, PyData.eqvAll, PyData.eqvAll, DatE.eq, DatE.eq]
    cases x; cases y
    simp }
theorem shaped_dat {α : Type} [Rep α] [DecidableEq α] [DatE α] (x : α) (h : DatE.dp α ≤ 64) : SeqAt.shaped (dat x) = true := by
  unfold SeqAt.shaped
  rw [DatE.ok x, decide_eq_true (Nat.le_trans (DatE.deep x) h)]; rfl
section
variable {α β γ : Type} [Rep α] [Rep β] [Rep γ] {σ : L2.St} {G H : Hp} {te ta tb : TE} {tt : TT} {x y : α} {K : Fg} {D : Ends} {ts tr u : TS}
theorem ev_eqT [DecidableEq α] [DatE α] (ha : Ev ta σ G x) (hb : Ev tb σ G y) (h : DatE.dp α ≤ 64) : Ev (tOp (rEqD K) ta tb) σ G (decide (x = y)) :=
  ev2 ha hb fun v u G' _ k1 k2 H i Q q => ⟨dat x, dat y, rd_dp i _ _ (Dat.rd k1), rd_dp i _ _ (Dat.rd k2), shaped_dat x h, shaped_dat y h, q _ G' H (Gr.refl i) (by rw [DatE.eq]; rfl)⟩
theorem ev_neT [DecidableEq α] [DatE α] (ha : Ev ta σ G x) (hb : Ev tb σ G y) (h : DatE.dp α ≤ 64) : Ev (tOp (rNeD K) ta tb) σ G (!decide (x = y)) :=
  ev2 ha hb fun v u G' _ k1 k2 H i Q q => ⟨dat x, dat y, rd_dp i _ _ (Dat.rd k1), rd_dp i _ _ (Dat.rd k2), shaped_dat x h, shaped_dat y h, q _ G' H (Gr.refl i) (by rw [DatE.eq]; rfl)⟩
theorem any_dat [DecidableEq α] [DatE α] (x : α) : ∀ xs : List α, ((xs.map dat).any fun z => PyData.eqv z (dat x)) = decide (x ∈ xs)
  | [] => by simp
  | y :: ys => by
    rw [List.map_cons, List.any_cons, DatE.eq, any_dat x ys]
    by_cases h : y = x
    · subst h; simp
    · have h' : ¬ x = y := fun z => h z.symm
      simp [h, h']
theorem ev_inL [DecidableEq α] [DatE α] {xs : List α} (ha : Ev ta σ G x) (hb : Ev tb σ G xs) (h : DatE.dp α + 1 ≤ 64) : Ev (tOp (rInD K) ta tb) σ G (decide (x ∈ xs)) :=
  ev2 ha hb fun v u G' _ k1 k2 H i Q q => ⟨dat x, xs.map dat, rd_dp i _ _ (Dat.rd k1), rd_dp i _ _ (Dat.rd k2), shaped_dat x (by omega), shaped_dat xs h, q _ G' H (Gr.refl i) (by rw [any_dat]; rfl)⟩
/-! ### pairs by < -/
theorem lexLt_pair (p q : Int × Int) : HT.lexLt [p.1, p.2] [q.1, q.2] = ltI p q := by
  rw [HT.lexLt_cons, HT.lexLt_cons, HT.lexLt_nil_nil]
  unfold ltI SrtO.lexB
  by_cases h1 : p.1 = q.1
  · rw [if_pos h1, if_pos h1]
    by_cases h2 : p.2 = q.2
    · rw [if_pos h2, decide_eq_false (by omega)]
    · rw [if_neg h2]
  · rw [if_neg h1, if_neg h1]
theorem ev_ltP {p q : Int × Int} (ha : Ev ta σ G p) (hb : Ev tb σ G q) : Ev (tOp (rLtT K) ta tb) σ G (ltI p q) :=
  ev2 ha hb fun v u G' _ k1 k2 H i Q k => by
    obtain ⟨_, t1, rfl, e1⟩ := keyAt_of k1
    obtain ⟨_, t2, rfl, e2⟩ := keyAt_of k2
    exact ⟨t1, t2, [p.1, p.2], [q.1, q.2], rfl, rfl, .inl (.inl (i _ _ e1)), .inl (.inl (i _ _ e2)), k _ G' H (Gr.refl i) (by rw [lexLt_pair]; rfl)⟩
/-! ### tuples cut and put together -/
def cutI {ι : Type} (xs : List ι) (lo hi : Option Int) : List ι := (xs.drop (HT.sIx xs.length 0 lo)).take (HT.sIx xs.length xs.length hi - HT.sIx xs.length 0 lo)
theorem paired_cut {vs : List V} {xs : List α} (h : Paired (rep G) vs xs) (lo hi : Option Int) : Paired (rep G) (cutV vs lo hi) (cutI xs lo hi) := by
  unfold cutV cutI
  rw [paired_len h]
  exact paired_take _ (paired_drop _ h)
def EvO (to : TO) (σ : L2.St) (G : Hp) (o : Option Int) : Prop := ∀ H, Same G H → ∀ Q : Option Int → Hp → Prop, (∀ G' H', Gr M0 G H G' H' → Q o H') → to σ H Q
theorem eo_none : EvO tNoPart σ G none := fun H i Q q => q G H (Gr.refl i)
theorem eo_some {n : Int} (h : Ev te σ G n) : EvO (tPart te) σ G (some n) := fun H i Q q => h H i _ fun v G' H' g k => ⟨n, k, q G' H' g⟩
theorem EvO.mono {to : TO} {o : Option Int} {G1 : Hp} (h : EvO to σ G o) (e : Same G G1) : EvO to σ G1 o := fun H i Q q => h H (e.trans i) Q fun G' H' g => q (uni G' G1) H' (gr_up e i g)
theorem cut_whole {ι : Type} {xs : List ι} {lo hi : Option Int} (h : HT.sIx xs.length 0 lo = 0 ∧ HT.sIx xs.length xs.length hi = xs.length) : cutI xs lo hi = xs := by
  unfold cutI
  rw [h.1, h.2, List.drop_zero, Nat.sub_zero, List.take_length]
theorem ev_slT {xs : Tup α} {tl th : TO} {lo hi : Option Int} (ha : Ev ta σ G xs) (hl : EvO tl σ G lo) (hh : EvO th σ G hi) : Ev (tSl (rSlA K) ta tl th) σ G (Tup.mk (cutI xs.l lo hi)) := fun H i Q q =>
  ha H i _ fun v G1 H1 g1 k1 => (hl.mono g1.g) H1 g1.i _ fun G2 H2 g2 => (hh.mono (g1.g.trans g2.g)) H2 g2.i _ fun G3 H3 g3 => by
    obtain ⟨a, vs, rfl, h2, h3⟩ := k1
    have e3 := (g2.g.trans g3.g) _ _ h2
    have h3' := paired_mono (g2.g.trans g3.g) h3
    have g13 := (g1.trans g2).trans g3
    have hl := paired_len h3'
    refine ⟨a, vs, rfl, .inl (.inl (g3.i _ _ e3)), fun hw => ?_, fun hw p np => ?_⟩
    · rw [hl] at hw
      exact q _ G3 H3 g13 ⟨a, vs, rfl, e3, by rw [cut_whole hw]; exact h3'⟩
    · exact q _ (upd G3 p (.tup (cutV vs lo hi))) _ (g13.trans (gr_new g3.i np)) ⟨p, _, rfl, upd_same, paired_mono (gr_new (o := .tup (cutV vs lo hi)) g3.i np).g (paired_cut h3' lo hi)⟩
theorem ev_catT {xs ys : Tup α} (ha : Ev ta σ G xs) (hb : Ev tb σ G ys) (hl : xs.l.length + ys.l.length ≤ 100000) : Ev (tOp (rCatA K) ta tb) σ G (Tup.mk (xs.l ++ ys.l)) :=
  ev2 ha hb fun v u G' _ k1 k2 H i Q q => by
    obtain ⟨a, vs, rfl, h2, h3⟩ := k1
    obtain ⟨b, us, rfl, h4, h5⟩ := k2
    refine ⟨a, b, vs, us, rfl, rfl, .inl (.inl (i _ _ h2)), .inl (.inl (i _ _ h4)), by rw [paired_len h3, paired_len h5]; exact sl_small hl, fun e => ?_, fun e1 e2 => ?_, fun e1 e2 p np => ?_⟩
    · subst e
      refine q _ G' H (Gr.refl i) ⟨b, us, rfl, h4, ?_⟩
      have ex : xs.l = [] := by
        have := paired_len h3
        exact List.length_eq_zero_iff.mp this.symm
      rw [ex]; exact h5
    · subst e2
      refine q _ G' H (Gr.refl i) ⟨a, vs, rfl, h2, ?_⟩
      have ex : ys.l = [] := by
        have := paired_len h5
        exact List.length_eq_zero_iff.mp this.symm
      rw [ex, List.append_nil]; exact h3
    · exact q _ (upd G' p (.tup (vs ++ us))) _ (gr_new i np) ⟨p, _, rfl, upd_same, paired_mono (gr_new (o := .tup (vs ++ us)) i np).g (paired_app h3 h5)⟩
/-! ### zip of two tuples -/
theorem ei_zipT {xs : Tup α} {ys : Tup β} (ha : Ev ta σ G xs) (hb : Ev tb σ G ys) : EvI (RZ.iZipA K (tCons ta (tCons tb tNil))) σ G (xs.l.zip ys.l) := fun H i R q =>
  ha H i _ fun v G1 H1 g1 k1 => (hb.mono g1.g) H1 g1.i _ fun w G2 H2 g2 k2 => by
    obtain ⟨a, vs, rfl, h2, h3⟩ := k1
    obtain ⟨b, us, rfl, h4, h5⟩ := k2
    have h2' := g2.g _ _ h2
    have h3' := paired_mono g2.g h3
    refine ⟨a, b, vs, us, rfl, .inr ⟨.inl (.inl (g2.i _ _ h2')), .inl (.inl (g2.i _ _ h4)), q _ G2 H2 (g1.trans g2) ⟨fun k H s l => ?_, fun k H s l => ?_, fun k H v H' Ga x s1 s2 yl e => ?_⟩⟩⟩
    · rw [List.length_zip] at l
      obtain ⟨v1, e1, _⟩ := paired_get h3' (List.getElem?_eq_getElem (show k < xs.l.length by omega))
      obtain ⟨v2, e2, _⟩ := paired_get h5 (List.getElem?_eq_getElem (show k < ys.l.length by omega))
      exact ⟨vs, us, v1, v2, .inl (.inl (s _ _ h2')), .inl (.inl (s _ _ h4)), e1, e2⟩
    · rw [List.length_zip] at l
      have e1 := paired_len h3'
      have e2 := paired_len h5
      exact ⟨vs, us, .inl (.inl (s _ _ h2')), .inl (.inl (s _ _ h4)), by omega⟩
    · obtain ⟨T, x1, x2, rfl, nT, rfl, f1, f2⟩ := yl
      have e1 := f1 vs (.inl (.inl (s2 _ _ (s1 _ _ h2'))))
      have e2 := f2 us (.inl (.inl (s2 _ _ (s1 _ _ h4))))
      obtain ⟨z1, ez1, r1⟩ := paired_get' h3' e1
      obtain ⟨z2, ez2, r2⟩ := paired_get' h5 e2
      have ex : x = (z1, z2) := by
        rw [List.getElem?_zip_eq_some] at e
        obtain ⟨e3, e4⟩ := e
        rw [ez1] at e3
        rw [ez2] at e4
        cases x
        exact congr (congrArg Prod.mk (Option.some.inj e3).symm) (Option.some.inj e4).symm
      subst ex
      have gn := gr_new (o := .tup [x1, x2]) s2 nT
      exact ⟨upd Ga T (.tup [x1, x2]), gn, T, x1, x2, rfl, upd_same, Rep.mono (s1.trans gn.g) r1, Rep.mono (s1.trans gn.g) r2⟩
/-! ### a comprehension whose source has come -/
def LcK (g : TG) (tt : TT) (te : TE) (vs : List Nat) (σ : L2.St) (Q : VK) (J : It) (H1 : Hp) : Prop := ∀ D, H1 D = none → ∃ W : Nat → Nat → Hp → Prop, (∃ m, W 0 m (upd H1 D (.lst []))) ∧ ∀ i m H, W i m H →
  (J.stop i H ∧ Q (.ref D) H) ∨ (J.go i H ∧ ∃ Nx : Hp → Prop, (∀ H', Nx H' → ∃ m', m' < m ∧ W (i + 1) m' H') ∧ ∀ x H', J.yld i H x H' → g x (wipe σ vs) H' fun σ2 H2 => wipe σ2 vs = wipe σ vs ∧ tt σ2 H2 fun b H3 =>
    if b = true then te σ2 H3 fun y H4 => ∃ acc, H4 D = some (.lst acc) ∧ acc.length < sizeLine ∧ Nx (upd H4 D (.lst (acc ++ [y]))) else Nx H3)
theorem lc_rest {J : It} {g : TG} {vs : List Nat} {xs : List α} {p : α → Bool} {f : α → β} {H1 : Hp} {Q : VK} (ok : ItOk J G xs) (i : Same G H1) (hl : xs.length ≤ 100000)
    (hb : ∀ x ∈ xs, ∀ v G1, Same G G1 → rep G1 v x → GB g v (wipe σ vs) G1 fun σ2 => wipe σ2 vs = wipe σ vs ∧ EvT tt σ2 G1 (p x) ∧ (p x = true → Ev te σ2 G1 (f x)))
    (q : ∀ v G' H', Gr M0 G H1 G' H' → rep G' v ((xs.filter p).map f) → Q v H') : LcK g tt te vs σ Q J H1 := by
  have h := ev_lcf (wi := fun _ H R => R J H) (σ := σ) (G := G) (g := g) (tt := tt) (te := te) (vs := vs) (p := p) (f := f) (xs := xs) (fun H i R k => k J G H (Gr.refl i) ok) hl hb H1 i Q q
  exact h
theorem sq_lcw {wi : TI} {g : TG} {vs : List Nat} {i : Nat} (h : wi σ H (LcK g tt te vs σ fun x H1 => u D (σ.set i (some x)) H1)) : tSeq (tAsg (tLc wi g tt te vs) (gName i)) u D σ H := h
theorem il_at {f : It → Hp → Prop} {Q : Addr → Hp → Prop} {σ' : L2.St} (h : te σ' H fun x H1 => ∃ a, x = .ref a ∧ (∃ xs, SqL K H1 a xs) ∧ f (Itl K a) H1) : iList K te σ' H f := h
theorem itok_list {a : Addr} {vs : List V} {xs : List α} (h2 : G a = some (.lst vs)) (h3 : Paired (rep G) vs xs) : ItOk (Itl K a) G xs := by
  refine ⟨fun k H s l => ?_, fun k H s l => ?_, fun k H v H' G1 x s1 s2 y e => ?_⟩
  · obtain ⟨v, e, _⟩ := paired_get h3 (List.getElem?_eq_getElem l)
    exact ⟨vs, v, .inl (.inl (s _ _ h2)), e⟩
  · exact ⟨vs, .inl (.inl (s _ _ h2)), by rw [paired_len h3]; exact l⟩
  · obtain ⟨rfl, y⟩ := y
    have e1 := y vs (.inl (.inl (s2 _ _ (s1 _ _ h2))))
    obtain ⟨x', e2, r⟩ := paired_get' h3 e1
    rw [e] at e2
    cases e2
    exact ⟨G1, Gr.refl s2, Rep.mono s1 r⟩
end
end Pf

namespace Pf
open PySem PySem.Spec PyProof.Rows L2
section
variable {X : Cx} {K : Fg}
theorem sl_tupAK (h : X.K = K) : SlR X (rSlA K) := h ▸ sl_tupA
theorem op_catAK (h : X.K = K) : OpR X (binaryOp .Add) (rCatA K) := h ▸ op_catA
theorem pi_zipAK {tg it : Expr} {ta : TA} (h : X.K = K) (hz : PI X tg it (RZ.iZipA X.K ta)) : PI X tg it (RZ.iZipA K ta) := h ▸ hz
/-! ### a < b < c < d -/
def tChain3 (r r' r'' : R2) (ta tb tc td : TE) : TE := fun σ H Q => ta σ H fun x H1 => tb σ H1 fun y H2 => r x y H2 fun z H3 => ∃ k, z = .bl k ∧
  (if k = true then tc σ H3 fun w' H4 => r' y w' H4 fun z' H5 => ∃ k', z' = .bl k' ∧ (if k' = true then td σ H5 fun w'' H6 => r'' w' w'' H6 Q else Q (.bl false) H5) else Q (.bl false) H3)
theorem ite_y {A B : Prop} (h : A) : if true = true then A else B := by rw [if_pos rfl]; exact h
theorem ite_n {A B : Prop} (h : B) : if false = true then A else B := by rw [if_neg Bool.false_ne_true]; exact h
theorem pe_chain3 {op op' op'' : CmpOp} {r r' r'' : R2} {a b c d : Expr} {ta tb tc td : TE} {pos : Pos} (ho : OpR X (compareOp op) r) (ho' : OpR X (compareOp op') r') (ho'' : OpR X (compareOp op'') r'') (ha : PE X a ta) (hb : PE X b tb) (hc : PE X c tc) (hd : PE X d td)
    (hm : lastMarks [op, op', op''] [b, c, d] = false := by with_unfolding_all rfl) : PE X (.Compare a [op, op', op''] [b, c, d] pos) (tChain3 r r' r'' ta tb tc td) := by
  refine ⟨fun pins s σ H Q I h => ?_⟩
  refine Compare_chain (thn (ha.run pins s σ H _ I h) fun v s1 ⟨x, H1, I1, r1, q1⟩ => chain_link (thn (hb.run pins s1 σ H1 _ I1 q1) fun u s2 ⟨y, H2, I2, r2, q2⟩ =>
    thn (ho pins s2 σ H2 x y v u _ I2 r1 r2 q2) fun d1 s3 ⟨z, H3, I3, r3, k, e, q3⟩ => ?_)) hm
  subst e
  cases r3
  refine wpAny_truthy_bool ?_
  cases k with
  | false => exact ite_n ⟨.bl false, H3, I3, rfl, q3⟩
  | true =>
    refine ite_y (chain_link (thn (hc.run pins s3 σ H3 _ I3 q3) fun w4 s4 ⟨z4, H4, I4, r4, q4⟩ => thn (ho' pins s4 σ H4 y z4 u w4 _ I4 r2 r4 q4) fun d5 s5 ⟨z5, H5, I5, r5, k5, e5, q5⟩ => ?_))
    subst e5
    cases r5
    refine wpAny_truthy_bool ?_
    cases k5 with
    | false => exact ite_n ⟨.bl false, H5, I5, rfl, q5⟩
    | true => exact ite_y (chain_last (thn (hd.run pins s5 σ H5 _ I5 q5) fun w6 s6 ⟨z6, H6, I6, r6, q6⟩ => ho'' pins s6 σ H6 z4 z6 w4 w6 Q I6 r4 r6 q6))
end
section
variable {α β γ : Type} [Rep α] [Rep β] [Rep γ] {σ : L2.St} {G H : Hp} {te ta tb tc td : TE} {tt : TT} {K : Fg}
theorem ev_chain3I {i j k l : Int} (ha : Ev ta σ G i) (hb : Ev tb σ G j) (hc : Ev tc σ G k) (hd : Ev td σ G l) :
    Ev (tChain3 (rI0 fun i j => .bl (decide (i < j))) (rI0 fun i j => .bl (decide (i < j))) (rI0 fun i j => .bl (decide (i < j))) ta tb tc td) σ G (decide (i < j) && (decide (j < k) && decide (k < l))) := fun H s Q q =>
  ha H s _ fun v G1 H1 g1 k1 => (hb.mono g1.g) H1 g1.i _ fun u G2 H2 g2 k2 => ⟨i, j, k1, k2, decide (i < j), rfl, by
    have g12 := g1.trans g2
    cases e : decide (i < j) with
    | false => exact ite_n (q _ G2 H2 g12 (by rw [e]; rfl))
    | true =>
      refine ite_y ((hc.mono g12.g) H2 g2.i _ fun w G3 H3 g3 k3 => ⟨j, k, k2, k3, decide (j < k), rfl, ?_⟩)
      have g13 := g12.trans g3
      cases e2 : decide (j < k) with
      | false => exact ite_n (q _ G3 H3 g13 (by rw [e, e2]; rfl))
      | true => exact ite_y ((hd.mono g13.g) H3 g3.i _ fun w' G4 H4 g4 k4 => ⟨k, l, k3, k4, q _ G4 H4 (g13.trans g4) (by rw [e, e2]; rfl)⟩)⟩
theorem yes_y {σ : L2.St} {H : Hp} {A B : Hp → Prop} (h : A H) : tYes σ H fun b H3 => if b = true then A H3 else B H3 := ite_y (A := A H) (B := B H) h
/-! ### two for in one comprehension -/
theorem ev_lc2 {wi wi1 : TI} {g g1 : TG} {vs vs1 : List Nat} {xs : List α} {ys : α → List β} {f : α → β → γ} (hx : EvI wi σ G xs) (hl : (xs.flatMap fun x => (ys x).map (f x)).length ≤ 100000)
    (hb : ∀ x ∈ xs, ∀ v G1, Same G G1 → rep G1 v x → GB g v (wipe σ vs) G1 fun σ2 => wipe σ2 vs = wipe σ vs ∧ EvI wi1 σ2 G1 (ys x) ∧
      ∀ y ∈ ys x, ∀ v' G2, Same G1 G2 → rep G2 v' y → GB g1 v' (wipe σ2 vs1) G2 fun σ3 => wipe σ3 vs1 = wipe σ2 vs1 ∧ Ev te σ3 G2 (f x y)) :
    Ev (tLc2 wi g tYes wi1 g1 tYes te vs vs1) σ G (xs.flatMap fun x => (ys x).map (f x)) := fun H i Q q => by
  refine hx H i _ fun J G1 H1 g1' ok D nD => ?_
  have nG : G1 D = none := up_none g1'.i nD
  refine ⟨fun k m H => m = xs.length - k ∧ k ≤ xs.length ∧ ∃ Gk, Gr M0 G1 H1 Gk H ∧ Ml Gk H D ((xs.take k).flatMap fun x => (ys x).map (f x)), ⟨_, rfl, Nat.zero_le _, G1, (Gr.refl g1'.i).mut (.inl nD) nG, nG, [], upd_same, .nil⟩, ?_⟩
  rintro k m H2 ⟨rfl, hk, Gk, gk, ml⟩
  by_cases hlt : k < xs.length
  · have hxk : xs[k]? = some xs[k] := List.getElem?_eq_getElem hlt
    have etk : (xs.take (k + 1)).flatMap (fun x => (ys x).map (f x)) = (xs.take k).flatMap (fun x => (ys x).map (f x)) ++ (ys xs[k]).map (f xs[k]) := by
      rw [List.take_add_one, hxk, List.flatMap_append]
      congr 1
      show (ys xs[k]).map (f xs[k]) ++ [] = _
      exact List.append_nil _
    have epre : ((xs.take k).flatMap fun x => (ys x).map (f x)).length + (ys xs[k]).length ≤ 100000 := by
      have e1 : ((xs.take (k + 1)).flatMap fun x => (ys x).map (f x)).length ≤ (xs.flatMap fun x => (ys x).map (f x)).length := by
        conv => rhs; rw [← List.take_append_drop (k + 1) xs, List.flatMap_append, List.length_append]
        exact Nat.le_add_right _ _
      rw [etk, List.length_append, List.length_map] at e1
      omega
    refine .inr ⟨ok.go k H2 (gk.g.trans gk.i) hlt, fun H' => ∃ Gk, Gr M0 G1 H1 Gk H' ∧ Ml Gk H' D ((xs.take (k + 1)).flatMap fun x => (ys x).map (f x)), fun H' h' => ⟨xs.length - (k + 1), by omega, rfl, hlt, h'⟩, fun v H3 yl => ?_⟩
    obtain ⟨G3, g3, r3⟩ := ok.yld k H2 v H3 Gk xs[k] gk.g gk.i yl hxk
    have g13 := gk.trans g3
    refine hb xs[k] (List.getElem_mem hlt) v G3 (g1'.g.trans g13.g) r3 H3 g3.i _ fun σ2 ⟨hw, hi1, hb1⟩ => ⟨hw, yes_y ?_⟩
    refine hi1 H3 g3.i _ fun J1 G4 H4 g4 ok1 => ?_
    have ml4 := (ml.step0 g3).step0 g4
    refine ⟨fun j n H => n = (ys xs[k]).length - j ∧ j ≤ (ys xs[k]).length ∧ ∃ Gj, Same G4 Gj ∧ Gr M0 G1 H1 Gj H ∧ Ml Gj H D ((xs.take k).flatMap (fun x => (ys x).map (f x)) ++ ((ys xs[k]).take j).map (f xs[k])), ⟨_, rfl, Nat.zero_le _, G4, Same.refl _, g13.trans g4, ?_⟩, ?_⟩
    · rw [List.take_zero, List.map_nil, List.append_nil]; exact ml4
    · rintro j n H5 ⟨rfl, hj, Gj, sj, gj, mlj⟩
      by_cases hlj : j < (ys xs[k]).length
      · have hyj : (ys xs[k])[j]? = some (ys xs[k])[j] := List.getElem?_eq_getElem hlj
        refine .inr ⟨ok1.go j H5 (sj.trans gj.i) hlj, fun H' => ∃ Gj, Same G4 Gj ∧ Gr M0 G1 H1 Gj H' ∧ Ml Gj H' D ((xs.take k).flatMap (fun x => (ys x).map (f x)) ++ ((ys xs[k]).take (j + 1)).map (f xs[k])), fun H' h' => ⟨(ys xs[k]).length - (j + 1), by omega, rfl, hlj, h'⟩, fun v' H6 yl' => ?_⟩
        obtain ⟨G6, g6, r6⟩ := ok1.yld j H5 v' H6 Gj _ sj gj.i yl' hyj
        have s36 : Same G3 G6 := g4.g.trans (sj.trans g6.g)
        refine hb1 _ (List.getElem_mem hlj) v' G6 s36 r6 H6 g6.i _ fun σ3 ⟨hw3, he⟩ => ⟨hw3, yes_y ?_⟩
        refine he H6 g6.i _ fun y G7 H7 g7 r7 => ?_
        obtain ⟨n7, acc, e7, p7⟩ := (mlj.step0 g6).step0 g7
        refine ⟨acc, e7, sl_lt ?_, G7, sj.trans (g6.g.trans g7.g), ((gj.trans g6).trans g7).mut (.inl nD) n7, n7, acc ++ [y], upd_same, ?_⟩
        · rw [paired_len p7, List.length_append, List.length_map, List.length_take]; omega
        · rw [List.take_add_one, hyj, List.map_append, ← List.append_assoc]
          exact paired_app p7 (.cons r7 .nil)
      · have e : (ys xs[k]).take j = ys xs[k] := List.take_of_length_le (by omega)
        rw [e, ← etk] at mlj
        exact .inl ⟨ok1.stop j H5 (sj.trans gj.i) (by omega), Gj, gj, mlj⟩
  · have e : xs.take k = xs := List.take_of_length_le (by omega)
    rw [e] at ml
    obtain ⟨n5, acc, e5, p5⟩ := ml
    exact .inl ⟨ok.stop k H2 (gk.g.trans gk.i) (by omega), q _ (upd Gk D (.lst acc)) H2 (g1'.trans (gk.still nD n5 e5)) ⟨D, acc, rfl, upd_same, paired_mono (same_new n5) p5⟩⟩
end
end Pf

namespace Pf
open PySem PySem.Spec PyProof.Rows L2
abbrev Plan := Int × Tup (Int × Int)
def lawPair (a b : Int) : Int × Int := (if b < a then b else a, if b > a then b else a)
def planOf (F : Int) (row : List (Int × Int)) : Plan := (F, Tup.mk (sortP ((row.filter fun lh => decide (1 < lh.2 - lh.1)).map fun lh => lawPair lh.1 (lh.2 % F))))

def isCutM (faces low high : Int) : Bool := if (decide (low < 0) || decide (faces ≤ high)) = true then false else (decide (2 ≤ high - low) && !decide ((low, high) = (0, faces - 1)))
def risingM (cuts : List (Int × Int)) : Bool := ((cuts.zip (cuts.drop 1)).map fun oq => ltI oq.1 oq.2).all id
def crossingM (cuts : List (Int × Int)) : Bool := (cuts.flatMap fun a => cuts.map fun b => decide (a.1 < b.1) && (decide (b.1 < a.2) && decide (a.2 < b.2))).any id
def isPlanM (p : Plan) : Bool :=
  if (decide (p.1 < 3) || (decide (40 < p.1) || !decide ((p.2.l.length : Int) = p.1 - 3))) = true then false
  else if (!(p.2.l.map fun lh => isCutM p.1 lh.1 lh.2).all id) = true then false
  else risingM p.2.l && !crossingM p.2.l
theorem cut_drop1 (xs : List (Int × Int)) : cutI xs (some 1) none = xs.drop 1 := by
  unfold cutI
  rw [show HT.sIx xs.length 0 (some 1) = min 1 xs.length from HT.sIx_nat xs.length 0 1, HT.sIx_none]
  cases xs with
  | nil => rfl
  | cons x r =>
    rw [show min 1 (x :: r).length = 1 by
      rw [List.length_cons]
      omega]
    show (List.take ((x :: r).length - 1) r) = r
    rw [List.length_cons, Nat.add_sub_cancel]
    exact List.take_length
theorem flat_len {α β : Type} (xs : List α) (ys : List β) {γ : Type} (f : α → β → γ) : (xs.flatMap fun x => ys.map (f x)).length = xs.length * ys.length := by
  induction xs with
  | nil => simp
  | cons x r ih => rw [List.flatMap_cons, List.length_append, List.length_map, ih, List.length_cons, Nat.add_mul]; omega

/-- a way to cut the arc from s to e, as it is drawn -/
inductive CutT : Int → Int → List (Int × Int) → Prop
  | leaf {s e : Int} : e - s = 1 → CutT s e []
  | node {s m e : Int} {A B : List (Int × Int)} : s < m → m < e → CutT s m A → CutT m e B → CutT s e ((s, m) :: (m, e) :: (A ++ B))
theorem CutT.len {s e : Int} {A : List (Int × Int)} (h : CutT s e A) : (A.length : Int) = 2 * (e - s - 1) := by
  induction h with
  | leaf h => simp; omega
  | node h1 h2 _ _ ih1 ih2 => simp only [List.length_cons, List.length_append]; omega

/-! ### drawn plans are plans -/
theorem CutT.lt {s e : Int} {A : List (Int × Int)} (h : CutT s e A) : s < e := by
  cases h with
  | leaf h => omega
  | node h1 h2 _ _ => omega
theorem CutT.inside {s e : Int} {A : List (Int × Int)} (h : CutT s e A) : ∀ x ∈ A, s ≤ x.1 ∧ x.1 < x.2 ∧ x.2 ≤ e ∧ ¬ (x.1 = s ∧ x.2 = e) := by
  induction h with
  | leaf h => intro x hx; cases hx
  | @node s m e A B h1 h2 hA hB ih1 ih2 =>
    intro x hx
    rcases List.mem_cons.mp hx with rfl | hx
    · exact ⟨by show s ≤ s; omega, by show s < m; omega, by show m ≤ e; omega, by show ¬ (s = s ∧ m = e); omega⟩
    rcases List.mem_cons.mp hx with rfl | hx
    · exact ⟨by show s ≤ m; omega, by show m < e; omega, by show e ≤ e; omega, by show ¬ (m = s ∧ e = e); omega⟩
    rcases List.mem_append.mp hx with hx | hx
    · have := ih1 x hx; omega
    · have := ih2 x hx; omega
theorem CutT.nodup {s e : Int} {A : List (Int × Int)} (h : CutT s e A) : A.Nodup := by
  induction h with
  | leaf h => exact List.nodup_nil
  | @node s m e A B h1 h2 hA hB ih1 ih2 =>
    have i1 := hA.inside
    have i2 := hB.inside
    rw [List.nodup_cons, List.nodup_cons, List.nodup_append]
    refine ⟨fun z => ?_, fun z => ?_, ih1, ih2, fun x hx y hy e => ?_⟩
    · rcases List.mem_cons.mp z with e | z
      · injection e with e1 e2; omega
      rcases List.mem_append.mp z with z | z
      · have q := i1 _ z; exact q.2.2.2 ⟨rfl, rfl⟩
      · have q := i2 _ z; have q1 : m ≤ s := q.1; omega
    · rcases List.mem_append.mp z with z | z
      · have q := i1 _ z; have q1 : e ≤ m := q.2.2.1; omega
      · have q := i2 _ z; exact q.2.2.2 ⟨rfl, rfl⟩
    · subst e
      have := i1 _ hx
      have := i2 _ hy
      omega
theorem CutT.apart {s e : Int} {A : List (Int × Int)} (h : CutT s e A) : ∀ x ∈ A, ∀ y ∈ A, ¬ (x.1 < y.1 ∧ y.1 < x.2 ∧ x.2 < y.2) := by
  induction h with
  | leaf h => intro x hx; cases hx
  | @node s m e A B h1 h2 hA hB ih1 ih2 =>
    have i1 := hA.inside
    have i2 := hB.inside
    have c : ∀ x ∈ (s, m) :: (m, e) :: (A ++ B), (x.1 = s ∧ x.2 = m) ∨ (x.1 = m ∧ x.2 = e) ∨ (x ∈ A ∧ s ≤ x.1 ∧ x.1 < x.2 ∧ x.2 ≤ m) ∨ (x ∈ B ∧ m ≤ x.1 ∧ x.1 < x.2 ∧ x.2 ≤ e) := by
      intro x hx
      rcases List.mem_cons.mp hx with rfl | hx
      · exact .inl ⟨rfl, rfl⟩
      rcases List.mem_cons.mp hx with rfl | hx
      · exact .inr (.inl ⟨rfl, rfl⟩)
      rcases List.mem_append.mp hx with hx | hx
      · have := i1 x hx; exact .inr (.inr (.inl ⟨hx, by omega⟩))
      · have := i2 x hx; exact .inr (.inr (.inr ⟨hx, by omega⟩))
    intro x hx y hy
    rcases c x hx with hx | hx | ⟨hx, hx'⟩ | ⟨hx, hx'⟩ <;> rcases c y hy with hy | hy | ⟨hy, hy'⟩ | ⟨hy, hy'⟩ <;> first | omega | exact ih1 x hx y hy | exact ih2 x hx y hy
abbrev wideB (lh : Int × Int) : Bool := decide (1 < lh.2 - lh.1)
theorem CutT.wide {s e : Int} {A : List (Int × Int)} (h : CutT s e A) : ((A.filter wideB).length : Int) = if e - s = 1 then 0 else e - s - 2 := by
  induction h with
  | leaf h => rw [if_pos h]; rfl
  | @node s m e A B h1 h2 hA hB ih1 ih2 =>
    have l1 := hA.lt
    have l2 := hB.lt
    rw [if_neg (by omega), List.filter_cons, List.filter_cons, List.filter_append]
    have e1 : wideB (s, m) = decide (1 < m - s) := rfl
    have e2 : wideB (m, e) = decide (1 < e - m) := rfl
    rw [e1, e2]
    by_cases c1 : 1 < m - s <;> by_cases c2 : 1 < e - m <;> simp only [c1, c2, decide_true, decide_false, if_true, if_false, List.length_cons, List.length_append, Bool.false_eq_true] <;> (split at ih1 <;> split at ih2 <;> omega)
/-- a pair of the arc 1 .. n as a pair of corners -/
abbrev foldN (n : Int) (lh : Int × Int) : Int × Int := lawPair lh.1 (lh.2 % n)
theorem fold_lt {n : Int} {x : Int × Int} (h1 : 1 ≤ x.1) (h2 : x.1 < x.2) (h3 : x.2 < n) : foldN n x = x := by
  have e : x.2 % n = x.2 := Int.emod_eq_of_lt (by omega) h3
  unfold foldN lawPair
  rw [e, if_neg (by omega), if_pos (by omega)]
theorem fold_n {n : Int} {x : Int × Int} (h1 : 1 ≤ x.1) (h3 : x.2 = n) : foldN n x = (0, x.1) := by
  have e : x.2 % n = 0 := by rw [h3]; exact Int.emod_self
  unfold foldN lawPair
  rw [e, if_pos (by omega), if_neg (by omega)]
def cutsOf (n : Int) (A : List (Int × Int)) : List (Int × Int) := (A.filter wideB).map (foldN n)
theorem planOf_eq (n : Int) (A : List (Int × Int)) : planOf n A = (n, Tup.mk (sortP (cutsOf n A))) := rfl
theorem cuts_mem {n : Int} {A : List (Int × Int)} (h : CutT 1 n A) {c : Int × Int} (hc : c ∈ cutsOf n A) : (c ∈ A ∧ 1 ≤ c.1 ∧ 2 ≤ c.2 - c.1 ∧ c.2 < n) ∨ (c.1 = 0 ∧ (c.2, n) ∈ A ∧ 2 ≤ c.2 ∧ 2 ≤ n - c.2) := by
  obtain ⟨x, hx, rfl⟩ := List.mem_map.mp hc
  obtain ⟨hx1, hx2⟩ := List.mem_filter.mp hx
  have hx2 : 1 < x.2 - x.1 := of_decide_eq_true hx2
  have hi := h.inside x hx1
  by_cases hn : x.2 = n
  · rw [fold_n hi.1 hn]
    refine .inr ⟨rfl, ?_, by show 2 ≤ x.1; omega, by show 2 ≤ n - x.1; omega⟩
    rw [← hn]; exact hx1
  · rw [fold_lt hi.1 hi.2.1 (by omega)]
    exact .inl ⟨hx1, hi.1, by omega, by omega⟩
theorem cuts_nodup {n : Int} {A : List (Int × Int)} (h : CutT 1 n A) : (cutsOf n A).Nodup := by
  unfold cutsOf
  have hf : (A.filter wideB).Nodup := h.nodup.filter _
  refine List.pairwise_map.mpr (hf.imp_of_mem ?_)
  intro x y hx hy hne e
  have ix := h.inside x (List.mem_filter.mp hx).1
  have iy := h.inside y (List.mem_filter.mp hy).1
  refine hne ?_
  by_cases hxn : x.2 = n <;> by_cases hyn : y.2 = n
  · rw [fold_n ix.1 hxn, fold_n iy.1 hyn] at e
    injection e with _ e2
    cases x; cases y
    exact congr (congrArg Prod.mk e2) (hxn.trans hyn.symm)
  · rw [fold_n ix.1 hxn, fold_lt iy.1 iy.2.1 (by omega)] at e
    have e1 : (0 : Int) = y.1 := congrArg Prod.fst e
    omega
  · rw [fold_n iy.1 hyn, fold_lt ix.1 ix.2.1 (by omega)] at e
    have e1 : x.1 = (0 : Int) := congrArg Prod.fst e
    omega
  · rw [fold_lt ix.1 ix.2.1 (by omega), fold_lt iy.1 iy.2.1 (by omega)] at e
    exact e
theorem ltI_tot {x y : Int × Int} (h : ltI y x = false) (ne : x ≠ y) : ltI x y = true := by
  cases e : ltI x y with
  | true => rfl
  | false => exact absurd (ltI_eq e h) ne
theorem sort_strict {l : List (Int × Int)} (h : l.Nodup) : (sortP l).Pairwise fun x y => ltI x y = true := by
  have hn : (sortP l).Nodup := (sortP_perm l).nodup_iff.mpr h
  have hs := sortP_sorted l
  refine (List.Pairwise.and hn hs).imp ?_
  rintro x y ⟨h1, h2⟩
  exact ltI_tot h2 h1
theorem rising_of : ∀ {l : List (Int × Int)}, (l.Pairwise fun x y => ltI x y = true) → risingM l = true
  | [], _ => rfl
  | [_], _ => rfl
  | x :: y :: r, h => by
    obtain ⟨h1, h2⟩ := List.pairwise_cons.mp h
    have ih := rising_of h2
    unfold risingM at ih ⊢
    show ((ltI x y) :: _).all id = true
    rw [List.all_cons, Bool.and_eq_true]
    exact ⟨h1 y List.mem_cons_self, ih⟩
theorem drawn_is_plan {n : Int} {A : List (Int × Int)} (h : CutT 1 n A) (h3 : 3 ≤ n) (h40 : n ≤ 40) : isPlanM (planOf n A) = true := by
  rw [planOf_eq]
  have hl : ((sortP (cutsOf n A)).length : Int) = n - 3 := by
    rw [sortP_len]
    show (((A.filter wideB).map (foldN n)).length : Int) = n - 3
    rw [List.length_map, h.wide, if_neg (by omega)]
    omega
  have hm : ∀ c, c ∈ sortP (cutsOf n A) ↔ c ∈ cutsOf n A := fun c => (sortP_perm _).mem_iff
  unfold isPlanM
  have c1 : (decide (n < 3) || (decide (40 < n) || !decide (((sortP (cutsOf n A)).length : Int) = n - 3))) = false := by
    rw [decide_eq_false (by omega), decide_eq_false (by omega), decide_eq_true hl]; rfl
  have c2 : ((sortP (cutsOf n A)).map fun lh => isCutM n lh.1 lh.2).all id = true := by
    rw [List.all_eq_true]
    intro b hb
    obtain ⟨c, hc, rfl⟩ := List.mem_map.mp hb
    rcases cuts_mem h ((hm c).mp hc) with q | q
    · show isCutM n c.1 c.2 = true
      unfold isCutM
      rw [decide_eq_false (by omega), decide_eq_false (by omega), if_neg (by decide), decide_eq_true (by omega), decide_eq_false (fun e => by have e1 : c.1 = 0 := congrArg Prod.fst e; omega)]
      rfl
    · show isCutM n c.1 c.2 = true
      unfold isCutM
      rw [decide_eq_false (by omega), decide_eq_false (by omega), if_neg (by decide), decide_eq_true (by omega), decide_eq_false (fun e => by have e1 : c.2 = n - 1 := congrArg Prod.snd e; omega)]
      rfl
  have c3 : crossingM (sortP (cutsOf n A)) = false := by
    cases e : crossingM (sortP (cutsOf n A)) with
    | false => rfl
    | true =>
      exfalso
      unfold crossingM at e
      rw [List.any_eq_true] at e
      obtain ⟨b, hb, hb2⟩ := e
      obtain ⟨x, hx, hb⟩ := List.mem_flatMap.mp hb
      obtain ⟨y, hy, rfl⟩ := List.mem_map.mp hb
      simp only [id, Bool.and_eq_true, decide_eq_true_eq] at hb2
      rcases cuts_mem h ((hm x).mp hx) with q | q <;> rcases cuts_mem h ((hm y).mp hy) with q' | q'
      · exact h.apart x q.1 y q'.1 hb2
      · omega
      · exact h.apart y q'.1 (x.2, n) q.2.1 ⟨by show y.1 < x.2; omega, by show x.2 < y.2; omega, by show y.2 < n; omega⟩
      · omega
  show (if (decide (n < 3) || (decide (40 < n) || !decide (((sortP (cutsOf n A)).length : Int) = n - 3))) = true then false
    else if (!((sortP (cutsOf n A)).map fun lh => isCutM n lh.1 lh.2).all id) = true then false else risingM (sortP (cutsOf n A)) && !crossingM (sortP (cutsOf n A))) = true
  rw [c1, if_neg (by decide), c2, if_neg (by decide), c3, rising_of (sort_strict (cuts_nodup h))]
  rfl

end Pf

namespace Pf
open PySem PySem.Spec PyProof.Rows L2
/-! ### corners become others -/
def withC (p : Plan) (bec : List Int) : Plan := (p.1, Tup.mk (sortP (p.2.l.map fun c => lawPair (ix bec c.1) (ix bec c.2))))
def turnM (p : Plan) (k : Int) : Plan := withC p ((rng 0 p.1).map fun c => (c + k) % p.1)
def mirrorM (p : Plan) : Plan := withC p ((rng 0 p.1).map fun c => (p.1 - c) % p.1)
theorem all_map {α : Type} {f : α → Bool} {l : List α} : (l.map f).all id = true ↔ ∀ x ∈ l, f x = true := by
  rw [List.all_eq_true]
  constructor
  · intro h x hx
    exact h _ (List.mem_map.mpr ⟨x, hx, rfl⟩)
  · intro h b hb
    obtain ⟨x, hx, rfl⟩ := List.mem_map.mp hb
    exact h x hx
/-- what a plan is, in plain words -/
structure Valid (n : Int) (L : List (Int × Int)) : Prop where
  lo : 3 ≤ n
  hi : n ≤ 40
  len : (L.length : Int) = n - 3
  cut : ∀ c ∈ L, 0 ≤ c.1 ∧ 2 ≤ c.2 - c.1 ∧ c.2 < n ∧ ¬ (c.1 = 0 ∧ c.2 = n - 1)
  nd : L.Nodup
  no : ∀ x ∈ L, ∀ y ∈ L, ¬ (x.1 < y.1 ∧ y.1 < x.2 ∧ x.2 < y.2)
theorem isCut_iff {n l h : Int} : isCutM n l h = true ↔ 0 ≤ l ∧ 2 ≤ h - l ∧ h < n ∧ ¬ (l = 0 ∧ h = n - 1) := by
  unfold isCutM
  by_cases c : l < 0 ∨ n ≤ h
  · have e : (decide (l < 0) || decide (n ≤ h)) = true := by simpa using c
    rw [if_pos e]
    constructor
    · intro z; cases z
    · intro z; omega
  · have e : ¬ (decide (l < 0) || decide (n ≤ h)) = true := by simpa using c
    rw [if_neg e, Bool.and_eq_true, decide_eq_true_eq, Bool.not_eq_true', decide_eq_false_iff_not]
    constructor
    · rintro ⟨h1, h2⟩
      exact ⟨by omega, h1, by omega, fun z => h2 (congr (congrArg Prod.mk z.1) z.2)⟩
    · rintro ⟨h1, h2, h3, h4⟩
      exact ⟨h2, fun z => h4 ⟨congrArg Prod.fst z, congrArg Prod.snd z⟩⟩
theorem crossing_iff {L : List (Int × Int)} : crossingM L = false ↔ ∀ x ∈ L, ∀ y ∈ L, ¬ (x.1 < y.1 ∧ y.1 < x.2 ∧ x.2 < y.2) := by
  constructor
  · intro h x hx y hy z
    have : crossingM L = true := by
      unfold crossingM
      rw [List.any_eq_true]
      exact ⟨_, List.mem_flatMap.mpr ⟨x, hx, List.mem_map.mpr ⟨y, hy, rfl⟩⟩, by simp only [id, Bool.and_eq_true, decide_eq_true_eq]; exact z⟩
    rw [h] at this
    cases this
  · intro h
    cases e : crossingM L with
    | false => rfl
    | true =>
      exfalso
      unfold crossingM at e
      rw [List.any_eq_true] at e
      obtain ⟨b, hb, hb2⟩ := e
      obtain ⟨x, hx, hb⟩ := List.mem_flatMap.mp hb
      obtain ⟨y, hy, rfl⟩ := List.mem_map.mp hb
      simp only [id, Bool.and_eq_true, decide_eq_true_eq] at hb2
      exact h x hx y hy hb2
theorem ltI_trans {x y z : Int × Int} (h1 : ltI x y = true) (h2 : ltI y z = true) : ltI x z = true := by
  have a := SrtO.lexB_iff.mp h1
  have b := SrtO.lexB_iff.mp h2
  refine SrtO.lexB_iff.mpr ?_
  omega
theorem rising_pw : ∀ {l : List (Int × Int)}, risingM l = true → l.Pairwise fun x y => ltI x y = true
  | [], _ => List.Pairwise.nil
  | [_], _ => List.pairwise_singleton _ _
  | x :: y :: r, h => by
    unfold risingM at h
    have h : ((ltI x y) :: (((y :: r).zip ((y :: r).drop 1)).map fun oq => ltI oq.1 oq.2)).all id = true := h
    rw [List.all_cons, Bool.and_eq_true] at h
    have ih := rising_pw (l := y :: r) h.2
    refine List.pairwise_cons.mpr ⟨fun z hz => ?_, ih⟩
    rcases List.mem_cons.mp hz with rfl | hz
    · exact h.1
    · exact ltI_trans h.1 ((List.pairwise_cons.mp ih).1 z hz)
theorem pw_sorted {l : List (Int × Int)} (h : l.Pairwise fun x y => ltI x y = true) : l = sortP l := sortP_uniq (List.Perm.refl _) (h.imp ltI_as)
theorem ltI_irr (x : Int × Int) : ltI x x = false := SrtO.lexB_no.mpr (by omega)
theorem pw_nodup {l : List (Int × Int)} (h : l.Pairwise fun x y => ltI x y = true) : l.Nodup := h.imp fun {x y} h e => by subst e; rw [ltI_irr] at h; cases h
theorem plan_iff {n : Int} {L : List (Int × Int)} : isPlanM (n, Tup.mk L) = true ↔ Valid n L ∧ L = sortP L := by
  constructor
  · intro h
    unfold isPlanM at h
    have h : (if (decide (n < 3) || (decide (40 < n) || !decide ((L.length : Int) = n - 3))) = true then false else if (!(L.map fun lh => isCutM n lh.1 lh.2).all id) = true then false else risingM L && !crossingM L) = true := h
    split at h
    · cases h
    rename_i c1
    split at h
    · cases h
    rename_i c2
    simp only [Bool.or_eq_true, decide_eq_true_eq, Bool.not_eq_true', decide_eq_false_iff_not, not_or, Int.not_lt, Decidable.not_not] at c1
    rw [Bool.not_eq_true', Bool.not_eq_false] at c2
    rw [Bool.and_eq_true, Bool.not_eq_true'] at h
    have pw := rising_pw h.1
    exact ⟨⟨c1.1, c1.2.1, c1.2.2, fun c hc => isCut_iff.mp (all_map.mp c2 c hc), pw_nodup pw, crossing_iff.mp h.2⟩, pw_sorted pw⟩
  · rintro ⟨v, e⟩
    have c1 : (decide (n < 3) || (decide (40 < n) || !decide ((L.length : Int) = n - 3))) = false := by
      have := v.lo
      have := v.hi
      rw [decide_eq_false (by omega), decide_eq_false (by omega), decide_eq_true v.len]; rfl
    have c2 : (L.map fun lh => isCutM n lh.1 lh.2).all id = true := all_map.mpr fun c hc => isCut_iff.mpr (v.cut c hc)
    have c3 : risingM L = true := by rw [e]; exact rising_of (sort_strict v.nd)
    unfold isPlanM
    show (if (decide (n < 3) || (decide (40 < n) || !decide ((L.length : Int) = n - 3))) = true then false else if (!(L.map fun lh => isCutM n lh.1 lh.2).all id) = true then false else risingM L && !crossingM L) = true
    rw [c1, if_neg (by decide), c2, if_neg (by decide), c3, crossing_iff.mpr v.no]
    rfl
theorem sortP_idem (L : List (Int × Int)) : sortP (sortP L) = sortP L := (sortP_uniq (List.Perm.refl _) (sortP_sorted L)).symm
theorem sortP_perm_eq {L M : List (Int × Int)} (h : L.Perm M) : sortP L = sortP M := sortP_uniq ((sortP_perm L).trans h) (sortP_sorted L)
theorem Valid.perm {n : Int} {L M : List (Int × Int)} (v : Valid n L) (h : L.Perm M) : Valid n M :=
  ⟨v.lo, v.hi, by rw [← h.length_eq]; exact v.len, fun c hc => v.cut c (h.mem_iff.mpr hc), h.nodup_iff.mp v.nd, fun x hx y hy => v.no x (h.mem_iff.mpr hx) y (h.mem_iff.mpr hy)⟩
theorem plan_sort {n : Int} {L : List (Int × Int)} (v : Valid n L) : isPlanM (n, Tup.mk (sortP L)) = true := plan_iff.mpr ⟨v.perm (sortP_perm L).symm, (sortP_idem L).symm⟩
theorem plan_facts {p : Plan} (h : isPlanM p = true) : 3 ≤ p.1 ∧ p.1 ≤ 40 ∧ p.2.l.length ≤ 37 ∧ (∀ c ∈ p.2.l, 0 ≤ c.1 ∧ c.1 < p.1 ∧ 0 ≤ c.2 ∧ c.2 < p.1) ∧ Valid p.1 p.2.l ∧ p.2.l = sortP p.2.l := by
  obtain ⟨n, ⟨L⟩⟩ := p
  obtain ⟨v, e⟩ := plan_iff.mp h
  have h1 := v.lo
  have h2 := v.hi
  have h3 := v.len
  exact ⟨h1, h2, by show L.length ≤ 37; omega, fun c hc => by have := v.cut c hc; show 0 ≤ c.1 ∧ c.1 < n ∧ 0 ≤ c.2 ∧ c.2 < n; omega, v, e⟩

end Pf

namespace Pf
open PySem PySem.Spec PyProof.Rows L2
def lawTurn (p : Plan) (k : Int) : Plan := (p.1, Tup.mk (sortP (p.2.l.map fun c => lawPair ((c.1 + k) % p.1) ((c.2 + k) % p.1))))
def lawOther (n : Int) : List Int := [0] ++ (rng 1 n).map fun c => n - c
def lawMirror (p : Plan) : Plan := (p.1, Tup.mk (sortP (p.2.l.map fun c => lawPair (ix (lawOther p.1) c.1) (ix (lawOther p.1) c.2))))

/-! ### plans under turning and mirroring -/
def mapC (φ : Int → Int) (p : Plan) : Plan := (p.1, Tup.mk (sortP (p.2.l.map fun c => lawPair (φ c.1) (φ c.2))))
theorem lp_sym (a b : Int) : lawPair a b = lawPair b a := by
  unfold lawPair
  by_cases h1 : b < a
  · rw [if_pos h1, if_neg (by omega), if_neg (by omega), if_pos (by omega)]
  · by_cases h2 : a < b
    · rw [if_neg h1, if_pos (by omega), if_pos (by omega), if_neg (by omega)]
    · have e : a = b := by omega
      subst e
      rfl
theorem lp_lt {a b : Int} (h : a < b) : lawPair a b = (a, b) := by
  unfold lawPair
  rw [if_neg (by omega), if_pos (by omega)]
theorem lp_cases (a b : Int) : (lawPair a b = (a, b) ∧ a ≤ b) ∨ (lawPair a b = (b, a) ∧ b < a) := by
  by_cases h : b < a
  · exact .inr ⟨by rw [lp_sym]; exact lp_lt h, h⟩
  · refine .inl ⟨?_, by omega⟩
    by_cases h2 : a < b
    · exact lp_lt h2
    · have e : a = b := by omega
      subst e
      unfold lawPair
      simp
theorem mapC_congr {φ ψ : Int → Int} {p : Plan} (h : ∀ c ∈ p.2.l, φ c.1 = ψ c.1 ∧ φ c.2 = ψ c.2) : mapC φ p = mapC ψ p := by
  unfold mapC
  rw [List.map_congr_left (g := fun c => lawPair (ψ c.1) (ψ c.2)) fun c hc => by rw [(h c hc).1, (h c hc).2]]
theorem mapC_comp (φ ψ : Int → Int) (p : Plan) : mapC ψ (mapC φ p) = mapC (fun c => ψ (φ c)) p := by
  unfold mapC
  show (p.1, Tup.mk (sortP ((sortP (p.2.l.map fun c => lawPair (φ c.1) (φ c.2))).map fun c => lawPair (ψ c.1) (ψ c.2)))) = _
  rw [sortP_perm_eq ((sortP_perm (p.2.l.map fun c => lawPair (φ c.1) (φ c.2))).map fun c => lawPair (ψ c.1) (ψ c.2)), List.map_map]
  refine congrArg (fun l => (p.1, Tup.mk (sortP l))) (List.map_congr_left fun c _ => ?_)
  show lawPair (ψ (lawPair (φ c.1) (φ c.2)).1) (ψ (lawPair (φ c.1) (φ c.2)).2) = lawPair (ψ (φ c.1)) (ψ (φ c.2))
  rcases lp_cases (φ c.1) (φ c.2) with ⟨e, _⟩ | ⟨e, _⟩
  · rw [e]
  · rw [e, lp_sym]
theorem mapC_id {φ : Int → Int} {p : Plan} (hs : p.2.l = sortP p.2.l) (h : ∀ c ∈ p.2.l, c.1 < c.2 ∧ φ c.1 = c.1 ∧ φ c.2 = c.2) : mapC φ p = p := by
  obtain ⟨n, ⟨L⟩⟩ := p
  unfold mapC
  have e : (L.map fun c => lawPair (φ c.1) (φ c.2)) = L := by
    conv => rhs; rw [← List.map_id L]
    refine List.map_congr_left fun c hc => ?_
    have q := h c hc
    rw [q.2.1, q.2.2, lp_lt q.1]
    rfl
  show (n, Tup.mk (sortP (L.map fun c => lawPair (φ c.1) (φ c.2)))) = _
  rw [e, ← (show L = sortP L from hs)]
theorem ix_rng {n : Int} {f : Int → Int} {c : Int} (h0 : 0 ≤ c) (h1 : c < n) : ix ((rng 0 n).map f) c = f c := by
  have hk : c.toNat < (n - 0).toNat := by omega
  unfold ix
  rw [List.getElem?_map, rng_at hk]
  show f (0 + (c.toNat : Int)) = f c
  congr 1
  omega
theorem turn_map {p : Plan} (h : isPlanM p = true) (k : Int) : turnM p k = mapC (fun c => (c + k) % p.1) p := by
  obtain ⟨_, _, _, hc, _⟩ := plan_facts h
  unfold turnM withC mapC
  rw [List.map_congr_left (g := fun c => lawPair ((c.1 + k) % p.1) ((c.2 + k) % p.1)) fun c hcm => by
    have q := hc c hcm
    rw [ix_rng (by omega) (by omega), ix_rng (by omega) (by omega)]]
theorem mirror_map {p : Plan} (h : isPlanM p = true) : mirrorM p = mapC (fun c => (p.1 - c) % p.1) p := by
  obtain ⟨_, _, _, hc, _⟩ := plan_facts h
  unfold mirrorM withC mapC
  rw [List.map_congr_left (g := fun c => lawPair ((p.1 - c.1) % p.1) ((p.1 - c.2) % p.1)) fun c hcm => by
    have q := hc c hcm
    rw [ix_rng (by omega) (by omega), ix_rng (by omega) (by omega)]]
/-- where a corner comes by a turn of r -/
theorem turn_at {n k c : Int} (h0 : 0 ≤ c) (h1 : c < n) : ∃ r, 0 ≤ r ∧ r < n ∧ r = k % n ∧ (((c + k) % n = c + r ∧ c + r < n) ∨ ((c + k) % n = c + r - n ∧ n ≤ c + r)) := by
  have hn : 0 < n := by omega
  refine ⟨k % n, Int.emod_nonneg _ (by omega), Int.emod_lt_of_pos _ hn, rfl, ?_⟩
  have r0 := Int.emod_nonneg k (show n ≠ 0 by omega)
  have r1 := Int.emod_lt_of_pos k hn
  have e : (c + k) % n = (c + k % n) % n := by rw [Int.add_emod, Int.add_emod c (k % n), Int.emod_emod]
  rw [e]
  by_cases h : c + k % n < n
  · exact .inl ⟨Int.emod_eq_of_lt (by omega) h, h⟩
  · refine .inr ⟨?_, by omega⟩
    have e2 : c + k % n = (c + k % n - n) + n := by omega
    rw [e2, Int.add_emod_right]
    exact (Int.emod_eq_of_lt (by omega) (by omega)).trans (by omega)
theorem mirror_at {n c : Int} (h0 : 0 ≤ c) (h1 : c < n) : ((n - c) % n = 0 ∧ c = 0) ∨ ((n - c) % n = n - c ∧ 0 < c) := by
  by_cases h : c = 0
  · subst h
    rw [Int.sub_zero, Int.emod_self]
    exact .inl ⟨rfl, rfl⟩
  · exact .inr ⟨Int.emod_eq_of_lt (by omega) (by omega), by omega⟩
/-- a map of corners that keeps sides and crossings keeps plans -/
theorem mapC_valid {φ : Int → Int} {p : Plan} (v : Valid p.1 p.2.l)
    (h1 : ∀ a b, 0 ≤ a → a < p.1 → 0 ≤ b → b < p.1 → φ a = φ b → a = b)
    (h2 : ∀ a b, 0 ≤ a → 2 ≤ b - a → b < p.1 → ¬ (a = 0 ∧ b = p.1 - 1) → let q := lawPair (φ a) (φ b); 0 ≤ q.1 ∧ 2 ≤ q.2 - q.1 ∧ q.2 < p.1 ∧ ¬ (q.1 = 0 ∧ q.2 = p.1 - 1))
    (h3 : ∀ a b c d, 0 ≤ a → a < b → b < p.1 → 0 ≤ c → c < d → d < p.1 → ¬ (a < c ∧ c < b ∧ b < d) → ¬ (c < a ∧ a < d ∧ d < b) → let q := lawPair (φ a) (φ b); let q' := lawPair (φ c) (φ d); ¬ (q.1 < q'.1 ∧ q'.1 < q.2 ∧ q.2 < q'.2)) : isPlanM (mapC φ p) = true := by
  refine plan_sort ⟨v.lo, v.hi, by rw [List.length_map]; exact v.len, fun c hc => ?_, ?_, fun x hx y hy => ?_⟩
  · obtain ⟨z, hz, rfl⟩ := List.mem_map.mp hc
    have q := v.cut z hz
    exact h2 z.1 z.2 q.1 q.2.1 q.2.2.1 q.2.2.2
  · refine List.pairwise_map.mpr (v.nd.imp_of_mem ?_)
    intro x y hx hy hne e
    have qx := v.cut x hx
    have qy := v.cut y hy
    refine hne ?_
    have key : (φ x.1 = φ y.1 ∧ φ x.2 = φ y.2) ∨ (φ x.1 = φ y.2 ∧ φ x.2 = φ y.1) := by
      rcases lp_cases (φ x.1) (φ x.2) with ⟨e1, _⟩ | ⟨e1, _⟩ <;> rcases lp_cases (φ y.1) (φ y.2) with ⟨e2, _⟩ | ⟨e2, _⟩ <;> rw [e1, e2] at e <;> injection e with e3 e4
      · exact .inl ⟨e3, e4⟩
      · exact .inr ⟨e3, e4⟩
      · exact .inr ⟨e4, e3⟩
      · exact .inl ⟨e4, e3⟩
    rcases key with ⟨k1, k2⟩ | ⟨k1, k2⟩
    · have z1 := h1 _ _ (by omega) (by omega) (by omega) (by omega) k1
      have z2 := h1 _ _ (by omega) (by omega) (by omega) (by omega) k2
      cases x; cases y
      exact congr (congrArg Prod.mk z1) z2
    · have z1 := h1 _ _ (by omega) (by omega) (by omega) (by omega) k1
      have z2 := h1 _ _ (by omega) (by omega) (by omega) (by omega) k2
      omega
  · obtain ⟨a, ha, rfl⟩ := List.mem_map.mp hx
    obtain ⟨b, hb, rfl⟩ := List.mem_map.mp hy
    have qa := v.cut a ha
    have qb := v.cut b hb
    exact h3 a.1 a.2 b.1 b.2 (by omega) (by omega) (by omega) (by omega) (by omega) (by omega) (v.no a ha b hb) (v.no b hb a ha)
theorem turn_plan {p : Plan} (h : isPlanM p = true) (k : Int) : isPlanM (turnM p k) = true := by
  obtain ⟨n3, n40, _, _, v, _⟩ := plan_facts h
  rw [turn_map h]
  have hn : 0 < p.1 := by omega
  refine mapC_valid v (fun a b a0 a1 b0 b1 e => ?_) (fun a b a0 ab b1 ns => ?_) (fun a b c d a0 ab b1 c0 cd d1 x1 x2 => ?_)
  · obtain ⟨r, r0, r1, er, ca⟩ := turn_at (k := k) a0 a1
    obtain ⟨r', _, _, er', cb⟩ := turn_at (k := k) b0 b1
    rw [← er] at er'
    subst er'
    have e : (a + k) % p.1 = (b + k) % p.1 := e
    omega
  · obtain ⟨r, r0, r1, er, ca⟩ := turn_at (n := p.1) (k := k) (c := a) a0 (by omega)
    obtain ⟨r', _, _, er', cb⟩ := turn_at (n := p.1) (k := k) (c := b) (by omega) b1
    rw [← er] at er'
    subst er'
    generalize (a + k) % p.1 = a' at ca
    generalize (b + k) % p.1 = b' at cb
    show 0 ≤ (lawPair a' b').1 ∧ 2 ≤ (lawPair a' b').2 - (lawPair a' b').1 ∧ (lawPair a' b').2 < p.1 ∧ ¬ ((lawPair a' b').1 = 0 ∧ (lawPair a' b').2 = p.1 - 1)
    rcases lp_cases a' b' with ⟨e, q⟩ | ⟨e, q⟩ <;> rw [e] <;> simp only <;> omega
  · obtain ⟨r, r0, r1, er, ca⟩ := turn_at (n := p.1) (k := k) (c := a) a0 (by omega)
    obtain ⟨r2, _, _, er2, cb⟩ := turn_at (n := p.1) (k := k) (c := b) (by omega) b1
    obtain ⟨r3, _, _, er3, cc⟩ := turn_at (n := p.1) (k := k) (c := c) c0 (by omega)
    obtain ⟨r4, _, _, er4, cd'⟩ := turn_at (n := p.1) (k := k) (c := d) (by omega) d1
    rw [← er] at er2 er3 er4
    subst er2 er3 er4
    generalize (a + k) % p.1 = a' at ca
    generalize (b + k) % p.1 = b' at cb
    generalize (c + k) % p.1 = c' at cc
    generalize (d + k) % p.1 = d' at cd'
    show ¬ ((lawPair a' b').1 < (lawPair c' d').1 ∧ (lawPair c' d').1 < (lawPair a' b').2 ∧ (lawPair a' b').2 < (lawPair c' d').2)
    rcases lp_cases a' b' with ⟨e, q⟩ | ⟨e, q⟩ <;> rcases lp_cases c' d' with ⟨e', q'⟩ | ⟨e', q'⟩ <;> rw [e, e'] <;> simp only <;> rcases ca with ca | ca <;> rcases cb with cb | cb <;> rcases cc with cc | cc <;> rcases cd' with cd' | cd' <;> omega
theorem mirror_plan {p : Plan} (h : isPlanM p = true) : isPlanM (mirrorM p) = true := by
  obtain ⟨n3, n40, _, _, v, _⟩ := plan_facts h
  rw [mirror_map h]
  have hn : 0 < p.1 := by omega
  refine mapC_valid v (fun a b a0 a1 b0 b1 e => ?_) (fun a b a0 ab b1 ns => ?_) (fun a b c d a0 ab b1 c0 cd d1 x1 x2 => ?_)
  · have ca := mirror_at a0 a1
    have cb := mirror_at b0 b1
    have e : (p.1 - a) % p.1 = (p.1 - b) % p.1 := e
    omega
  · have ca := mirror_at (n := p.1) (c := a) a0 (by omega)
    have cb := mirror_at (n := p.1) (c := b) (by omega) b1
    generalize (p.1 - a) % p.1 = a' at ca
    generalize (p.1 - b) % p.1 = b' at cb
    show 0 ≤ (lawPair a' b').1 ∧ 2 ≤ (lawPair a' b').2 - (lawPair a' b').1 ∧ (lawPair a' b').2 < p.1 ∧ ¬ ((lawPair a' b').1 = 0 ∧ (lawPair a' b').2 = p.1 - 1)
    rcases lp_cases a' b' with ⟨e, q⟩ | ⟨e, q⟩ <;> rw [e] <;> simp only <;> omega
  · have ca := mirror_at (n := p.1) (c := a) a0 (by omega)
    have cb := mirror_at (n := p.1) (c := b) (by omega) b1
    have cc := mirror_at (n := p.1) (c := c) c0 (by omega)
    have cd' := mirror_at (n := p.1) (c := d) (by omega) d1
    generalize (p.1 - a) % p.1 = a' at ca
    generalize (p.1 - b) % p.1 = b' at cb
    generalize (p.1 - c) % p.1 = c' at cc
    generalize (p.1 - d) % p.1 = d' at cd'
    show ¬ ((lawPair a' b').1 < (lawPair c' d').1 ∧ (lawPair c' d').1 < (lawPair a' b').2 ∧ (lawPair a' b').2 < (lawPair c' d').2)
    rcases lp_cases a' b' with ⟨e, q⟩ | ⟨e, q⟩ <;> rcases lp_cases c' d' with ⟨e', q'⟩ | ⟨e', q'⟩ <;> rw [e, e'] <;> simp only <;> rcases ca with ca | ca <;> rcases cb with cb | cb <;> rcases cc with cc | cc <;> rcases cd' with cd' | cd' <;> omega
theorem turn_n {p : Plan} (h : isPlanM p = true) : turnM p p.1 = p := by
  obtain ⟨n3, n40, _, hc, v, hs⟩ := plan_facts h
  rw [turn_map h]
  refine mapC_id hs fun c hcm => ?_
  have q := hc c hcm
  have q2 := v.cut c hcm
  exact ⟨by omega, by show (c.1 + p.1) % p.1 = c.1; rw [Int.add_emod_right]; exact Int.emod_eq_of_lt q.1 q.2.1, by show (c.2 + p.1) % p.1 = c.2; rw [Int.add_emod_right]; exact Int.emod_eq_of_lt q.2.2.1 q.2.2.2⟩
theorem mirror_fst (p : Plan) : (mirrorM p).1 = p.1 := rfl
theorem turn_fst (p : Plan) (k : Int) : (turnM p k).1 = p.1 := rfl
theorem mirror_mirror {p : Plan} (h : isPlanM p = true) : mirrorM (mirrorM p) = p := by
  obtain ⟨n3, n40, _, hc, v, hs⟩ := plan_facts h
  rw [mirror_map (mirror_plan h), mirror_fst, mirror_map h, mapC_comp]
  refine mapC_id hs fun c hcm => ?_
  have q := hc c hcm
  have q2 := v.cut c hcm
  have one : ∀ x, 0 ≤ x → x < p.1 → (p.1 - (p.1 - x) % p.1) % p.1 = x := fun x x0 x1 => by
    rcases mirror_at x0 x1 with ⟨e, e'⟩ | ⟨e, e'⟩
    · rw [e, Int.sub_zero, Int.emod_self, e']
    · rw [e]
      exact (Int.emod_eq_of_lt (by omega) (by omega)).trans (by omega)
  exact ⟨by omega, one c.1 q.1 q.2.1, one c.2 q.2.2.1 q.2.2.2⟩
theorem mirror_turn {p : Plan} (h : isPlanM p = true) (k : Int) : mirrorM (turnM p k) = turnM (mirrorM p) (0 - k) := by
  obtain ⟨n3, n40, _, hc, v, hs⟩ := plan_facts h
  rw [mirror_map (turn_plan h k), turn_fst, turn_map h, mapC_comp, turn_map (mirror_plan h), mirror_fst, mirror_map h, mapC_comp]
  refine mapC_congr fun c hcm => ?_
  have one : ∀ x : Int, (p.1 - (x + k) % p.1) % p.1 = ((p.1 - x) % p.1 + (0 - k)) % p.1 := fun x => by
    have e1 : (p.1 - (x + k) % p.1) % p.1 = (p.1 - (x + k)) % p.1 := by rw [Int.sub_emod, Int.emod_emod, ← Int.sub_emod]
    have e2 : ((p.1 - x) % p.1 + (0 - k)) % p.1 = (p.1 - x + (0 - k)) % p.1 := by rw [Int.add_emod, Int.emod_emod, ← Int.add_emod]
    rw [e1, e2]
    congr 1
    omega
  exact ⟨one c.1, one c.2⟩
theorem lawTurn_eq {p : Plan} (h : isPlanM p = true) (k : Int) : lawTurn p k = turnM p k := (turn_map h k).symm
theorem ix_other {n c : Int} (h0 : 0 ≤ c) (h1 : c < n) : ix (lawOther n) c = (n - c) % n := by
  unfold lawOther
  rcases mirror_at h0 h1 with ⟨e, rfl⟩ | ⟨e, hc⟩
  · rw [e]; rfl
  · rw [e]
    unfold ix
    obtain ⟨k, hk⟩ : ∃ k, c.toNat = k + 1 := ⟨c.toNat - 1, by omega⟩
    rw [hk]
    show (((rng 1 n).map fun c => n - c)[k]?).getD default = n - c
    rw [List.getElem?_map, rng_at (by omega)]
    show n - (1 + (k : Int)) = n - c
    omega
theorem lawMirror_eq {p : Plan} (h : isPlanM p = true) : lawMirror p = mirrorM p := by
  obtain ⟨_, _, _, hc, _⟩ := plan_facts h
  rw [mirror_map h]
  unfold lawMirror mapC
  rw [List.map_congr_left (g := fun c => lawPair ((p.1 - c.1) % p.1) ((p.1 - c.2) % p.1)) fun c hcm => by
    have q := hc c hcm
    rw [ix_other (by omega) (by omega), ix_other (by omega) (by omega)]]

end Pf

namespace Pf
open PySem PySem.Spec PyProof.Rows L2
/-! ### a def whose last parameter y has a default dv -/
structure TxD (K : Fg) (mg : Str → Option Value) (x : Str) (ps : List Str) (y : Str) (st : Stmt) (n : Nat) (dv : V) : Prop where
  ex : ∃ f fd, FunD K x x (defArgs st) (defBody st) (defScope st) [dv] [] f fd ∧ Binds K fd ps [] ∧ (∃ ds, Vals [dv] ds ∧ Binds K fd ps ds) ∧ KBn K fd ps n [y] (fun us ws => us ++ ws) (fun vs zs => vs ++ zs) ∧ mg x = some (.ref f)
structure DfD (P : Program) (w : World) (K : Fg) (mg : Str → Option Value) (base : Heap) (k : Nat) (x : Str) (ps : List Str) (y : Str) (n : Nat) (dv : V) (sp : Sp) : Prop where
  ex : ∃ f fd, FnOk P w K mg base CX0 k f fd ps sp ∧ Binds K fd ps [] ∧ (∃ ds, Vals [dv] ds ∧ Binds K fd ps ds) ∧ KBn K fd ps n [y] (fun us ws => us ++ ws) (fun vs zs => vs ++ zs) ∧ PySem.W.keepIn K (.ref f) = true ∧ mg x = some (.ref f)
section
variable {P : Program} {w : World} {K : Fg} {mg : Str → Option Value} {base : Heap}
theorem TxD.ok {x y : Str} {st : Stmt} {N ps : List Str} {k n : Nat} {dv : V} {sp : Sp} (T : TxD K mg x ps y st n dv) (S : FnScope N ps (defScope st)) (len : ∀ vs H Q E, sp vs H Q E → vs.length = ps.length)
    (hbody : ∀ (cdv : Value) (f : Addr) (A : Around) (outer : List Env) (s : Shared) (H : Hp) (vs : List V) (Q : VK) (E : XK), Room k (A.deeper (envOfC x (defScope st) s.heap.objs.size f cdv)) → sp vs H Q E →
      ∃ t, PSs (cxOf CX0 P w K mg base N x (defScope st) f cdv A outer s H E).nox (defBody st) t ∧ t { nx := fun _ H' => Q .non H', rt := Q } (start N vs) H) : DfD P w K mg base (k + 1) x ps y n dv sp := by
  obtain ⟨f, fd, F, b, b1, b2, m⟩ := T.ex
  refine ⟨f, fd, F.ok S len fun cdv A outer s H vs Q E hr h => ?_, b, b1, b2, F.kp, m⟩
  obtain ⟨t, h1, h2⟩ := hbody cdv f A outer s H vs Q E hr h
  exact ⟨t, h1.nox, h2⟩
variable {X : Cx} {j k n : Nat} {x y : Str} {ps : List Str} {dv : V} {sp : Sp} {p pos : Pos} {e : Expr} {es : List Expr} {t tk : TA}
/-- all arguments written -/
theorem pe_dfa (D : DfD X.prog X.w X.K X.mg X.base j x ps y n dv sp) (hr : Room k X.A) (le : j ≤ k) (hg : Gl X x)
    (ha : PA X (e :: es) t) (hdb : (x == ("__debug__" : Str)) = false := by decide) (he : starEach (e :: es) X.env = (false, eval e X.env) :: starEach es X.env := by rfl) (hpl : (backTo pos (starEach es X.env)).any (·.1) = false := by rfl) :
    PE X (.Call (.Name x p) (e :: es) [] pos) (tCall sp [] E0 t) := by
  obtain ⟨f, fd, F, b, b1, b2, kp, m⟩ := D.ex
  exact pe_call F (hr.mono le) hg m kp b .nil pass0 ha hdb he hpl
/-- the last one left out -/
theorem pe_dfd (D : DfD X.prog X.w X.K X.mg X.base j x ps y n dv sp) (hr : Room k X.A) (le : j ≤ k) (hg : Gl X x)
    (ha : PA X (e :: es) t) (hdb : (x == ("__debug__" : Str)) = false := by decide) (he : starEach (e :: es) X.env = (false, eval e X.env) :: starEach es X.env := by rfl) (hpl : (backTo pos (starEach es X.env)).any (·.1) = false := by rfl) :
    PE X (.Call (.Name x p) (e :: es) [] pos) (tCall sp [dv] E0 t) := by
  obtain ⟨f, fd, F, b, ⟨ds, hv, b1⟩, b2, kp, m⟩ := D.ex
  exact pe_call F (hr.mono le) hg m kp b1 hv pass0 ha hdb he hpl
/-- the last one by its name -/
theorem pe_dfk {kws : List Keyword} (D : DfD X.prog X.w X.K X.mg X.base j x ps y n dv sp) (hr : Room k X.A) (le : j ≤ k) (hg : Gl X x)
    (ha : PA X (e :: es) t) (hkw : PK X kws tk) (hall : (backToKw pos (keywordEach kws X.env)).all (·.1.isSome) = true := by rfl) (hks : (backToKw pos (keywordEach kws X.env)).filterMap (·.1) = [y] := by rfl)
    (hdb : (x == ("__debug__" : Str)) = false := by decide) (he : starEach (e :: es) X.env = (false, eval e X.env) :: starEach es X.env := by rfl)
    (hpl : ((backTo pos (starEach (e :: es) X.env)).any (·.1) || (backToKw pos (keywordEach kws X.env)).any (·.1.isNone)) = false := by rfl) :
    PE X (.Call (.Name x p) (e :: es) kws pos) (tCallN n 1 sp (fun vs zs => vs ++ zs) E0 t tk) := by
  obtain ⟨f, fd, F, b, b1, b2, kp, m⟩ := D.ex
  exact pe_callN F (hr.mono le) hg m kp b2 pass0 ha hkw hall hks hdb he hpl
end
section
variable {α β γ : Type} [Rep α] [Rep β] [Rep γ] {σ : L2.St} {G H : Hp} {ta tb : TE} {x : α} {x2 : β} {v2 : V}
theorem ev_calld {pre : α → β → Prop} {f : α → β → γ} (ha : Ev ta σ G x) (h2 : ∀ G, rep G v2 x2) (hp : pre x x2) : Ev (tCall (sp2 pre f) [v2] E0 (tCons ta tNil)) σ G (f x x2) := fun H i Q q =>
  ha H i _ fun v G1 H1 g1 k1 => ⟨v, x, v2, x2, G1, rfl, g1.i, k1, h2 G1, hp, fun w G' H' g k => q w G' H' (g1.trans g) k⟩
theorem ev_callk {pre : α → β → Prop} {f : α → β → γ} (ha : Ev ta σ G x) (hb : Ev tb σ G x2) (hp : pre x x2) : Ev (tCallN 1 1 (sp2 pre f) (fun vs zs => vs ++ zs) E0 (tCons ta tNil) (tCons tb tNil)) σ G (f x x2) := fun H i Q q =>
  ha H i _ fun v G1 H1 g1 k1 => (hb.mono g1.g) H1 g1.i _ fun v2 G2 H2 g2 k2 => ⟨rfl, rfl, v, x, v2, x2, G2, rfl, g2.i, Rep.mono g2.g k1, k2, hp, fun w G' H' g k => q w G' H' ((g1.trans g2).trans g) k⟩
end
/-! ### such a def as the top leaves it -/
section
variable {K : Fg} {mg : Str → Option Value} {x y : Str} {st : Stmt} {f T : Addr} {oc : Value} {od an : Option Addr} {osl : Array (Option Value)} {kV doc pm cdv ct u : Value} {o : Obj} {m n : Nat} {dv : V} {ps : List Str}
theorem txd_mk (l : K.lookup f = some ⟨oc, od, .func (PySem.W.fnOf x x (defArgs st) (defBody st) (defScope st) (.ref T) kV doc pm an cdv ct), osl⟩) (c : PySem.W.codeIn K cdv x = true) (k : PySem.W.keepIn K (.ref f) = true)
    (lT : K.lookup T = some o) (oT : o.data = .seq #[u] m) (r : RelV dv u) (hm : mg x = some (.ref f)) (hn : n + 1 = ps.length)
    (h : ∀ (T : Addr) (kV doc pm : Value) (an : Option Addr) (cdv ct : Value) (us its : List Value), us.length = n + 1 → its.length = 1 →
      ∃ k, bindArgs (PySem.W.fnOf x x (defArgs st) (defBody st) (defScope st) (.ref T) kV doc pm an cdv ct) ⟨us, []⟩ = seqItems? (.ref T) >>= k ∧ k (some its.toArray) = pure (ps.zip (us ++ its.drop 1)))
    (h1 : ∀ (T : Addr) (kV doc pm : Value) (an : Option Addr) (cdv ct : Value) (us its : List Value), us.length = n → its.length = 1 →
      ∃ k, bindArgs (PySem.W.fnOf x x (defArgs st) (defBody st) (defScope st) (.ref T) kV doc pm an cdv ct) ⟨us, []⟩ = seqItems? (.ref T) >>= k ∧ k (some its.toArray) = pure (ps.zip (us ++ its.drop 0)))
    (h2 : ∀ (T : Addr) (kV doc pm : Value) (an : Option Addr) (cdv ct : Value) (us its ws : List Value), us.length = n → its.length = 1 → ws.length = 1 →
      ∃ k, bindArgs (PySem.W.fnOf x x (defArgs st) (defBody st) (defScope st) (.ref T) kV doc pm an cdv ct) ⟨us, [y].zip ws⟩ = seqItems? (.ref T) >>= k ∧ k (some its.toArray) = pure (ps.zip (us ++ ws))) : TxD K mg x ps y st n dv := by
  have F : FunD K x x (defArgs st) (defBody st) (defScope st) [dv] [] f (PySem.W.fnOf x x (defArgs st) (defBody st) (defScope st) (.ref T) kV doc pm an cdv ct) :=
    ⟨⟨oc, od, .ref T, kV, doc, pm, an, cdv, ct, osl, rfl, l, c, .inr ⟨by simp, T, o, [u], m, rfl, lT, oT, .cons r .nil⟩, .inl rfl⟩, k⟩
  refine ⟨f, _, F, ?_, ?_, ?_, hm⟩
  · obtain ⟨ds, hv, hb⟩ := F.binds1 (ps := ps) (n + 1) 1 (by simp) (by simp; exact hn) (fun T kV doc pm an cdv ct us its a b => h T kV doc pm an cdv ct us its a b)
    cases hv
    exact hb
  · exact F.binds1 (ps := ps) n 0 (by simp) (by simp; exact hn) (fun T kV doc pm an cdv ct us its a b => h1 T kV doc pm an cdv ct us its a b)
  · refine ⟨fun s us ws X a b => ?_, fun r1 r2 => r1.append r2⟩
    obtain ⟨k', e1, e2⟩ := h2 T kV doc pm an cdv ct us [u] ws a rfl b
    refine BindsTo.of_looks fun M => ?_
    rw [e1]
    exact looks_items X lT oT (.of_pure e2)
end
end Pf

namespace Pf
open PySem PySem.Spec PyProof.Rows L2
/-! ### errors of the program's own, made with a text -/
structure Ecl (K : Fg) (mg : Str → Option Value) (x : Str) (C : Addr) : Prop where
  g : mg x = some (.ref C)
  x : PySem.W.excIn K C [.type "ValueError", .type "Exception", .type "BaseException", .type "object"] "ValueError.__new__" = true
  k : PySem.W.keepIn K (.ref C) = true
  b : PySem.W.subIn K (.ref C) (.type "BaseException") = some true
  t : PySem.W.typeIn K (.ref C) = some (.type "type")
  i : PySem.W.isClsIn K C = true
theorem exm_is {K : Fg} {mg : Str → Option Value} {x : Str} {C S : Addr} {r : Bool} (e : Ecl K mg x S) (h : PySem.W.subIn K (.ref C) (.ref S) = some r) : PySem.W.exmOne K (.ref C) (.ref S) = some r := by
  have e1 : (PySem.W.subIn K (.ref S) (.type "BaseException") == some true) = true := by rw [e.b] <;> rfl
  have e2 : ((PySem.W.clsIn K S).isSome && PySem.W.typeIn K (.ref S) == some (.type "type")) = true := by
    have h2 : (PySem.W.clsIn K S).isSome = true := e.i
    rw [h2, e.t] <;> rfl
  unfold PySem.W.exmOne PySem.W.kitCls
  rw [if_pos e1]
  simp only
  rw [if_pos e2]
  exact h
structure DfX (P : Program) (w : World) (K : Fg) (mg : Str → Option Value) (base : Heap) (k : Nat) (x : Str) (ps : List Str) (sp : Sp) : Prop where
  ex : ∃ f fd, FnOk P w K mg base (L2.CX P w) k f fd ps sp ∧ Binds K fd ps [] ∧ PySem.W.keepIn K (.ref f) = true ∧ mg x = some (.ref f)
section
variable {P : Program} {w : World} {K : Fg} {mg : Str → Option Value} {base : Heap}
theorem Tx.okX {x : Str} {st : Stmt} {N ps : List Str} {k : Nat} {sp : Sp} (T : Tx K mg x ps st) (S : FnScope N ps (defScope st)) (len : ∀ vs H Q E, sp vs H Q E → vs.length = ps.length)
    (hbody : ∀ (cdv : Value) (f : Addr) (A : Around) (outer : List Env) (s : Shared) (H : Hp) (vs : List V) (Q : VK) (E : XK), Room k (A.deeper (envOfC x (defScope st) s.heap.objs.size f cdv)) → sp vs H Q E →
      ∃ t, PSs (cxOf (L2.CX P w) P w K mg base N x (defScope st) f cdv A outer s H E) (defBody st) t ∧ t { nx := fun _ H' => Q .non H', rt := Q } (start N vs) H) : DfX P w K mg base (k + 1) x ps sp := by
  obtain ⟨f, fd, F, b, m⟩ := T.ex
  exact ⟨f, fd, F.okX S len fun cdv A outer s H vs Q E hr h => hbody cdv f A outer s H vs Q E hr h, b, F.kp, m⟩
variable {X : Cx} {j k : Nat} {x : Str} {ps : List Str} {sp : Sp} {p pos : Pos} {e : Expr} {es : List Expr} {t : TA} {W : WX}
/-- a call within a try -/
theorem pe_dfS (D : DfX X.prog X.w X.K X.mg X.base j x ps sp) (hr : Room k X.A) (le : j ≤ k) (hg : Gl X x) (tk : Takes X W)
    (ha : PA X (e :: es) t) (hdb : (x == ("__debug__" : Str)) = false := by decide) (he : starEach (e :: es) X.env = (false, eval e X.env) :: starEach es X.env := by rfl) (hpl : (backTo pos (starEach es X.env)).any (·.1) = false := by rfl) :
    PE X (.Call (.Name x p) (e :: es) [] pos) (tCallS sp (WE W) t) := by
  obtain ⟨f, fd, F, b, kp, m⟩ := D.ex
  exact pe_callS F (hr.mono le) hg m kp b (fun σ => passAt tk σ) ha hdb he hpl
end
/-! ### a list that is new -/
section
variable {α β : Type} [Rep α] [Rep β] {σ : L2.St} {G H : Hp} {te : TE} {tt : TT} {g : TG} {K : Fg}
/-- a new list that the asker may change -/
def EvN (te : TE) (σ : L2.St) (G : Hp) (xs : List α) : Prop := ∀ H, Same G H → ∀ Q : VK, (∀ p G' H', Gr M0 G H G' H' → H p = none → Ml G' H' p xs → Q (.ref p) H') → te σ H Q
theorem EvN.ev {xs : List α} (h : EvN te σ G xs) : Ev te σ G xs := fun H i Q q => h H i Q fun p G' H' g np m => by
  obtain ⟨G2, g2, r2, _⟩ := m.frz g np
  exact q _ G2 H' g2 r2
theorem en_lcf {wi : TI} {vs : List Nat} {xs : List α} {p : α → Bool} {f : α → β} (hx : EvI wi σ G xs) (hl : xs.length ≤ 100000)
    (hb : ∀ x ∈ xs, ∀ v G1, Same G G1 → rep G1 v x → GB g v (wipe σ vs) G1 fun σ2 => wipe σ2 vs = wipe σ vs ∧ EvT tt σ2 G1 (p x) ∧ (p x = true → Ev te σ2 G1 (f x))) : EvN (tLc wi g tt te vs) σ G ((xs.filter p).map f) := fun H i Q q => by
  refine hx H i _ fun J G1 H1 g1 ok D nD => ?_
  have nG : G1 D = none := up_none g1.i nD
  refine ⟨fun k m H => m = xs.length - k ∧ k ≤ xs.length ∧ ∃ Gk, Gr M0 G1 H1 Gk H ∧ Ml Gk H D (((xs.take k).filter p).map f), ⟨_, rfl, Nat.zero_le _, G1, (Gr.refl g1.i).mut (.inl nD) nG, nG, [], upd_same, .nil⟩, ?_⟩
  rintro k m H2 ⟨rfl, hk, Gk, gk, ml⟩
  by_cases hlt : k < xs.length
  · refine .inr ⟨ok.go k H2 (gk.g.trans gk.i) hlt, fun H' => ∃ Gk, Gr M0 G1 H1 Gk H' ∧ Ml Gk H' D (((xs.take (k + 1)).filter p).map f), fun H' h' => ⟨xs.length - (k + 1), by omega, rfl, hlt, h'⟩, fun v H3 yl => ?_⟩
    have hxk : xs[k]? = some xs[k] := List.getElem?_eq_getElem hlt
    obtain ⟨G3, g3, r3⟩ := ok.yld k H2 v H3 Gk xs[k] gk.g gk.i yl hxk
    have g13 := gk.trans g3
    have et : ((xs.take (k + 1)).filter p).map f = ((xs.take k).filter p).map f ++ (if p xs[k] = true then [f xs[k]] else []) := by
      rw [List.take_add_one, hxk, List.filter_append, List.map_append]
      congr 1
      show ((([xs[k]] : List α)).filter p).map f = _
      by_cases hp : p xs[k] = true
      · rw [if_pos hp, List.filter_cons, if_pos hp]; rfl
      · rw [if_neg hp, List.filter_cons, if_neg hp]; rfl
    refine hb xs[k] (List.getElem_mem hlt) v G3 (g1.g.trans g13.g) r3 H3 g3.i _ fun σ2 ⟨hw, ht, he⟩ => ⟨hw, ?_⟩
    refine ht H3 g3.i _ fun G4 H4 g4 => ?_
    have ml4 := (ml.step0 g3).step0 g4
    refine ite2 (fun hp => ?_) (fun hp => ?_)
    · refine ((he hp).mono g4.g) H4 g4.i _ fun y G5 H5 g5 r5 => ?_
      have ml5 := ml4.step0 g5
      obtain ⟨n5, acc, e5, p5⟩ := ml5
      refine ⟨acc, e5, sl_lt ?_, G5, ((g13.trans g4).trans g5).mut (.inl nD) n5, n5, acc ++ [y], upd_same, ?_⟩
      · rw [paired_len p5, List.length_map]
        exact Nat.lt_of_le_of_lt (Nat.le_trans (List.length_filter_le _ _) (by rw [List.length_take]; exact Nat.min_le_left _ _)) (by omega)
      · rw [et, if_pos hp]
        exact paired_app p5 (.cons r5 .nil)
    · refine ⟨G4, g13.trans g4, ?_⟩
      rw [et, if_neg hp, List.append_nil]
      exact ml4
  · have e : xs.take k = xs := List.take_of_length_le (by omega)
    rw [e] at ml
    exact .inl ⟨ok.stop k H2 (gk.g.trans gk.i) (by omega), q _ Gk H2 (g1.trans gk) (up_none g1.same nD) ml⟩
end
/-! ### a dict of pairs that stands still -/
structure Dic (α : Type) where
  m : Int × Int → Option α
instance {α : Type} [Rep α] : Rep (Dic α) := ⟨fun G v d => ∃ a kvs, v = .ref a ∧ G a = some (.dT kvs) ∧ ∀ p, OptRep G (valV kvs (kk p)) (d.m p),
  fun e ⟨a, kvs, h1, h2, h3⟩ => ⟨a, kvs, h1, e _ _ h2, fun p => (h3 p).mono e⟩⟩
section
variable {α : Type} [Rep α] {σ : L2.St} {G H : Hp} {ta tb : TE} {K : Fg}
theorem Md.frz {M : Addr → Prop} {Ge He : Hp} {d : Addr} {n : Nat} {m : Int × Int → Option α} (x : Md G H d n m) (g : Gr M Ge He G H) (np : He d = none) : ∃ G', Gr M Ge He G' H ∧ Pf.rep G' (.ref d) (Dic.mk m) ∧ Same G G' := by
  obtain ⟨h1, kvs, h2, h3, h4⟩ := x
  exact ⟨upd G d (.dT kvs), g.still np h1 h2, ⟨d, kvs, rfl, upd_same, fun p => (h4 p).mono (same_new h1)⟩, same_new h1⟩
theorem opt_some {o : Option V} {m : Option α} (h : OptRep G o m) : o.isSome = m.isSome := by
  cases m with
  | none => rw [show o = none from h]; rfl
  | some x => obtain ⟨v, e, _⟩ := h; rw [e]; rfl
theorem ev_din {p : Int × Int} {d : Dic α} (ha : Ev ta σ G p) (hb : Ev tb σ G d) : Ev (tDIn ta tb) σ G ((d.m p).isSome) := fun H i Q q =>
  ha H i _ fun v G1 H1 g1 k1 => (hb.mono g1.g) H1 g1.i _ fun u G2 H2 g2 k2 => by
    obtain ⟨t, u1, w1, rfl, h2, h3, h4⟩ := k1
    cases h3; cases h4
    obtain ⟨a, kvs, rfl, e1, e2⟩ := k2
    exact ⟨a, valV kvs (kk p), rfl, DGet.t (k := kk p) (g2.i _ _ e1) (g2.i _ _ (g2.g _ _ h2)), q _ G2 H2 (g1.trans g2) (by rw [opt_some (e2 p)]; rfl)⟩
end
/-! ### defs that hand back a new list -/
section
variable {α β γ : Type} [Rep α] [Rep β] [Rep γ] {σ : L2.St} {G H : Hp} {ta tb te : TE} {x : α} {x2 : β} {D : Ends} {u : TS}
def spL1 (pre : α → Prop) (f : α → List γ) : Sp := fun vs H Q _ => ∃ v x G, vs = [v] ∧ Same G H ∧ rep G v x ∧ pre x ∧ ∀ p G' H', Gr M0 G H G' H' → H p = none → Ml G' H' p (f x) → Q (.ref p) H'
def spL2 (pre : α → β → Prop) (f : α → β → List γ) : Sp := fun vs H Q _ => ∃ v x v2 x2 G, vs = [v, v2] ∧ Same G H ∧ rep G v x ∧ rep G v2 x2 ∧ pre x x2 ∧ ∀ p G' H', Gr M0 G H G' H' → H p = none → Ml G' H' p (f x x2) → Q (.ref p) H'
theorem en_call1 {pre : α → Prop} {f : α → List γ} (ha : Ev ta σ G x) (hp : pre x) : EvN (tCall (spL1 pre f) [] E0 (tCons ta tNil)) σ G (f x) := fun H i Q q =>
  ha H i _ fun v G1 H1 g1 k1 => ⟨v, x, G1, rfl, g1.i, k1, hp, fun p G' H' g np m => q p G' H' (g1.trans g) (up_none g1.same np) m⟩
theorem en_call2 {pre : α → β → Prop} {f : α → β → List γ} (ha : Ev ta σ G x) (hb : Ev tb σ G x2) (hp : pre x x2) : EvN (tCall (spL2 pre f) [] E0 (tCons ta (tCons tb tNil))) σ G (f x x2) := fun H i Q q =>
  ha H i _ fun v G1 H1 g1 k1 => (hb.mono g1.g) H1 g1.i _ fun v2 G2 H2 g2 k2 => ⟨v, x, v2, x2, G2, rfl, g2.i, Rep.mono g2.g k1, k2, hp, fun p G' H' g np m => q p G' H' ((g1.trans g2).trans g) (up_none (g1.trans g2).same np) m⟩
theorem sq_setN {i : Nat} {xs : List γ} (h : EvN te σ G xs) (s : Same G H) (k : ∀ p G' H', Gr M0 G H G' H' → H p = none → Ml G' H' p xs → u D (σ.set i (some (.ref p))) H') : tSeq (tAsg te (gName i)) u D σ H := h H s _ k
theorem st_retN {xs : List γ} (h : EvN te σ G xs) (s : Same G H) (k : ∀ p G' H', Gr M0 G H G' H' → H p = none → Ml G' H' p xs → D.rt (.ref p) H') : tRet te D σ H := h H s _ k
theorem sq_dput2 {i : Nat} {d : Addr} {n : Nat} {m : Int × Int → Option α} {p : Int × Int} (hv : σ[i]? = some (some (.ref d))) (md : Md G H d n m) (s : Same G H) (hx : Ev te σ G x) (hk : Ev tb σ G p) (hn : n < 100000)
    (k : ∀ G' H' o, Gr M0 G H G' H' → Md G' (upd H' d o) d (n + 1) (fun q => if q = p then some x else m q) → Same G' (upd H' d o) → u D σ (upd H' d o)) : tSeq (sDPut (tVar i) tb te) u D σ H := sq_dput (D := { D with nx := u D }) hv md s hx hk hn k
end
end Pf

namespace Pf
open PySem PySem.Spec PyProof.Rows L2
/-! ### lines and fans -/
def sidesM (n : Int) : List (Int × Int) := (rng 0 n).map fun c => lawPair c ((c + 1) % n)
def linesM (p : Plan) : List (Int × Int) := sortP (sidesM p.1 ++ p.2.l)
def lawSides (n : Int) : List (Int × Int) := ((rng 0 (n - 1)).map fun l => (l, l + 1)) ++ [(0, n - 1)]
def allLines (p : Plan) : List (Int × Int) := sortP (lawSides p.1 ++ p.2.l)
theorem rng_snoc {a b : Int} (h : a ≤ b) : rng a (b + 1) = rng a b ++ [b] := by
  unfold rng
  have e : (b + 1 - a).toNat = (b - a).toNat + 1 := by omega
  rw [e, List.range_succ, List.map_append]
  congr 1
  show [a + ((b - a).toNat : Int)] = [b]
  congr 1
  omega
theorem sides_eq {n : Int} (h : 2 ≤ n) : sidesM n = lawSides n := by
  unfold sidesM lawSides
  have e : rng 0 n = rng 0 (n - 1) ++ [n - 1] := by
    have z := rng_snoc (a := 0) (b := n - 1) (by omega)
    rw [show n - 1 + 1 = n by omega] at z
    exact z
  rw [e, List.map_append]
  congr 1
  · refine List.map_congr_left fun c hc => ?_
    have hc := rng_mem.mp hc
    rw [Int.emod_eq_of_lt (by omega) (by omega), lp_lt (by omega)]
  · show [lawPair (n - 1) ((n - 1 + 1) % n)] = [(0, n - 1)]
    rw [show n - 1 + 1 = n by omega, Int.emod_self, lp_sym, lp_lt (by omega)]
theorem lines_eq {p : Plan} (h : 2 ≤ p.1) : linesM p = allLines p := by
  unfold linesM allLines
  rw [sides_eq h]
theorem lines_len {p : Plan} (h : isPlanM p = true) : ((allLines p).length : Int) = 2 * p.1 - 3 := by
  obtain ⟨h3, h40, _, _, v, _⟩ := plan_facts h
  have := v.len
  unfold allLines lawSides
  rw [sortP_len, List.length_append, List.length_append, List.length_map, rng_len]
  simp only [List.length_singleton]
  omega
theorem line_lt {p : Plan} (h : isPlanM p = true) {q : Int × Int} (hq : q ∈ allLines p) : 0 ≤ q.1 ∧ q.1 < q.2 ∧ q.2 < p.1 := by
  obtain ⟨h3, h40, _, _, v, _⟩ := plan_facts h
  unfold allLines at hq
  have hq := (sortP_perm _).mem_iff.mp hq
  rcases List.mem_append.mp hq with hq | hq
  · unfold lawSides at hq
    rcases List.mem_append.mp hq with hq | hq
    · obtain ⟨l, hl, rfl⟩ := List.mem_map.mp hq
      have hl := rng_mem.mp hl
      exact ⟨by show 0 ≤ l; omega, by show l < l + 1; omega, by show l + 1 < p.1; omega⟩
    · rw [List.mem_singleton.mp hq]
      exact ⟨by show (0 : Int) ≤ 0; omega, by show (0 : Int) < p.1 - 1; omega, by show p.1 - 1 < p.1; omega⟩
  · have := v.cut q hq
    omega
def heldM (L : List (Int × Int)) (q : Int × Int) : Option Bool := if q ∈ L ∨ (q.2, q.1) ∈ L then some true else none
def tiedM (p : Plan) : Dic Bool := ⟨heldM (allLines p)⟩
theorem held_put (L : List (Int × Int)) (x q : Int × Int) : (if q = (x.2, x.1) then some true else if q = (x.1, x.2) then some true else heldM L q) = heldM (L ++ [x]) q := by
  unfold heldM
  by_cases h1 : q = (x.2, x.1)
  · rw [if_pos h1, if_pos]
    refine .inr (List.mem_append_right _ ?_)
    rw [h1]
    exact List.mem_singleton.mpr rfl
  · rw [if_neg h1]
    by_cases h2 : q = (x.1, x.2)
    · rw [if_pos h2, if_pos]
      refine .inl (List.mem_append_right _ ?_)
      rw [h2]
      exact List.mem_singleton.mpr rfl
    · rw [if_neg h2]
      have e : (q ∈ L ∨ (q.2, q.1) ∈ L) ↔ (q ∈ L ++ [x] ∨ (q.2, q.1) ∈ L ++ [x]) := by
        constructor
        · rintro (h | h)
          · exact .inl (List.mem_append_left _ h)
          · exact .inr (List.mem_append_left _ h)
        · rintro (h | h)
          · rcases List.mem_append.mp h with h | h
            · exact .inl h
            · exact absurd (List.mem_singleton.mp h) h2
          · rcases List.mem_append.mp h with h | h
            · exact .inr h
            · refine absurd ?_ h1
              have z := List.mem_singleton.mp h
              rw [← z]
      by_cases h3 : q ∈ L ∨ (q.2, q.1) ∈ L
      · rw [if_pos h3, if_pos (e.mp h3)]
      · rw [if_neg h3, if_neg fun z => h3 (e.mpr z)]
def lawFan (p : Plan) (f : Int) : List Int := ((rng 1 p.1).filter fun s => ((tiedM p).m (f, (f + s) % p.1)).isSome).map fun s => (f + s) % p.1
def fanM (p : Plan) (f : Int) : List Int := (((rng 1 p.1).map fun s => (f + s) % p.1).filter fun c => decide (lawPair f c ∈ linesM p)).map fun c => c
theorem tied_iff {p : Plan} (h : isPlanM p = true) {f c : Int} : ((tiedM p).m (f, c)).isSome = decide (lawPair f c ∈ linesM p) := by
  have h3 := (plan_facts h).1
  rw [lines_eq (by omega)]
  show (heldM (allLines p) (f, c)).isSome = _
  unfold heldM
  have key : ((f, c) ∈ allLines p ∨ (c, f) ∈ allLines p) ↔ lawPair f c ∈ allLines p := by
    rcases lp_cases f c with ⟨e, q⟩ | ⟨e, q⟩
    · rw [e]
      constructor
      · rintro (z | z)
        · exact z
        · have y := line_lt h z
          have y2 : c < f := y.2.1
          omega
      · exact fun z => .inl z
    · rw [e]
      constructor
      · rintro (z | z)
        · have y := line_lt h z
          have y2 : f < c := y.2.1
          omega
        · exact z
      · exact fun z => .inr z
  by_cases z : (f, c) ∈ allLines p ∨ (c, f) ∈ allLines p
  · rw [if_pos z, decide_eq_true (key.mp z)]; rfl
  · rw [if_neg z, decide_eq_false fun y => z (key.mpr y)]; rfl
theorem fan_eq {p : Plan} (h : isPlanM p = true) (f : Int) : fanM p f = lawFan p f := by
  unfold fanM lawFan
  rw [List.map_id', List.filter_map]
  refine congrArg _ (List.filter_congr fun s _ => ?_)
  exact (tied_iff h).symm
theorem fan_len {p : Plan} (h : isPlanM p = true) (f : Int) : (lawFan p f).length ≤ 40 := by
  have h40 := (plan_facts h).2.1
  unfold lawFan
  rw [List.length_map]
  refine Nat.le_trans (List.length_filter_le _ _) ?_
  rw [rng_len]; omega

end Pf

namespace Pf
open PySem PySem.Spec PyProof.Rows L2
/-! ### dicts whose keys are tuples of whole numbers and texts, in their order -/
class TK (κ : Type) [Rep κ] where
  ky : κ → List Key
  inj : ∀ {x y : κ}, ky x = ky y → x = y
  to : ∀ {G : Hp} {b : Addr} {x : κ}, G b = some (.tup ((ky x).map kV)) → rep G (.ref b) x
  of : ∀ {G : Hp} {v : V} {x : κ}, rep G v x → ∃ b, v = .ref b ∧ G b = some (.tup ((ky x).map kV))
instance : TK (Int × Int) where
  ky := kk
  inj := kk_inj
  to := fun {G b x} h => ⟨b, .int x.1, .int x.2, rfl, h, rfl, rfl⟩
  of := fun {G v x} ⟨b, u, w, e, h, h1, h2⟩ => ⟨b, e, by rw [rep_int h1, rep_int h2] at h; exact h⟩
instance : TK (Tri Int Int Int) where
  ky := fun x => [Sum.inl x.a, Sum.inl x.b, Sum.inl x.c]
  inj := fun {x y} h => by
    injection h with h1 h; injection h with h2 h; injection h with h3 h
    cases x; cases y
    cases Sum.inl.inj h1; cases Sum.inl.inj h2; cases Sum.inl.inj h3; rfl
  to := fun {G b x} h => ⟨b, .int x.a, .int x.b, .int x.c, rfl, h, rfl, rfl, rfl⟩
  of := fun {G v x} ⟨b, u, w, z, e, h, h1, h2, h3⟩ => ⟨b, e, by rw [rep_int h1, rep_int h2, rep_int h3] at h; exact h⟩
instance : TK (Tri Int Int Str) where
  ky := fun x => [Sum.inl x.a, Sum.inl x.b, Sum.inr x.c]
  inj := fun {x y} h => by
    injection h with h1 h; injection h with h2 h; injection h with h3 h
    cases x; cases y
    cases Sum.inl.inj h1; cases Sum.inl.inj h2; cases Sum.inr.inj h3; rfl
  to := fun {G b x} h => ⟨b, .int x.a, .int x.b, .str x.c, rfl, h, rfl, rfl, rfl⟩
  of := fun {G v x} ⟨b, u, w, z, e, h, h1, h2, h3⟩ => ⟨b, e, by rw [rep_int h1, rep_int h2, rep_str h3] at h; exact h⟩
structure Dct (κ α : Type) where
  l : List (κ × α)
section
variable {κ α β : Type} [Rep κ] [TK κ] [DecidableEq κ] [Rep α] [Rep β] {σ : L2.St} {G H : Hp} {ta tb te : TE} {K : Fg} {D : Ends} {u : TS}
def EnR (G : Hp) (kv : List Key × V) (x : κ × α) : Prop := kv.1 = TK.ky x.1 ∧ rep G kv.2 x.2
theorem enr_mono {G G' : Hp} (e : Same G G') {kvs : List (List Key × V)} {l : List (κ × α)} (h : Paired (EnR G) kvs l) : Paired (EnR G') kvs l := Paired.mapP h fun _ _ r => ⟨r.1, Rep.mono e r.2⟩
instance : Rep (Dct κ α) := ⟨fun G v d => ∃ a kvs, v = .ref a ∧ G a = some (.dT kvs) ∧ Paired (EnR G) kvs d.l, fun e ⟨a, kvs, h1, h2, h3⟩ => ⟨a, kvs, h1, e _ _ h2, enr_mono e h3⟩⟩
def look (l : List (κ × α)) (k : κ) : Option α := (l.find? fun e => decide (e.1 = k)).map (·.2)
def put (l : List (κ × α)) (k : κ) (x : α) : List (κ × α) := if (l.any fun e => decide (e.1 = k)) = true then l.map (fun e => if e.1 = k then (e.1, x) else e) else l ++ [(k, x)]
def Mt (G H : Hp) (d : Addr) (l : List (κ × α)) : Prop := G d = none ∧ ∃ kvs, H d = some (.dT kvs) ∧ Paired (EnR G) kvs l
theorem ky_dec {x y : κ} : decide (TK.ky x = TK.ky y) = decide (x = y) := by
  by_cases h : x = y
  · subst h; rw [decide_eq_true rfl, decide_eq_true rfl]
  · rw [decide_eq_false h, decide_eq_false fun e => h (TK.inj e)]
theorem val_look (k : κ) : ∀ {kvs : List (List Key × V)} {l : List (κ × α)}, Paired (EnR G) kvs l → OptRep G (valV kvs (TK.ky k)) (look l k)
  | _, _, .nil => rfl
  | (c, v) :: kvs, (x, y) :: l, .cons ⟨h1, h2⟩ t => by
    have ih := val_look k t
    have h1 : c = TK.ky x := h1
    subst h1
    unfold valV look at ih ⊢
    rw [List.find?_cons, List.find?_cons]
    show OptRep G (Option.map _ (match decide (TK.ky x = TK.ky k) with | true => _ | false => _)) (Option.map _ (match decide (x = k) with | true => _ | false => _))
    rw [ky_dec]
    cases decide (x = k) with
    | true => exact ⟨v, rfl, h2⟩
    | false => exact ih
theorem any_look (k : κ) : ∀ {kvs : List (List Key × V)} {l : List (κ × α)}, Paired (EnR G) kvs l → (kvs.any fun kv => decide (kv.1 = TK.ky k)) = l.any fun e => decide (e.1 = k)
  | _, _, .nil => rfl
  | (c, v) :: kvs, (x, y) :: l, .cons ⟨h1, h2⟩ t => by
    have h1 : c = TK.ky x := h1
    subst h1
    rw [List.any_cons, List.any_cons, any_look k t]
    show (decide (TK.ky x = TK.ky k) || _) = (decide (x = k) || _)
    rw [ky_dec]
theorem repl_paired {v : V} {k : κ} {x : α} (r : rep G v x) : ∀ {kvs : List (List Key × V)} {l : List (κ × α)}, Paired (EnR G) kvs l → Paired (EnR G) (kvs.map fun kv => if kv.1 = TK.ky k then (kv.1, v) else kv) (l.map fun e => if e.1 = k then (e.1, x) else e)
  | _, _, .nil => .nil
  | (c, u) :: kvs, (z, y) :: l, .cons ⟨h1, h2⟩ t => by
    have h1 : c = TK.ky z := h1
    subst h1
    refine .cons ?_ (repl_paired r t)
    show EnR G (if TK.ky z = TK.ky k then (TK.ky z, v) else (TK.ky z, u)) (if z = k then (z, x) else (z, y))
    by_cases e : z = k
    · rw [if_pos e, if_pos (congrArg TK.ky e)]; exact ⟨rfl, r⟩
    · rw [if_neg e, if_neg fun q => e (TK.inj q)]; exact ⟨rfl, h2⟩
theorem put_paired {kvs : List (List Key × V)} {l : List (κ × α)} {v : V} {k : κ} {x : α} (h : Paired (EnR G) kvs l) (r : rep G v x) : Paired (EnR G) (putK kvs (TK.ky k) v) (put l k x) := by
  unfold putK put
  rw [any_look k h]
  by_cases q : (l.any fun e => decide (e.1 = k)) = true
  · rw [if_pos q, if_pos q]; exact repl_paired r h
  · rw [if_neg q, if_neg q]; exact paired_app h (.cons ⟨rfl, r⟩ .nil)
theorem Mt.step {M : Addr → Prop} {G' H' : Hp} {d : Addr} {l : List (κ × α)} (x : Mt G H d l) (g : Gr M G H G' H') (hp : ¬ M d) : Mt G' H' d l := by
  obtain ⟨h1, kvs, h2, h3⟩ := x
  exact ⟨g.out h1 h2, kvs, g.h _ _ hp h2, enr_mono g.g h3⟩
theorem Mt.step0 {G' H' : Hp} {d : Addr} {l : List (κ × α)} (x : Mt G H d l) (g : Gr M0 G H G' H') : Mt G' H' d l := x.step g fun z => z
theorem Mt.other {q d : Addr} {o : HO} {l : List (κ × α)} (x : Mt G H d l) (ne : d ≠ q) : Mt G (upd H q o) d l := by
  obtain ⟨h1, kvs, h2, h⟩ := x
  exact ⟨h1, kvs, by rw [upd_ne ne]; exact h2, h⟩
theorem Mt.frz {M : Addr → Prop} {Ge He : Hp} {d : Addr} {l : List (κ × α)} (x : Mt G H d l) (g : Gr M Ge He G H) (np : He d = none) : ∃ G', Gr M Ge He G' H ∧ Pf.rep G' (.ref d) (Dct.mk l) ∧ Same G G' := by
  obtain ⟨h1, kvs, h2, h4⟩ := x
  exact ⟨upd G d (.dT kvs), g.still np h1 h2, ⟨d, kvs, rfl, upd_same, enr_mono (same_new h1) h4⟩, same_new h1⟩
theorem sq_newT {i : Nat} (s : Same G H) (k : ∀ d o, H d = none → Mt (κ := κ) (α := α) G (upd H d o) d [] → Same G (upd H d o) → u D (σ.set i (some (.ref d))) (upd H d o)) : tSeq (tAsg tDNewT (gName i)) u D σ H := fun d nd =>
  k d (.dT []) nd ⟨up_none s nd, [], upd_same, .nil⟩ (same_mut s (up_none s nd))
/-- d[k], d still being made -/
theorem evh_tget {i : Nat} {d : Addr} {l : List (κ × α)} {p : κ} {x : α} (hv : σ[i]? = some (some (.ref d))) (md : Mt G H d l) (s : Same G H) (hk : Ev te σ G p) (hm : look l p = some x) : EvH (tDGet (tVar i) te) σ G H x := fun Q q =>
  ⟨.ref d, hv, hk H s _ fun v G1 H1 g1 k1 => by
    obtain ⟨n1, kvs, e1, e3⟩ := md.step0 g1
    have h := val_look p e3
    rw [hm] at h
    obtain ⟨w, e4, r⟩ := h
    obtain ⟨b, rfl, h2⟩ := TK.of k1
    exact ⟨d, w, rfl, e4 ▸ DGet.t e1 (g1.i _ _ h2), q w G1 H1 g1 r⟩⟩
/-- k in d, d still being made -/
theorem evh_tin {i : Nat} {d : Addr} {l : List (κ × α)} {p : κ} (hv : σ[i]? = some (some (.ref d))) (md : Mt G H d l) (s : Same G H) (hk : Ev te σ G p) : EvH (tDIn te (tVar i)) σ G H ((look l p).isSome) := fun Q q =>
  hk H s _ fun v G1 H1 g1 k1 => ⟨.ref d, hv, by
    obtain ⟨n1, kvs, e1, e3⟩ := md.step0 g1
    obtain ⟨b, rfl, h2⟩ := TK.of k1
    exact ⟨d, valV kvs (TK.ky p), rfl, DGet.t e1 (g1.i _ _ h2), q _ G1 H1 g1 (by rw [opt_some (val_look p e3)]; rfl)⟩⟩
theorem evh_tnotin {i : Nat} {d : Addr} {l : List (κ × α)} {p : κ} (hv : σ[i]? = some (some (.ref d))) (md : Mt G H d l) (s : Same G H) (hk : Ev te σ G p) : EvH (tDNotIn te (tVar i)) σ G H (!(look l p).isSome) := fun Q q =>
  hk H s _ fun v G1 H1 g1 k1 => ⟨.ref d, hv, by
    obtain ⟨n1, kvs, e1, e3⟩ := md.step0 g1
    obtain ⟨b, rfl, h2⟩ := TK.of k1
    exact ⟨d, valV kvs (TK.ky p), rfl, DGet.t e1 (g1.i _ _ h2), q _ G1 H1 g1 (by rw [opt_some (val_look p e3)]; rfl)⟩⟩
/-- d[k] = e -/
theorem st_tput {i : Nat} {d : Addr} {l : List (κ × α)} {p : κ} {x : α} (hv : σ[i]? = some (some (.ref d))) (md : Mt G H d l) (s : Same G H) (hx : EvH te σ G H x) (hk : Ev tb σ G p) (hn : l.length < 100000)
    (k : ∀ G' H' o, Gr M0 G H G' H' → Mt G' (upd H' d o) d (put l p x) → Same G' (upd H' d o) → D.nx σ (upd H' d o)) : sDPut (tVar i) tb te D σ H := hx _ fun v G1 H1 g1 k1 =>
  ⟨.ref d, hv, (hk.mono g1.g) H1 g1.i _ fun w G2 H2 g2 k2 => by
    obtain ⟨n1, kvs, e1, e3⟩ := (md.step0 g1).step0 g2
    obtain ⟨b, rfl, h2⟩ := TK.of k2
    have hl := Paired.length e3
    exact ⟨d, upd H2 d (.dT (putK kvs (TK.ky p) v)), rfl, DPut.t e1 (g2.i _ _ h2) (sl_lt (by omega)), k G2 H2 _ (g1.trans g2) ⟨n1, _, upd_same, put_paired e3 (Rep.mono g2.g k1)⟩ (same_mut g2.i n1)⟩⟩
theorem sq_tput {i : Nat} {d : Addr} {l : List (κ × α)} {p : κ} {x : α} (hv : σ[i]? = some (some (.ref d))) (md : Mt G H d l) (s : Same G H) (hx : EvH te σ G H x) (hk : Ev tb σ G p) (hn : l.length < 100000)
    (k : ∀ G' H' o, Gr M0 G H G' H' → Mt G' (upd H' d o) d (put l p x) → Same G' (upd H' d o) → u D σ (upd H' d o)) : tSeq (sDPut (tVar i) tb te) u D σ H := st_tput (D := { D with nx := u D }) hv md s hx hk hn k
/-! d stands still -/
theorem ev_tin {p : κ} {d : Dct κ α} (ha : Ev ta σ G p) (hb : Ev tb σ G d) : Ev (tDIn ta tb) σ G ((look d.l p).isSome) := fun H i Q q =>
  ha H i _ fun v G1 H1 g1 k1 => (hb.mono g1.g) H1 g1.i _ fun u G2 H2 g2 k2 => by
    obtain ⟨b, rfl, h2⟩ := TK.of k1
    obtain ⟨a, kvs, rfl, e1, e2⟩ := k2
    exact ⟨a, valV kvs (TK.ky p), rfl, DGet.t (g2.i _ _ e1) (g2.i _ _ (g2.g _ _ h2)), q _ G2 H2 (g1.trans g2) (by rw [opt_some (val_look p e2)]; rfl)⟩
theorem ev_tnotin {p : κ} {d : Dct κ α} (ha : Ev ta σ G p) (hb : Ev tb σ G d) : Ev (tDNotIn ta tb) σ G (!(look d.l p).isSome) := fun H i Q q =>
  ha H i _ fun v G1 H1 g1 k1 => (hb.mono g1.g) H1 g1.i _ fun u G2 H2 g2 k2 => by
    obtain ⟨b, rfl, h2⟩ := TK.of k1
    obtain ⟨a, kvs, rfl, e1, e2⟩ := k2
    exact ⟨a, valV kvs (TK.ky p), rfl, DGet.t (g2.i _ _ e1) (g2.i _ _ (g2.g _ _ h2)), q _ G2 H2 (g1.trans g2) (by rw [opt_some (val_look p e2)]; rfl)⟩
theorem ev_tget {p : κ} {d : Dct κ α} {x : α} (ha : Ev ta σ G d) (hb : Ev tb σ G p) (hm : look d.l p = some x) : Ev (tDGet ta tb) σ G x := fun H i Q q =>
  ha H i _ fun v G1 H1 g1 k1 => (hb.mono g1.g) H1 g1.i _ fun u G2 H2 g2 k2 => by
    obtain ⟨b, rfl, h2⟩ := TK.of k2
    obtain ⟨a, kvs, rfl, e1, e2⟩ := Rep.mono g2.g k1
    have h := val_look p e2
    rw [hm] at h
    obtain ⟨w, e4, r⟩ := h
    exact ⟨a, w, rfl, e4 ▸ DGet.t (g2.i _ _ e1) (g2.i _ _ h2), q w G2 H2 (g1.trans g2) r⟩
/-- a value or None -/
instance : Rep (Option Int) := ⟨fun _ v x => v = match x with | some i => .int i | none => .non, fun _ h => h⟩
instance : Flat (Option Int) := ⟨fun h => h⟩
theorem rep_on {v : V} (h : rep (α := Option Int) G v none) : v = .non := h
theorem rep_os {v : V} {i : Int} (h : rep (α := Option Int) G v (some i)) : v = .int i := h
/-- d.get(k) -/
theorem ev_tget1 {p : κ} {d : Dct κ Int} (ha : Ev ta σ G d) (hb : Ev tb σ G p) : Ev (tDGet1 ta tb) σ G (look d.l p) := fun H i Q q =>
  ha H i _ fun v G1 H1 g1 k1 => by
    obtain ⟨a, kvs, rfl, e1, e2⟩ := k1
    refine ⟨a, rfl, .inr ⟨kvs, .inl (g1.i _ _ e1)⟩, (hb.mono g1.g) H1 g1.i _ fun u G2 H2 g2 k2 => ?_⟩
    obtain ⟨b, rfl, h2⟩ := TK.of k2
    refine ⟨valV kvs (TK.ky p), DGet.t (g2.i _ _ (g2.g _ _ e1)) (g2.i _ _ h2), q _ G2 H2 (g1.trans g2) ?_⟩
    have h := val_look p e2
    cases e : look d.l p with
    | none => rw [e] at h; rw [show valV kvs (TK.ky p) = none from h]; rfl
    | some x => rw [e] at h; obtain ⟨w, e4, r⟩ := h; rw [e4]; cases r; rfl
theorem ev_isON {o : Option Int} (h : Ev ta σ G o) : Ev (tOp rIsN ta (tC .non)) σ G (!o.isSome) := fun H i Q q => h H i _ fun v G' H' g r => ⟨rfl, q _ G' H' g (by
  cases o with
  | none => rw [rep_on r]; rfl
  | some i => rw [rep_os r]; rfl)⟩
/-- list(d): its keys -/
abbrev rListT : List V → Hp → VK → Prop := fun xs H Q => ∃ d kvs, xs = [V.ref d] ∧ Rd H d (.dT kvs) ∧ ∀ p bs, H p = none → IsKeys H kvs bs → Q (.ref p) (upd H p (.lst (bs.map V.ref)))
theorem keys_more : ∀ {kvs : List (List Key × V)} {l : List (κ × α)} {bs : List Addr} {G : Hp}, Paired (EnR G) kvs l → IsKeys H kvs bs → Same G H → ∃ G', Same G G' ∧ Same G' H ∧ (∀ a o, G' a = some o → G a = some o ∨ ∃ vs, o = .tup vs ∧ H a = some o) ∧ Paired (rep G') (bs.map V.ref) (l.map (·.1))
  | _, _, _, G, .nil, h, s => by
    cases h
    exact ⟨G, Same.refl G, s, fun _ _ h => .inl h, .nil⟩
  | (c, v) :: kvs, (x, y) :: l, _, G, .cons ⟨h1, h2⟩ t, h, s => by
    have h1 : c = TK.ky x := h1
    subst h1
    cases h with
    | @cons _ b _ bs hb ht =>
      have hb : H b = some (.tup ((TK.ky x).map kV)) := hb
      obtain ⟨G', s1, s2, n, p⟩ := keys_more t ht s
      have s3 : Same G' (uni G' (upd (fun _ => none) b (.tup ((TK.ky x).map kV)))) := uni_l
      have s4 : Same (upd (fun _ => none) b (.tup ((TK.ky x).map kV))) H := fun a o e => by
        by_cases q : a = b
        · subst q; rw [upd_same] at e; cases e; exact hb
        · rw [upd_ne q] at e; cases e
      refine ⟨uni G' (upd (fun _ => none) b (.tup ((TK.ky x).map kV))), s1.trans s3, uni_i s2 s4, fun a o e => ?_, .cons (TK.to (uni_r s2 s4 _ _ upd_same)) (paired_mono s3 p)⟩
      rcases uni_c e with z | z
      · exact n a o z
      · by_cases q : a = b
        · subst q; rw [upd_same] at z; cases z; exact .inr ⟨_, rfl, hb⟩
        · rw [upd_ne q] at z; cases z
theorem ev_listK {d : Dct κ α} (ha : Ev ta σ G d) : Ev (tCB rListT (tCons ta tNil)) σ G (d.l.map (·.1)) := ev_B1 ha fun v G' H _ i k Q q => by
  obtain ⟨a, kvs, rfl, e1, e2⟩ := k
  refine ⟨a, kvs, rfl, .inl (i _ _ e1), fun p bs np ks => ?_⟩
  obtain ⟨G2, s1, s2, n, pr⟩ := keys_more e2 ks i
  have g2 : Gr M0 G' H G2 H := ⟨s1, s2, SB.refl, fun a o e => (n a o e).imp_right fun ⟨vs, h1, h2⟩ => ⟨.inr ⟨vs, h1, h2⟩, fun ps z => by rw [h1] at z; cases z⟩⟩
  exact q _ (upd G2 p (.lst (bs.map V.ref))) _ (g2.trans (gr_new s2 np)) ⟨p, _, rfl, upd_same, paired_mono (gr_new (o := .lst (bs.map V.ref)) s2 np).g pr⟩
end
section
variable {κ α : Type} [DecidableEq κ]
/-! a law of look and put -/
theorem look_put (l : List (κ × α)) (k q : κ) (x : α) : look (put l k x) q = if q = k then some x else look l q := by
  have key : ∀ l : List (κ × α), (l.map fun e => if e.1 = k then (e.1, x) else e).find? (fun e => decide (e.1 = q)) = (l.find? fun e => decide (e.1 = q)).map fun e => if e.1 = k then (e.1, x) else e := by
    intro l
    induction l with
    | nil => rfl
    | cons e r ih =>
      rw [List.map_cons, List.find?_cons, List.find?_cons]
      have h1 : (if e.1 = k then (e.1, x) else e).1 = e.1 := by by_cases h : e.1 = k <;> simp [h]
      rw [h1]
      cases decide (e.1 = q) with
      | true => rfl
      | false => exact ih
  unfold look put
  by_cases h : (l.any fun e => decide (e.1 = k)) = true
  · rw [if_pos h, key]
    by_cases e : q = k
    · subst e
      rw [if_pos rfl]
      cases f : l.find? fun e => decide (e.1 = q) with
      | none =>
        obtain ⟨e, he, hq⟩ := List.any_eq_true.mp h
        exact absurd hq (List.find?_eq_none.mp f e he)
      | some e =>
        have := List.find?_some f
        have he : e.1 = q := of_decide_eq_true this
        show some (if e.1 = q then (e.1, x) else e).2 = some x
        rw [if_pos he]
    · rw [if_neg e]
      cases f : l.find? fun e => decide (e.1 = q) with
      | none => rfl
      | some z =>
        have he := List.find?_some f
        have he : z.1 = q := of_decide_eq_true he
        show some (if z.1 = k then (z.1, x) else z).2 = some z.2
        rw [if_neg fun h => e (he.symm.trans h)]
  · rw [if_neg h, List.find?_append]
    have hn : (l.find? fun e => decide (e.1 = k)) = none := by
      refine List.find?_eq_none.mpr fun e he hq => h (List.any_eq_true.mpr ⟨e, he, hq⟩)
    by_cases e : q = k
    · subst e
      rw [if_pos rfl, hn, Option.none_or]
      rw [List.find?_cons, show decide ((q, x).1 = q) = true from decide_eq_true rfl]
      rfl
    · rw [if_neg e]
      cases f : l.find? fun e => decide (e.1 = q) with
      | none =>
        rw [Option.none_or, List.find?_cons, show decide ((k, x).1 = q) = false from decide_eq_false fun z => e z.symm]
        rfl
      | some z => rfl
theorem put_keys (l : List (κ × α)) (k : κ) (x : α) : (put l k x).map (·.1) = if k ∈ l.map (·.1) then l.map (·.1) else l.map (·.1) ++ [k] := by
  unfold put
  by_cases h : (l.any fun e => decide (e.1 = k)) = true
  · obtain ⟨e, he, hq⟩ := List.any_eq_true.mp h
    rw [if_pos h, if_pos (List.mem_map.mpr ⟨e, he, of_decide_eq_true hq⟩), List.map_map]
    refine List.map_congr_left fun e _ => ?_
    show (if e.1 = k then (e.1, x) else e).1 = e.1
    by_cases h : e.1 = k <;> simp [h]
  · rw [if_neg h, if_neg fun z => by
      obtain ⟨e, he, hq⟩ := List.mem_map.mp z
      exact h (List.any_eq_true.mpr ⟨e, he, decide_eq_true hq⟩)]
    simp
theorem put_nodup {l : List (κ × α)} (h : (l.map (·.1)).Nodup) (k : κ) (x : α) : ((put l k x).map (·.1)).Nodup := by
  rw [put_keys]
  by_cases e : k ∈ l.map (·.1)
  · rw [if_pos e]; exact h
  · rw [if_neg e]
    refine List.nodup_append.mpr ⟨h, List.pairwise_singleton _ _, fun a ha b hb => ?_⟩
    rw [List.mem_singleton.mp hb]
    intro z; subst z; exact e ha
theorem put_len (l : List (κ × α)) (k : κ) (x : α) : (put l k x).length ≤ l.length + 1 := by
  unfold put
  split
  · rw [List.length_map]; omega
  · rw [List.length_append]; exact Nat.le_refl _
theorem look_mem {l : List (κ × α)} {k : κ} : (look l k).isSome = true ↔ k ∈ l.map (·.1) := by
  unfold look
  rw [Option.isSome_map, List.find?_isSome]
  constructor
  · rintro ⟨e, he, hq⟩
    exact List.mem_map.mpr ⟨e, he, of_decide_eq_true hq⟩
  · intro h
    obtain ⟨e, he, hq⟩ := List.mem_map.mp h
    exact ⟨e, he, decide_eq_true hq⟩
end
end Pf

namespace Pf
open PySem PySem.Spec PyProof.Rows L2
/-! ### enumerate of a tuple -/
section
variable {prog : Program} {w : World} {A : Around} {E : Value → Shared → Prop} {s : Shared}
theorem draws_tup {m t : Addr} {ws : Array Value} (hh : A.handled = none) (mt : m ≠ t) :
    Draws prog w A m [m, t] ws.size (fun j x => ws[j]? = some x) (fun j h => h.IsTupleIter m t j ∧ h.IsTuple t ws) where
  live := fun j h st => let ⟨⟨ob, e, _⟩, _⟩ := st; ⟨ob, e⟩
  frame := fun j h h2 st k => ⟨st.1.at fun ob q => k m (by simp) ob q, st.2.at fun ob q => k t (by simp) ob q⟩
  item := fun j s Q E lt st q => by
    obtain ⟨s1, s2⟩ := st
    refine RZ.nextOf_tuple_item s1 s2 (Array.getElem?_eq_getElem lt) fun h2 n1 sb => ?_
    exact q _ h2 s.toks (Array.getElem?_eq_getElem lt) ⟨n1, s2.at fun ob e => (sb.2 t (Ne.symm mt)).trans e⟩ sb
  done := fun s Q E st q => by
    obtain ⟨s1, s2⟩ := st
    exact RZ.nextOf_tuple_end hh s1 s2 (Array.getElem?_eq_none (Nat.le_refl _)) q
theorem meets_enumT (t : Addr) (ws : Array Value) :
    Meets (Builtin.«enumerate.__new__» ⟨[.type "enumerate", .ref t], []⟩) (fun _ R s => s.heap.IsTuple t ws ∧
      R (.ok (.ret (.ref (s.heap.push { cls := .type "tuple_iterator", data := .fields #[.ref t, .int 0 0] }).objs.size)))
        { s with heap := (s.heap.push { cls := .type "tuple_iterator", data := .fields #[.ref t, .int 0 0] }).push { cls := .type "enumerate", data := .fields #[.none, .bool false, .ref s.heap.objs.size, rawInt 0, .none, .none] } }) :=
  .of_wp fun prog w A R s hyp => by
    obtain ⟨hp, g, d, tk, os⟩ := s; obtain ⟨ht, hyp⟩ := hyp
    have sb := sub_enumerate
    have hT : Heap.IsTuple (Shared.heap ⟨hp, g, d, tk, os⟩) t ws := ht
    wp_walk
    refine wpAny_stack_any fun stk => wpAny_pure ?_
    split
    · rename_i c _ _ _ _ _
      cases (c == Value.type "enumerate")
      · wp_walk using wpAny_pyIter_tuple hT
        exact ⟨_, rfl, hyp⟩
      · wp_walk using wpAny_pyIter_tuple hT
        exact ⟨_, rfl, hyp⟩
    · wp_walk using wpAny_pyIter_tuple hT
      exact ⟨_, rfl, hyp⟩
theorem call_enumT {t : Addr} {ws : Array Value} {Q : Value → Shared → Prop} (hT : s.heap.IsTuple t ws)
    (k : ∀ h2, IsEnum h2 (s.heap.objs.size + 1) s.heap.objs.size 0 .none → h2.IsTupleIter s.heap.objs.size t 0 → h2.objs.size = s.heap.objs.size + 2 →
      (∀ c ob, s.heap.get? c = some ob → h2.get? c = some ob) → Q (.ref (s.heap.objs.size + 1)) { s with heap := h2 }) : wpAny (model prog w) A (call (.type "enumerate") [.ref t]) Q E s := by
  refine callType_new F.called_enumerate (by decide) (F.typeCall_enumerate_1 _) (F.newCall_enumerate_1 _) (fun z => F.args_object_init_2 z _) F.entry_enumerate_new (meets_enumT t ws) ⟨hT, ?_⟩
  have z1 : (s.heap.push { cls := .type "tuple_iterator", data := .fields #[.ref t, .int 0 0] }).objs.size = s.heap.objs.size + 1 := Heap.size_push ..
  show _ ∧ _
  rw [z1]
  have en : IsEnum ((s.heap.push { cls := .type "tuple_iterator", data := .fields #[.ref t, .int 0 0] }).push { cls := .type "enumerate", data := .fields #[.none, .bool false, .ref s.heap.objs.size, rawInt 0, .none, .none] }) (s.heap.objs.size + 1) s.heap.objs.size 0 .none := by
    have z2 := Heap.get?_push_size (s.heap.push { cls := .type "tuple_iterator", data := .fields #[.ref t, .int 0 0] }) (o := { cls := .type "enumerate", data := .fields #[.none, .bool false, .ref s.heap.objs.size, rawInt 0, .none, .none] }) rfl
    rw [z1] at z2; exact z2
  exact ⟨⟨_, en, rfl⟩, k _ en ⟨_, Heap.get?_push_of_some _ (Heap.get?_push_size _ rfl), rfl, rfl⟩ (by rw [Heap.size_push, z1]) fun c ob e => Heap.get?_push_of_some _ (Heap.get?_push_of_some _ e)⟩
end
/-- the tuple at a, each thing with its place in a new pair -/
def ItET (K : Fg) (a : Addr) : It :=
  ⟨fun j H => ∃ (ws : List V) (z : V), SqT K H a ws ∧ ws[j]? = some z, fun j H v H2 => ∃ T z, v = .ref T ∧ H T = none ∧ H2 = upd H T (.tup [.int (j : Nat), z]) ∧ ∀ ws, SqT K H a ws → ws[j]? = some z, fun j H => ∃ ws : List V, SqT K H a ws ∧ ws.length ≤ j⟩
theorem turn_enumT {P : Program} {w : World} {K : Fg} {es : List Expr} {kk : Nat} {tp : Pos} (a e m : Addr) :
    Turn P w K (.Tuple es kk tp) (ItET K a) [e, m] e (fun j h => (∃ prev, IsEnum h e m ((j : Nat) : Int) prev) ∧ h.IsTupleIter m a j ∧ e ≠ m ∧ m ≠ a ∧ e ≠ a) where
  mem := by simp
  obj := fun j h st c hc => by
    obtain ⟨⟨prev, en⟩, ⟨ob, q1, q2, q3⟩, _⟩ := st
    have hc : c = e ∨ c = m := by simpa using hc
    rcases hc with rfl | rfl
    · exact ⟨_, en, fun v q => nomatch q⟩
    · exact ⟨ob, q1, fun v q => by rw [q3] at q; cases q⟩
  keep := fun j h h2 st k => let ⟨⟨prev, en⟩, mi, ap⟩ := st; ⟨⟨prev, k e (by simp) _ en⟩, mi.at fun ob q => k m (by simp) ob q, ap⟩
  item := by
    intro X hP hw hK hc j pins s σ H E I hf st hg
    subst hP hw hK
    obtain ⟨⟨prev, en⟩, mi, ne1, ne2, ne3⟩ := st
    obtain ⟨ws, z, hq, hz⟩ := hg
    obtain ⟨its, rv, tp, _⟩ := I.tuple hq
    obtain ⟨u, hu, ru⟩ := rv.get hz
    have lte : e < s.heap.objs.size := Heap.lt_size en
    have ltm : m < s.heap.objs.size := by obtain ⟨_, q, _⟩ := mi; exact Heap.lt_size q
    have hlt : j < its.toArray.size := by
      by_cases h : j < its.length
      · simpa using h
      · rw [List.getElem?_eq_none (by omega)] at hu; cases hu
    refine wpAny_pyNext_enum_itemD (draws_tup (A := X.A.in1) (t := a) (ws := its.toArray) (show X.A.in1.handled = none from I.ok.hd hc) ne2) en ⟨mi, tp⟩ hlt ne1 (by simp [ne1, ne3]) fun x h2 tk hx ho st2 hT hsz hk => ?_
    have ex : x = u := by
      have hx : its.toArray[j]? = some x := hx
      rw [show its.toArray[j]? = its[j]? by simp, hu] at hx
      exact (Option.some.inj hx).symm
    subst ex
    refine ⟨_, rfl, wpAny_letOwnedTupleGo_enum (s := { s with heap := h2, toks := tk + 1 }) ho fun h3 en3 sb => ?_⟩
    have hT3 : h3.get? s.heap.objs.size = some { cls := .type "tuple", data := .seq #[.int j tk, x] } := (sb.2 _ (Nat.ne_of_gt lte)).trans hT
    have nw : ObjOk X.prog X.w (upd H s.heap.objs.size (.tup [.int (j : Nat), z])) h3 s.heap.objs.size (.tup [.int (j : Nat), z]) :=
      ⟨by show 2 ≤ sizeLine; decide, [.int j tk, x], .cons ⟨_, rfl⟩ (.cons ru .nil), ⟨_, hT3, rfl, _, rfl⟩⟩
    have I2 : Inv X pins σ (upd H s.heap.objs.size (.tup [.int (j : Nat), z])) { s with heap := h3, toks := tk + 1 } :=
      I.turnedNew (t' := tk + 1) (ch := [e, m]) (fun c ob hb q => (sb.2 c (fun y => hb (by simp [y]))).trans (hk c ob (fun y => hb (by simp [y])) (fun y => hb (by simp [y])) q)) hf (Nat.le_refl _) nw
    refine ⟨.ref s.heap.objs.size, _, I2, rfl, ⟨_, z, rfl, I.hok.fresh (Nat.le_refl _), rfl, fun ys hy => by rw [I.tuple_inj hy hq]; exact hz⟩, ⟨⟨x, ?_⟩, st2.1.at fun ob q => (sb.2 m (Ne.symm ne1)).trans q, ne1, ne2, ne3⟩, fun c hcm => ?_⟩
    · rw [show ((j + 1 : Nat) : Int) = (j : Int) + 1 by omega]; exact en3
    · have ltc : c < s.heap.objs.size := by
        have y : c = e ∨ c = m := by simpa using hcm
        rcases y with rfl | rfl
        · exact lte
        · exact ltm
      rw [upd_ne (Nat.ne_of_lt ltc)]
      exact (hf c hcm).1
  done := by
    intro X hP hw hK hc j pins s σ H E I hf st hg
    subst hP hw hK
    obtain ⟨⟨prev, en⟩, mi, ne1, ne2, ne3⟩ := st
    obtain ⟨ws, hq, hz⟩ := hg
    obtain ⟨its, rv, tp, _⟩ := I.tuple hq
    have hl := rv.length
    obtain ⟨f0, f1, f2, f3, f4, f5⟩ := hf m (by simp)
    have hT : s.TypeIs (.ref e) "enumerate" := ⟨_, en, rfl⟩
    unfold pyNext
    refine wpAny_bind (wpAny_attempt (wpAny_callSpecial?_slot (name := Str.ofString "__next__") hT F.slot_enumerate_next (wpAny_call_entry F.slot_enumerate_next hT F.entry_enumerate_next ?_ (F.args_enumerate_next_1 _))))
    show wpAny _ _ (field (.ref e) 2 >>= _) _ _ s
    refine wpAny_bind (wpAny_field en rfl (x := .ref m) rfl ?_)
    refine wpAny_bind (RZ.nextOf_tuple_end (show X.A.in1.handled = none from I.ok.hd hc) mi tp (by simp; omega) fun h2 x xb ⟨ob, ho, hcl⟩ => ?_)
    refine wpAny_bind (wpAny_isInstance (T := "StopIteration") (b := true) ⟨ob, ho, hcl⟩ isSubtype_stop ?_)
    exact wpAny_pure ⟨rfl, I.turned (t' := s.toks) (fun c ob hb q => xb c ob hb q) f0 f1 f3 f4 f5⟩
  self := fun A j s Q E st k => let ⟨⟨_, en⟩, _⟩ := st; wpAny_pyIter_enum en k
def iEnumT (K : Fg) (ta : TA) : TI := fun σ H R => ta σ H fun vs H1 => ∃ a ws, vs = [.ref a] ∧ SqT K H1 a ws ∧ R (ItET K a) H1
theorem pi_enumT {X : Cx} {K : Fg} {e : Expr} {ta : TA} {p pos tp : Pos} {es : List Expr} {kk : Nat} (hK : X.K = K) (hg : Gl X "enumerate") (hm : X.mg "enumerate" = none) (ha : PA X [e] ta) (hs : starEach [e] X.env = [(false, eval e X.env)] := by rfl) :
    PI X (.Tuple es kk tp) (.Call (.Name "enumerate" p) [e] [] pos) (iEnumT K ta) := by
  subst hK
  refine ⟨fun pins s σ H R I h => ?_⟩
  refine Call_ (ld_blt I hg hm boot_enumerate (PyProof.Rows.callWith_type1 (thn (ha.run pos pins s σ H _ I h) fun us s1 ⟨vs, H1, I1, r1, q1⟩ => ?_) hs rfl))
  obtain ⟨a, ws, rfl, hq, q⟩ := q1
  cases r1 with
  | cons r rr =>
    cases rr
    cases r
    obtain ⟨its, rv, tp, _⟩ := I1.tuple hq
    have lta : a < s1.heap.objs.size := by obtain ⟨_, z, _⟩ := tp; exact Heap.lt_size z
    refine call_enumT tp fun h2 en mi hsz hk => wpAny_pyIter_enum en ?_
    refine ⟨s1.heap.objs.size + 1, [s1.heap.objs.size + 1, s1.heap.objs.size], _, _, H1, rfl, I1.kept (t' := s1.toks) hk, turn_enumT a (s1.heap.objs.size + 1) s1.heap.objs.size, ⟨⟨.none, en⟩, mi, Nat.succ_ne_self _, Nat.ne_of_gt lta, Nat.ne_of_gt (Nat.lt_succ_of_lt lta)⟩, fun c hcm => ?_, q⟩
    have hle : s1.heap.objs.size ≤ c := by
      have y : c = s1.heap.objs.size + 1 ∨ c = s1.heap.objs.size := by simpa using hcm
      rcases y with rfl | rfl
      · exact Nat.le_succ _
      · exact Nat.le_refl _
    exact I1.fpOk hle (I1.hok.fresh hle)
/-! ### a loop whose source has come -/
section
variable {α : Type} [Rep α] {σ : L2.St} {G H : Hp} {D : Ends} {ts u : TS} {g : TG} {K : Fg}
def FoK (g : TG) (tb : TS) (D : Ends) (σ : L2.St) (J : It) (H1 : Hp) : Prop := ∃ W : Nat → Nat → L2.St → Hp → Prop, (∃ m, W 0 m σ H1) ∧ ∀ i m σ H, W i m σ H →
  (J.stop i H ∧ D.nx σ H) ∨ (J.go i H ∧ ∃ N : L2.St → Hp → Prop, (∀ σ' H', N σ' H' → ∃ m', m' < m ∧ W (i + 1) m' σ' H') ∧ ∀ x H', J.yld i H x H' → g x σ H' fun σ2 H2 => tb { D with nx := N, ct := N, bk := D.nx } σ2 H2)
theorem for_rest {J : It} {xs : List α} (P : Nat → L2.St → Hp → Hp → Prop) (ok : ItOk J G xs) (s : Same G H)
    (h0 : P 0 σ G H)
    (hs : ∀ k x v σ' G1 H1 G2 H2, xs[k]? = some x → Same G G1 → Same G1 H1 → P k σ' G1 H1 → Gr M0 G1 H1 G2 H2 → rep G2 v x →
      g v σ' H2 fun σ2 H3 => ts { D with nx := fun σ3 H3 => ∃ G3, Same G1 G3 ∧ Same G3 H3 ∧ P (k + 1) σ3 G3 H3, ct := fun σ3 H3 => ∃ G3, Same G1 G3 ∧ Same G3 H3 ∧ P (k + 1) σ3 G3 H3, bk := D.nx } σ2 H3)
    (hd : ∀ σ' G' H', Same G G' → Same G' H' → P xs.length σ' G' H' → D.nx σ' H') : FoK g ts D σ J H := by
  refine ⟨fun k m σ' H' => m = xs.length - k ∧ k ≤ xs.length ∧ ∃ Gk, Same G Gk ∧ Same Gk H' ∧ P k σ' Gk H', ⟨_, rfl, Nat.zero_le _, G, Same.refl G, s, h0⟩, ?_⟩
  rintro k m σ' H2 ⟨rfl, hk, Gk, sg, sh, pk⟩
  by_cases hlt : k < xs.length
  · refine .inr ⟨ok.go k H2 (sg.trans sh) hlt, fun σ3 H3 => ∃ G3, Same Gk G3 ∧ Same G3 H3 ∧ P (k + 1) σ3 G3 H3, fun σ3 H3 h3 => ?_, fun v H3 yl => ?_⟩
    · obtain ⟨G3, e1, e2, e3⟩ := h3
      exact ⟨xs.length - (k + 1), by omega, rfl, hlt, G3, sg.trans e1, e2, e3⟩
    · obtain ⟨G3, g3, r3⟩ := ok.yld k H2 v H3 Gk xs[k] sg sh yl (List.getElem?_eq_getElem hlt)
      exact hs k xs[k] v σ' Gk H2 G3 H3 (List.getElem?_eq_getElem hlt) sg sh pk g3 r3
  · have e : k = xs.length := by omega
    subst e
    exact .inl ⟨ok.stop _ H2 (sg.trans sh) (Nat.le_refl _), hd σ' Gk H2 sg sh pk⟩
theorem sq_fow {wi : TI} (h : wi σ H (FoK g ts { D with nx := u D } σ)) : tSeq (tFor wi g ts) u D σ H := h
theorem itok_tup {a : Addr} {vs : List V} {xs : List α} (h2 : G a = some (.tup vs)) (h3 : Paired (rep G) vs xs) : ItOk (Itt K a) G xs := by
  refine ⟨fun k H s l => ?_, fun k H s l => ?_, fun k H v H' G1 x s1 s2 y e => ?_⟩
  · obtain ⟨v, e, _⟩ := paired_get h3 (List.getElem?_eq_getElem l)
    exact ⟨vs, v, .inl (.inl (s _ _ h2)), e⟩
  · exact ⟨vs, .inl (.inl (s _ _ h2)), by rw [paired_len h3]; exact l⟩
  · obtain ⟨rfl, y⟩ := y
    have e1 := y vs (.inl (.inl (s2 _ _ (s1 _ _ h2))))
    obtain ⟨x', e2, r⟩ := paired_get' h3 e1
    rw [e] at e2
    cases e2
    exact ⟨G1, Gr.refl s2, Rep.mono s1 r⟩
theorem paired_rev {α β : Type} {R : α → β → Prop} : ∀ {vs : List α} {xs : List β}, Paired R vs xs → Paired R vs.reverse xs.reverse
  | _, _, .nil => .nil
  | _, _, .cons r t => by rw [List.reverse_cons, List.reverse_cons]; exact paired_app (paired_rev t) (.cons r .nil)
/-- xs.reverse(), xs still being made -/
theorem sq_reverse {i : Nat} {p : Addr} {xs : List α} (hv : σ[i]? = some (some (.ref p))) (m : Ml G H p xs) (s : Same G H)
    (k : ∀ o, Ml G (upd H p o) p xs.reverse → Same G (upd H p o) → u D σ (upd H p o)) : tSeq (tDrop (tBM0 K "list" rReverse (tVar i))) u D σ H := by
  have sq := m.sq (K := K)
  obtain ⟨n, acc, e, pa⟩ := m
  exact ⟨.ref p, hv, .inl ⟨rfl, sq⟩, p, acc, rfl, rfl, e, k _ ⟨n, _, upd_same, paired_rev pa⟩ (same_mut s n)⟩
end
/-! ### t[::-1], t a tuple -/
section
variable {prog : Program} {w : World} {A : Around} {E : Value → Shared → Prop} {s : Shared}
theorem adj_back (n : Nat) : Builtin.Slice.sliceAdjust none none (-1) (n : Int) = ((n : Int) - 1, -1) := rfl
theorem places_back (n : Nat) : Builtin.Slice.slicePlaces ((n : Int) - 1) (-1) (-1) = n := by
  unfold Builtin.Slice.slicePlaces
  rw [if_neg (by decide)]
  by_cases h : (n : Int) - 1 > -1
  · rw [if_pos h, show (-(-1 : Int)) = 1 from rfl, Int.ediv_one]; omega
  · rw [if_neg h]; show (0 : Int).toNat = n; omega
theorem applied_back {q : Addr} {u : Tok} {n : Nat} {Q : Int × Int × Nat → Shared → Prop} (hs : s.heap.IsSliceOf q .none .none (.int (-1) u)) (h : Q ((n : Int) - 1, -1, n) s) : wpAny (model prog w) A (Builtin.Slice.sliceApplied (.ref q) (pure (n : Int))) Q E s := by
  obtain ⟨ob, h1, h2, h3⟩ := id hs
  unfold Builtin.Slice.sliceApplied Builtin.Slice.sliceFields
  refine wpAny_bind (wpAny_bind (wpAny_field h1 h3 (x := .none) rfl (wpAny_bind (wpAny_field h1 h3 (x := .none) rfl (wpAny_bind (wpAny_field h1 h3 (x := .int (-1) u) rfl (wpAny_pure ?_)))))))
  refine wpAny_bind (PyProof.Rows.slicePart_int ?_)
  show wpAny _ _ (if ((-1 : Int) == 0) = true then _ else _) _ _ s
  rw [if_neg (by decide)]
  refine wpAny_bind (PyProof.Rows.slicePart_none (wpAny_bind (PyProof.Rows.slicePart_none (wpAny_bind (wpAny_pure ?_)))))
  show wpAny _ _ (match Builtin.Slice.sliceAdjust none none (-1) (n : Int) with | (a, b) => pure (a, (-1 : Int), Builtin.Slice.slicePlaces a b (-1))) _ _ s
  rw [adj_back n]
  show wpAny _ _ (pure ((n : Int) - 1, (-1 : Int), Builtin.Slice.slicePlaces ((n : Int) - 1) (-1) (-1))) _ _ s
  rw [places_back]
  exact wpAny_pure h
theorem pick_back (ws : Array Value) : ((List.range ws.size).filterMap fun (k : Nat) => ws[((ws.size : Int) - 1 + (k : Int) * (-1)).toNat]?).toArray = ws.toList.reverse.toArray := by
  congr 1
  have e : ∀ n : Nat, n ≤ ws.size → (List.range n).filterMap (fun (k : Nat) => ws[((ws.size : Int) - 1 + (k : Int) * (-1)).toNat]?) = ws.toList.reverse.take n := by
    intro n
    induction n with
    | zero => intro _; rfl
    | succ n ih =>
      intro h
      rw [List.range_succ, List.filterMap_append, ih (by omega), List.take_add_one]
      congr 1
      rw [List.getElem?_reverse (by rw [Array.length_toList]; omega)]
      simp only [List.filterMap_cons, List.filterMap_nil, Array.length_toList]
      rw [show ((ws.size : Int) - 1 + (n : Int) * (-1)).toNat = ws.size - 1 - n by omega]
      rw [Array.getElem?_toList]
      rw [Array.getElem?_eq_getElem (by omega)]
      rfl
  have z := e ws.size (Nat.le_refl _)
  rw [z, List.take_of_length_le (by simp)]
theorem getItem_back {t q : Addr} {ws : Array Value} {u : Tok} {Q : Value → Shared → Prop} (ht : IsTup s.heap t ws) (hs : s.heap.IsSliceOf q .none .none (.int (-1) u))
    (h : Q (.ref s.heap.objs.size) { s with heap := s.heap.push { cls := .type "tuple", data := .seq ws.toList.reverse.toArray } }) (hz : ws.size ≤ sizeLine) : wpAny (model prog w) A (getItem (.ref t) (.ref q)) Q E s := by
  have ok : sizeOk (.seq ws.toList.reverse.toArray) := by
    show ws.toList.reverse.toArray.size ≤ sizeLine
    simpa using hz
  obtain ⟨ob, h1, h2, h3⟩ := id hs
  have hTs : s.TypeIs (.ref q) "slice" := ⟨ob, h1, h2⟩
  unfold getItem
  try with_reducible refine wpAny_holding ?_
  first | refine wpAny_bind (wpAny_pure ?_) | skip
  refine wpAny_bind (wpAny_sequenceKey ht.typeIs (by decide) ?_)
  refine wpAny_bind (wpAny_callSpecial?_slot (name := Str.ofString "__getitem__") ht.typeIs PyProof.Rows.slot_tuple_getitem (wpAny_call_entry PyProof.Rows.slot_tuple_getitem ht.typeIs entry_tuple_getitem ?_ (args_tuple_getitem _ _)))
  show wpAny _ _ (Builtin.Tuple.tupleItemsOf (.ref t) >>= _) _ _ s
  refine wpAny_bind (tupleItemsOf_ ht ?_)
  refine wpAny_bind (wpAny_typeOf hTs ?_)
  rw [if_pos (by decide)]
  refine wpAny_bind (applied_back hs ?_)
  show wpAny _ _ (if ((ws.size : Int) - 1 == 0 && (-1 : Int) == 1 && ws.size == ws.size) = true then _ else _) _ _ s
  rw [if_neg (by simp), pick_back]
  first
    | exact wpAny_bind (m := Builtin.Tuple.tupleExact _) (wpAny_newObj_type (wpAny_pure ⟨_, rfl, wpAny_pure h⟩) ok)
    | exact wpAny_bind (m := Builtin.Tuple.tupleExact _) (wpAny_newObj_type (wpAny_bind (wpAny_pure (wpAny_pure ⟨_, rfl, wpAny_pure h⟩))) ok)
    | exact wpAny_bind (wpAny_bind (m := Builtin.Tuple.tupleExact _) (wpAny_newObj_type (wpAny_pure (wpAny_pure ⟨_, rfl, wpAny_pure h⟩)) ok))
    | exact wpAny_bind (wpAny_bind (m := Builtin.Tuple.tupleExact _) (wpAny_newObj_type (wpAny_pure ⟨_, rfl, wpAny_pure h⟩) ok))
end
def tBack (K : Fg) (te ts : TE) : TE := fun σ H Q => te σ H fun x H1 => ts σ H1 fun y H2 => y = .int (-1) ∧ ∃ a ws, x = .ref a ∧ SqT K H2 a ws ∧ ∀ p, H2 p = none → Q (.ref p) (upd H2 p (.tup ws.reverse))
theorem vals_rev : ∀ {xs : List V} {us : List Value}, Vals xs us → Vals xs.reverse us.reverse
  | _, _, .nil => .nil
  | _, _, .cons r t => by rw [List.reverse_cons, List.reverse_cons]; exact (vals_rev t).append (.cons r .nil)
theorem pe_back {X : Cx} {K : Fg} {e st : Expr} {te ts : TE} {p2 pos : Pos} (hK : X.K = K) (he : PE X e te) (hs : PE X st ts) : PE X (.Subscript e (.Slice none none (some st) p2) pos) (tBack K te ts) := by
  subst hK
  refine ⟨fun pins s σ H Q I h => ?_⟩
  refine Subscript_ (thn (he.run pins s σ H _ I h) fun v s1 ⟨x, H1, I1, r1, q1⟩ => ?_)
  refine wpAny_Slice ?_
  rw [evalPart_none]
  refine wpAny_pure (wpAny_pure ?_)
  rw [evalPart_some]
  refine thn (hs.run pins s1 σ H1 _ I1 q1) fun vy s3 ⟨y, H3, I3, r3, q3⟩ => ?_
  obtain ⟨rfl, a, ws, rfl, hq, q⟩ := q3
  obtain ⟨u, rfl⟩ := r3
  cases r1
  have I4 : Inv X pins σ H3 { s3 with heap := s3.heap.push { cls := .type "slice", data := .fields #[.none, .none, .int (-1) u] } } := I3.kept (t' := s3.toks) fun b ob q => Heap.get?_push_of_some _ q
  obtain ⟨its, r, tp, hz⟩ := I4.tuple hq
  show wpAny (model X.prog X.w) X.A (subscriptTail e (.Slice none none (some st) p2) (.ref a) (.ref s3.heap.objs.size)) (EP X pins σ Q) X.xe { s3 with heap := s3.heap.push { cls := .type "slice", data := .fields #[.none, .none, .int (-1) u] } }
  refine tail_any (ops := [.ref a, .ref s3.heap.objs.size]) tp.typeIs PyProof.Rows.slot_tuple_getitem.lookup ?_ (by with_unfolding_all rfl)
  refine getItem_back tp (Heap.IsSliceOf.new ..) ?_ (by rw [List.size_toArray, ← r.length]; exact hz)
  refine ⟨.ref _, _, I4.laid (t' := s3.toks) (o := .tup ws.reverse) (fun b ob q => Heap.get?_push_of_some _ q) (Nat.le_refl _) ?_, rfl, q _ (I4.hok.fresh (Nat.le_refl _))⟩
  exact ⟨by rw [List.length_reverse]; exact hz, _, vals_rev r, IsTup.new _ _⟩
theorem ev_back {α : Type} [Rep α] {σ : L2.St} {G : Hp} {K : Fg} {te ts : TE} {xs : Tup α} (h : Ev te σ G xs) (hs : Ev ts σ G (-1 : Int)) : Ev (tBack K te ts) σ G (Tup.mk xs.l.reverse) := fun H i Q q =>
  h H i _ fun v G1 H1 g1 k1 => (hs.mono g1.g) H1 g1.i _ fun u G2 H2 g2 k2 => by
    obtain ⟨a, vs, rfl, h2, h3⟩ := Rep.mono g2.g k1
    cases k2
    refine ⟨rfl, a, vs, rfl, .inl (.inl (g2.i _ _ h2)), fun p np => q _ (upd G2 p (.tup vs.reverse)) _ ((g1.trans g2).trans (gr_new g2.i np)) ⟨p, _, rfl, upd_same, ?_⟩⟩
    exact paired_mono (gr_new (o := .tup vs.reverse) g2.i np).g (paired_rev h3)
end Pf

namespace Pf
open PySem PySem.Spec PyProof.Rows L2
/-! ### a plan, looked at cut by cut -/
def crossedM (a b : Int × Int) : Bool := (decide (a.1 < b.1) && (decide (b.1 < a.2) && decide (a.2 < b.2))) || (decide (b.1 < a.1) && (decide (a.1 < b.2) && decide (b.2 < a.2)))
theorem crossed_no {a b : Int × Int} : crossedM a b = false ↔ ¬ (a.1 < b.1 ∧ b.1 < a.2 ∧ a.2 < b.2) ∧ ¬ (b.1 < a.1 ∧ a.1 < b.2 ∧ b.2 < a.2) := by
  unfold crossedM
  rw [Bool.or_eq_false_iff]
  constructor
  · rintro ⟨h1, h2⟩
    refine ⟨fun z => ?_, fun z => ?_⟩
    · rw [decide_eq_true z.1, decide_eq_true z.2.1, decide_eq_true z.2.2] at h1; cases h1
    · rw [decide_eq_true z.1, decide_eq_true z.2.1, decide_eq_true z.2.2] at h2; cases h2
  · rintro ⟨h1, h2⟩
    refine ⟨?_, ?_⟩
    · cases e : (decide (a.1 < b.1) && (decide (b.1 < a.2) && decide (a.2 < b.2))) with
      | false => rfl
      | true =>
        simp only [Bool.and_eq_true, decide_eq_true_eq] at e
        exact absurd e h1
    · cases e : (decide (b.1 < a.1) && (decide (a.1 < b.2) && decide (b.2 < a.2))) with
      | false => rfl
      | true =>
        simp only [Bool.and_eq_true, decide_eq_true_eq] at e
        exact absurd e h2
structure OkAt (n : Int) (L : List (Int × Int)) (k : Nat) (c : Int × Int) : Prop where
  b : 0 ≤ c.1 ∧ 2 ≤ c.2 - c.1 ∧ c.2 < n ∧ c.2 - c.1 ≠ n - 1
  r : ∀ d, 0 < k → L[k - 1]? = some d → ltI d c = true
  x : ∀ o ∈ L.take k, crossedM o c = false
theorem good_at {n : Int} {L : List (Int × Int)} {k : Nat} {c : Int × Int} (h : isPlanM (n, Tup.mk L) = true) (hc : L[k]? = some c) : OkAt n L k c := by
  obtain ⟨v, e⟩ := plan_iff.mp h
  have pw : L.Pairwise fun x y => ltI x y = true := by rw [e]; exact sort_strict v.nd
  have hm := List.mem_of_getElem? hc
  refine ⟨?_, fun d hk hd => ?_, fun o ho => ?_⟩
  · have := v.cut c hm
    omega
  · obtain ⟨h1, e1⟩ := List.getElem?_eq_some_iff.mp hc
    obtain ⟨h2, e2⟩ := List.getElem?_eq_some_iff.mp hd
    have := List.pairwise_iff_getElem.mp pw (k - 1) k h2 h1 (by omega)
    rw [e1, e2] at this
    exact this
  · have ho := List.mem_of_mem_take ho
    exact crossed_no.mpr ⟨v.no o ho c hm, v.no c hm o ho⟩
theorem good_all {n : Int} {L : List (Int × Int)} (h3 : 3 ≤ n) (h40 : n ≤ 40) (hl : (L.length : Int) = n - 3) (h : ∀ k c, L[k]? = some c → OkAt n L k c) : isPlanM (n, Tup.mk L) = true := by
  have pw : L.Pairwise fun x y => ltI x y = true := by
    refine List.pairwise_iff_getElem.mpr ?_
    intro i j hi hj hij
    induction j with
    | zero => omega
    | succ j ih =>
      have o := (h (j + 1) _ (List.getElem?_eq_getElem hj)).r L[j] (by omega) (List.getElem?_eq_getElem (by omega))
      by_cases e : i = j
      · subst e; exact o
      · exact ltI_trans (ih (by omega) (by omega)) o
  refine plan_iff.mpr ⟨⟨h3, h40, hl, fun c hc => ?_, pw_nodup pw, fun x hx y hy => ?_⟩, pw_sorted pw⟩
  · obtain ⟨k, hk, e⟩ := List.mem_iff_getElem.mp hc
    have := (h k c (by rw [List.getElem?_eq_getElem hk, e])).b
    omega
  · obtain ⟨i, hi, ei⟩ := List.mem_iff_getElem.mp hx
    obtain ⟨j, hj, ej⟩ := List.mem_iff_getElem.mp hy
    have mt : ∀ {a b : Nat} (ha : a < L.length), a < b → L[a] ∈ L.take b := fun {a b} ha hab => List.mem_take_iff_getElem.mpr ⟨a, by omega, rfl⟩
    rcases Nat.lt_trichotomy i j with q | q | q
    · have o := (h j y (by rw [List.getElem?_eq_getElem hj, ej])).x x (ei ▸ mt hi q)
      exact (crossed_no.mp o).1
    · subst q
      have : x = y := ei.symm.trans ej
      subst this
      omega
    · have o := (h i x (by rw [List.getElem?_eq_getElem hi, ei])).x y (ej ▸ mt hj q)
      exact (crossed_no.mp o).2

/-! ### enumerate, <= of pairs -/
def enumI {α : Type} (xs : List α) : List (Int × α) := xs.zipIdx.map fun p => ((p.2 : Int), p.1)
theorem enum_len {α : Type} (xs : List α) : (enumI xs).length = xs.length := by unfold enumI; rw [List.length_map, List.length_zipIdx]
theorem enum_get {α : Type} {xs : List α} {k : Nat} {x : Int × α} (h : (enumI xs)[k]? = some x) : x.1 = (k : Int) ∧ xs[k]? = some x.2 := by
  unfold enumI at h
  rw [List.getElem?_map, List.getElem?_zipIdx] at h
  cases e : xs[k]? with
  | none => rw [e] at h; cases h
  | some a =>
    rw [e] at h
    have h := Option.some.inj h
    subst h
    exact ⟨by show ((0 + k : Nat) : Int) = k; omega, rfl⟩
section
variable {α β γ : Type} [Rep α] [Rep β] [Rep γ] {σ : L2.St} {G H : Hp} {ta tb : TE} {K : Fg}
theorem ei_enumT {xs : Tup α} (h : Ev ta σ G xs) : EvI (iEnumT K (tCons ta tNil)) σ G (enumI xs.l) := fun H i R q => h H i _ fun v G1 H1 g1 k1 => by
  obtain ⟨a, vs, rfl, h2, h3⟩ := k1
  refine ⟨a, vs, rfl, .inl (.inl (g1.i _ _ h2)), q _ G1 H1 g1 ⟨fun k H s l => ?_, fun k H s l => ?_, fun k H v H2 Ga x s1 s2 y e => ?_⟩⟩
  · rw [enum_len] at l
    obtain ⟨v, e, _⟩ := paired_get h3 (List.getElem?_eq_getElem l)
    exact ⟨vs, v, .inl (.inl (s _ _ h2)), e⟩
  · rw [enum_len] at l
    exact ⟨vs, .inl (.inl (s _ _ h2)), by rw [paired_len h3]; exact l⟩
  · obtain ⟨T, z, rfl, nT, rfl, f⟩ := y
    have e1 := f vs (.inl (.inl (s2 _ _ (s1 _ _ h2))))
    obtain ⟨z1, ez1, r1⟩ := paired_get' h3 e1
    obtain ⟨e2, e3⟩ := enum_get e
    rw [ez1] at e3
    have e3 := Option.some.inj e3
    have gn := gr_new (o := .tup [.int (k : Nat), z]) s2 nT
    refine ⟨upd Ga T (.tup [.int (k : Nat), z]), gn, T, _, z, rfl, upd_same, ?_, ?_⟩
    · rw [e2]; rfl
    · rw [← e3]; exact Rep.mono (s1.trans gn.g) r1
theorem gnp {i j l : Nat} {v : V} {p : α × (β × γ)} {Q : L2.St → Hp → Prop} (hv : rep G v p) (s : Same G H) (h : ∀ u w z, rep G u p.1 → rep G w p.2.1 → rep G z p.2.2 → Q (((σ.set i (some u)).set j (some w)).set l (some z)) H) :
    gTup K 2 (gCons (gName i) (gCons (gTup K 2 (gCons (gName j) (gCons (gName l) gNil))) gNil)) v σ H Q := by
  obtain ⟨a, u, w, rfl, h2, h3, b, w1, w2, rfl, h5, h6, h7⟩ := hv
  exact ⟨a, [u, .ref b], rfl, .inl (.inl (s _ _ h2)), rfl, u, [.ref b], rfl, .ref b, [], rfl, b, [w1, w2], rfl, .inl (.inl (s _ _ h5)), rfl, w1, [w2], rfl, w2, [], rfl, rfl, rfl, h u w1 w2 h3 h6 h7⟩
theorem le_pair (p q : Int × Int) : Ob.lexAt (fun j => decide (([p.1, p.2] : List Int).getD j 0 = ([q.1, q.2] : List Int).getD j 0)) (fun j => decide (([p.1, p.2] : List Int).getD j 0 ≤ ([q.1, q.2] : List Int).getD j 0)) (decide (([p.1, p.2] : List Int).length ≤ ([q.1, q.2] : List Int).length)) 0 (min ([p.1, p.2] : List Int).length ([q.1, q.2] : List Int).length) = !ltI q p := by
  show (if decide (p.1 = q.1) = true then (if decide (p.2 = q.2) = true then true else decide (p.2 ≤ q.2)) else decide (p.1 ≤ q.1)) = !ltI q p
  cases e : ltI q p with
  | true =>
    have a := SrtO.lexB_iff.mp e
    by_cases h1 : p.1 = q.1
    · rw [decide_eq_true h1, if_pos rfl, decide_eq_false (by omega), if_neg (by decide), decide_eq_false (by omega)]; rfl
    · rw [decide_eq_false h1, if_neg (by decide), decide_eq_false (by omega)]; rfl
  | false =>
    have a := SrtO.lexB_no.mp e
    by_cases h1 : p.1 = q.1
    · rw [decide_eq_true h1, if_pos rfl]
      by_cases h2 : p.2 = q.2
      · rw [decide_eq_true h2, if_pos rfl]; rfl
      · rw [decide_eq_false h2, if_neg (by decide), decide_eq_true (by omega)]; rfl
    · rw [decide_eq_false h1, if_neg (by decide), decide_eq_true (by omega)]; rfl
theorem ev_leP {p q : Int × Int} (ha : Ev ta σ G p) (hb : Ev tb σ G q) : Ev (tOp (rLeT K) ta tb) σ G (!ltI q p) :=
  ev2 ha hb fun v u G' _ k1 k2 H i Q k => by
    obtain ⟨_, t1, rfl, e1⟩ := keyAt_of k1
    obtain ⟨_, t2, rfl, e2⟩ := keyAt_of k2
    refine ⟨t1, t2, [p.1, p.2], [q.1, q.2], rfl, rfl, .inl (.inl (i _ _ e1)), .inl (.inl (i _ _ e2)), k _ G' H (Gr.refl i) ?_⟩
    rw [le_pair]; rfl
theorem cut_take {ι : Type} {xs : List ι} {k : Nat} (h : k ≤ xs.length) : cutI xs none (some (k : Int)) = xs.take k := by
  unfold cutI
  rw [HT.sIx_none, HT.sIx_nat, List.drop_zero, Nat.sub_zero, Nat.min_eq_left h]
theorem cut_len {ι : Type} (xs : List ι) (lo hi : Option Int) : (cutI xs lo hi).length ≤ xs.length := by
  unfold cutI
  rw [List.length_take, List.length_drop]
  omega
end
end Pf

namespace Pf
open PySem PySem.Spec PyProof.Rows L2
def waysBeside (ways : List Int) (first chosen last : Int) : Int := ix ways (chosen - first + 1) * ix ways (last - chosen + 1)
theorem or_ff {p q : Prop} [Decidable p] [Decidable q] (h : (decide p || decide q) = true) : p ∨ q := by simpa using h
def waysUp (ways : List Int) (corners : Int) : List Int := ways ++ [((rng 1 (corners - 1)).map fun c => waysBeside ways 0 c (corners - 1)).sum]
def waysN : Nat → List Int
  | 0 => [0, 0, 1]
  | k + 1 => waysUp (waysN k) (3 + k)
theorem waysN_len : ∀ k, (waysN k).length = 3 + k
  | 0 => rfl
  | k + 1 => by
    show (waysN k ++ [_]).length = 3 + (k + 1)
    rw [List.length_append, waysN_len k]
    rfl
theorem waysN_small : ∀ k : Fin 39, (waysN k).all (fun x => decide (0 ≤ x ∧ x < 2 ^ 80)) = true := by decide +kernel
theorem waysN_ix {k : Nat} (hk : k < 39) (i : Int) : 0 ≤ ix (waysN k) i ∧ ix (waysN k) i < 2 ^ 80 := by
  have h := waysN_small ⟨k, hk⟩
  rw [List.all_eq_true] at h
  unfold ix
  cases e : (waysN k)[i.toNat]? with
  | none => exact ⟨by decide, by decide⟩
  | some v => exact of_decide_eq_true (h v (List.mem_of_getElem? e))
theorem mulW80 {a b : Int} (ha : 0 ≤ a ∧ a < 2 ^ 80) (hb : 0 ≤ b ∧ b < 2 ^ 80) : CMulW a b := by
  have z : ∀ a : Int, 0 ≤ a ∧ a < 2 ^ 80 → a.natAbs.log2 < 81 := fun a ha => by
    by_cases h0 : a.natAbs = 0
    · rw [h0]; decide
    · have : a.natAbs < 2 ^ 80 := by omega
      exact Nat.lt_succ_of_lt ((Nat.log2_lt h0).mpr this)
  have h1 := z a ha
  have h2 := z b hb
  show a.natAbs.log2 + b.natAbs.log2 < 1000000
  omega

def lawWays : Nat → List Int
  | 0 => [1]
  | k + 1 => lawWays k ++ [(lawWays k).getLastD 0 * 2 * (2 * (1 + (k : Int)) - 1) / (1 + (k : Int) + 1)]
theorem lawWays_len : ∀ k, (lawWays k).length = 1 + k
  | 0 => rfl
  | k + 1 => by
    show (lawWays k ++ [_]).length = 1 + (k + 1)
    rw [List.length_append, lawWays_len k]
    rfl

/-! ### the way of a number -/
def before (W : List Int) (s m e : Int) : Int := ((rng (s + 1) m).map fun c => waysBeside W s c e).sum
inductive CutN (W : List Int) : Int → Int → Int → List (Int × Int) → Prop
  | leaf {s e k : Int} : e - s < 2 → CutN W s e k []
  | node {s m e k : Int} {A B : List (Int × Int)} : s < m → m < e → 0 ≤ k - before W s m e → k - before W s m e < waysBeside W s m e →
      CutN W s m ((k - before W s m e) / ix W (e - m + 1)) A → CutN W m e ((k - before W s m e) % ix W (e - m + 1)) B → CutN W s e k (([(s, m), (m, e)].filter wideB) ++ A ++ B)
theorem CutN.cut {W : List Int} {s e k : Int} {L : List (Int × Int)} (h : CutN W s e k L) : s < e → ∃ A, CutT s e A ∧ L = A.filter wideB := by
  induction h with
  | leaf h => intro q; exact ⟨[], .leaf (by omega), rfl⟩
  | @node s m e k A B h1 h2 h3 h4 _ _ ih1 ih2 =>
    intro _
    obtain ⟨A', c1, e1⟩ := ih1 h1
    obtain ⟨B', c2, e2⟩ := ih2 h2
    refine ⟨_, .node h1 h2 c1 c2, ?_⟩
    rw [e1, e2, List.append_assoc, ← List.filter_append, ← List.filter_append]
    rfl
theorem before_0 (W : List Int) (s e : Int) : before W s (s + 1) e = 0 := by
  unfold before rng
  rw [show (s + 1 - (s + 1)).toNat = 0 by omega]
  rfl
theorem sum_snoc (l : List Int) (x : Int) : (l ++ [x]).sum = l.sum + x := by
  rw [List.sum_append]
  simp
theorem before_s {W : List Int} {s m e : Int} (h : s < m) : before W s (m + 1) e = before W s m e + waysBeside W s m e := by
  unfold before
  rw [rng_snoc (by omega), List.map_append]
  exact sum_snoc _ _
theorem rng_shift (a b k : Int) : rng (a + k) (b + k) = (rng a b).map fun c => c + k := by
  unfold rng
  rw [List.map_map, show (b + k - (a + k)).toNat = (b - a).toNat by omega]
  refine List.map_congr_left fun c _ => ?_
  show a + k + (c : Int) = a + (c : Int) + k
  omega
theorem before_shift (W : List Int) (s m e k : Int) : before W (s + k) (m + k) (e + k) = before W s m e := by
  unfold before
  rw [show s + k + 1 = s + 1 + k by omega, rng_shift, List.map_map]
  congr 1
  refine List.map_congr_left fun c _ => ?_
  show waysBeside W (s + k) (c + k) (e + k) = waysBeside W s c e
  unfold waysBeside
  rw [show c + k - (s + k) + 1 = c - s + 1 by omega, show e + k - (c + k) + 1 = e - c + 1 by omega]
structure WOk (W : List Int) (n : Int) : Prop where
  len : n < W.length
  pos : ∀ i, 2 ≤ i → i ≤ n → 0 < ix W i
  small : ∀ i, 0 ≤ ix W i ∧ ix W i < 2 ^ 80
  sum : ∀ m, 3 ≤ m → m ≤ n → ix W m = before W 0 (m - 1) (m - 1)
theorem WOk.whole {W : List Int} {n s e : Int} (w : WOk W n) (h : 2 ≤ e - s) (hn : e - s + 1 ≤ n) : before W s e e = ix W (e - s + 1) := by
  rw [w.sum (e - s + 1) (by omega) hn, ← before_shift W 0 _ _ s]
  rw [show (0 : Int) + s = s by omega, show e - s + 1 - 1 + s = e by omega]
theorem WOk.beside {W : List Int} {n s m e : Int} (w : WOk W n) : 0 ≤ waysBeside W s m e := Int.mul_nonneg (w.small _).1 (w.small _).1
theorem ix_app {W : List Int} {x i : Int} (h0 : 0 ≤ i) (h : i < W.length) : ix (W ++ [x]) i = ix W i := by
  unfold ix
  rw [List.getElem?_append_left (by omega)]
theorem before_app {W : List Int} {x : Int} {m : Int} (h3 : 3 ≤ m) (h : m ≤ W.length) : before (W ++ [x]) 0 (m - 1) (m - 1) = before W 0 (m - 1) (m - 1) := by
  unfold before
  congr 1
  refine List.map_congr_left fun c hc => ?_
  have hc := rng_mem.mp hc
  unfold waysBeside
  rw [ix_app (by omega) (by omega), ix_app (by omega) (by omega)]
theorem waysN_sum : ∀ (k : Nat) (m : Int), 3 ≤ m → m < 3 + k → ix (waysN k) m = before (waysN k) 0 (m - 1) (m - 1)
  | 0, m, h1, h2 => by omega
  | k + 1, m, h1, h2 => by
    have hl := waysN_len k
    show ix (waysUp (waysN k) (3 + k)) m = before (waysUp (waysN k) (3 + k)) 0 (m - 1) (m - 1)
    unfold waysUp
    rw [before_app h1 (by omega)]
    by_cases h : m < 3 + k
    · rw [ix_app (by omega) (by omega)]
      exact waysN_sum k m h1 h
    · have em : m = 3 + (k : Int) := by omega
      subst em
      unfold ix
      rw [List.getElem?_append_right (by omega), show (3 + (k : Int)).toNat - (waysN k).length = 0 by omega]
      rfl
theorem waysN_pos' : ∀ k : Fin 39, ((waysN k).drop 2).all (fun x => decide (0 < x)) = true := by decide +kernel
theorem waysN_pos {k : Nat} (hk : k < 39) {i : Int} (h2 : 2 ≤ i) (h : i < 3 + k) : 0 < ix (waysN k) i := by
  have z := waysN_pos' ⟨k, hk⟩
  rw [List.all_eq_true] at z
  have hl := waysN_len k
  have hi : i.toNat < (waysN k).length := by omega
  unfold ix
  rw [List.getElem?_eq_getElem hi]
  refine of_decide_eq_true (z _ ?_)
  refine List.mem_drop_iff_getElem.mpr ⟨i.toNat - 2, by show i.toNat - 2 + 2 < (waysN k).length; omega, ?_⟩
  congr 1
  omega
theorem waysN_ok {n : Int} (h3 : 3 ≤ n) (h40 : n ≤ 40) : WOk (waysN (n - 2).toNat) n := by
  have hl := waysN_len (n - 2).toNat
  exact ⟨by omega, fun i h1 h2 => waysN_pos (by omega) h1 (by omega), fun i => waysN_ix (by omega) i, fun m h1 h2 => waysN_sum _ m h1 (by omega)⟩
theorem cutT_valid {n : Int} {A : List (Int × Int)} (h : CutT 0 (n - 1) A) (h3 : 3 ≤ n) (h40 : n ≤ 40) : Valid n (A.filter wideB) := by
  refine ⟨h3, h40, ?_, fun c hc => ?_, h.nodup.filter _, fun x hx y hy => h.apart x (List.mem_filter.mp hx).1 y (List.mem_filter.mp hy).1⟩
  · rw [h.wide]
    split <;> omega
  · obtain ⟨c1, c2⟩ := List.mem_filter.mp hc
    have c2 : 1 < c.2 - c.1 := of_decide_eq_true c2
    have := h.inside c c1
    omega
theorem CutT.few {s e : Int} {A : List (Int × Int)} (h : CutT s e A) : ((A.filter wideB).length : Int) ≤ e - s := by
  rw [h.wide]
  have := h.lt
  split <;> omega

end Pf

namespace Pf
open PySem PySem.Spec PyProof.Rows L2
/-! ### divmod of great numbers -/
def rDm : List V → Hp → VK → Prop := fun xs H Q => ∃ i j, xs = [.int i, .int j] ∧ CDivW i j ∧ ∀ p, H p = none → Q (.ref p) (upd H p (.tup [.int (i / j), .int (i % j)]))
theorem call_divmodW {X : Cx} : CallR X (.builtin "divmod") rDm := by
  intro pins s σ H xs us Q I r h
  obtain ⟨i, j, rfl, ⟨h1, h2⟩, q⟩ := h
  obtain ⟨u, z, rfl, ⟨t, rfl⟩, ⟨t2, rfl⟩⟩ := vals2 r
  refine divmod_int (by omega) ?_ (.inl (PyProof.noPylong_of_log2 h2))
  rw [Int.fdiv_eq_ediv_of_nonneg i (Int.le_of_lt h1), Int.fmod_eq_emod_of_nonneg i (Int.le_of_lt h1)]
  have nw : H s.heap.objs.size = none := I.hok.fresh (Nat.le_refl _)
  refine ⟨.ref s.heap.objs.size, _, ?_, rfl, q _ nw⟩
  refine I.laid (fun b ob e => Heap.get?_push_of_some _ e) (Nat.le_refl _) ⟨by show 2 ≤ sizeLine; decide, [.int (i / j) s.toks, .int (i % j) (s.toks + 1)], .cons ⟨_, rfl⟩ (.cons ⟨_, rfl⟩ .nil), ?_⟩
  exact ⟨_, Heap.get?_push_size s.heap rfl, rfl, 0, rfl⟩
section
variable {α β : Type} [Rep α] [Rep β] {σ : L2.St} {G H : Hp} {te ta tb : TE} {tt : TT} {x : α} {K : Fg} {D : Ends} {ts tr u : TS}
theorem ev_dm {i j : Int} (ha : Ev ta σ G i) (hb : Ev tb σ G j) (hc : CDivW i j) : Ev (tCB rDm (tCons ta (tCons tb tNil))) σ G (i / j, i % j) := ev_B2 ha hb fun v w G' H _ h k1 k2 Q q =>
  ⟨i, j, by rw [rep_int k1, rep_int k2], hc, fun p np => q _ (upd G' p (.tup [.int (i / j), .int (i % j)])) _ (gr_new h np) ⟨p, _, _, rfl, upd_same, rfl, rfl⟩⟩
theorem nil_w {Q : List V → Hp → Prop} (h : Q [] H) : tNil σ H Q := h
theorem cb_w {r : List V → Hp → VK → Prop} {v : V} {Q : VK} (h : tCB r (tCons (tC v) tNil) σ H Q) : r [v] H Q := h
/-! ### lists of one's own -/
theorem en_lst {ta : TA} {xs : List α} (h : EvAs ta σ G xs) (hl : xs.length ≤ 100000) : EvN (tLst ta) σ G xs := fun H i Q q => h H i _ fun vs G1 H1 g1 k1 => ⟨by rw [paired_len k1]; exact sl_small hl, fun p np => by
  have nG := up_none g1.i np
  exact q p G1 _ (g1.mut (.inl (up_none g1.same np)) nG) (up_none g1.same np) ⟨nG, vs, upd_same, k1⟩⟩
theorem ext_at {p p2 : Addr} {xs zs : List α} {Q : VK} (m : Ml G H p xs) (m2 : Ml G H p2 zs) (s : Same G H) (hl : xs.length + zs.length ≤ 100000)
    (k : ∀ o, Ml G (upd H p o) p (xs ++ zs) → Same G (upd H p o) → Q .non (upd H p o)) : rExtend (.ref p) [.ref p2] H Q := by
  obtain ⟨n1, acc, e1, pa⟩ := m
  obtain ⟨n2, acc2, e2, pa2⟩ := m2
  exact ⟨p, p2, acc, acc2, rfl, rfl, e1, e2, by rw [paired_len pa, paired_len pa2]; exact sl_small hl, k _ ⟨n1, _, upd_same, paired_app pa pa2⟩ (same_mut s n1)⟩
/-! ### while, += of whole numbers -/
theorem sq_while (W : Nat → L2.St → Hp → Hp → Prop) {m0 : Nat} (h0 : W m0 σ G H) (hs : Same G H)
    (turn : ∀ m σ' G' H', Same G G' → Same G' H' → W m σ' G' H' → ∃ b, EvT tt σ' G' b ∧
      (b = true → ∀ G1 H1, Gr M0 G' H' G1 H1 → ts { D with nx := fun σ2 H2 => ∃ m' G2, m' < m ∧ Same G' G2 ∧ Same G2 H2 ∧ W m' σ2 G2 H2, ct := fun σ2 H2 => ∃ m' G2, m' < m ∧ Same G' G2 ∧ Same G2 H2 ∧ W m' σ2 G2 H2, bk := u D } σ' H1) ∧
      (b = false → ∀ G1 H1, Gr M0 G' H' G1 H1 → u D σ' H1)) : tSeq (tWhile tt ts) u D σ H := by
  refine ⟨fun m σ' H' => ∃ G', Same G G' ∧ Same G' H' ∧ W m σ' G' H', ⟨m0, G, Same.refl G, hs, h0⟩, ?_⟩
  rintro m σ' H' ⟨G', s1, s2, w⟩
  obtain ⟨b, hb, k1, k2⟩ := turn m σ' G' H' s1 s2 w
  refine hb H' s2 _ fun G1 H1 g1 => ite2 (fun e => ?_) (fun e => ?_)
  · refine ⟨fun σ2 H2 => ∃ m' G2, m' < m ∧ Same G' G2 ∧ Same G2 H2 ∧ W m' σ2 G2 H2, fun σ2 H2 h => ?_, k1 e G1 H1 g1⟩
    obtain ⟨m', G2, lt, a, b, c⟩ := h
    exact ⟨m', lt, G2, s1.trans a, b, c⟩
  · exact k2 (by simpa using e) G1 H1 g1
theorem sq_aug {i : Nat} {f : Int → Int → Int} {a c : Int} (hv : σ[i]? = some (some (.int a))) (h : Ev te σ G c) (s : Same G H) (k : ∀ G' H', Gr M0 G H G' H' → u D (σ.set i (some (.int (f a c)))) H') : tSeq (tAug i te (ipI f)) u D σ H :=
  ⟨.int a, hv, h H s _ fun v G1 H1 g1 k1 => ⟨a, c, rfl, rep_int k1, k G1 H1 g1⟩⟩
theorem st_aug {i : Nat} {f : Int → Int → Int} {a c : Int} (hv : σ[i]? = some (some (.int a))) (h : Ev te σ G c) (s : Same G H) (k : ∀ G' H', Gr M0 G H G' H' → D.nx (σ.set i (some (.int (f a c)))) H') : tAug i te (ipI f) D σ H :=
  ⟨.int a, hv, h H s _ fun v G1 H1 g1 k1 => ⟨a, c, rfl, rep_int k1, k G1 H1 g1⟩⟩
end
/-! ### defs that refuse -/
section
variable {α β : Type} [Rep α] [Rep β]
def spX1 (pre : α → Prop) (C : Addr) : Sp := fun vs H _ E => ∃ v x G, vs = [v] ∧ Same G H ∧ rep G v x ∧ pre x ∧ ∀ G' H', Gr M0 G H G' H' → E (.ref C) none H'
def spX2 (pre : α → β → Prop) (C : Addr) : Sp := fun vs H _ E => ∃ v x v2 x2 G, vs = [v, v2] ∧ Same G H ∧ rep G v x ∧ rep G v2 x2 ∧ pre x x2 ∧ ∀ G' H', Gr M0 G H G' H' → E (.ref C) none H'
end
end Pf

namespace Pf
open PySem PySem.Spec PyProof.Rows L2
/-! ### the number of a way to cut -/
inductive NumT (W : List Int) : Int → Int → List (Int × Int) → Int → Prop
  | leaf {s e : Int} : e - s = 1 → NumT W s e [] 0
  | node {s m e k1 k2 : Int} {A B : List (Int × Int)} : s < m → m < e → NumT W s m A k1 → NumT W m e B k2 → NumT W s e ((s, m) :: (m, e) :: (A ++ B)) (before W s m e + k1 * ix W (e - m + 1) + k2)
theorem NumT.cut {W : List Int} {s e k : Int} {A : List (Int × Int)} (h : NumT W s e A k) : CutT s e A := by
  induction h with
  | leaf h => exact .leaf h
  | node h1 h2 _ _ ih1 ih2 => exact .node h1 h2 ih1 ih2
theorem CutT.num (W : List Int) {s e : Int} {A : List (Int × Int)} (h : CutT s e A) : ∃ k, NumT W s e A k := by
  induction h with
  | leaf h => exact ⟨0, .leaf h⟩
  | node h1 h2 _ _ ih1 ih2 =>
    obtain ⟨k1, i1⟩ := ih1
    obtain ⟨k2, i2⟩ := ih2
    exact ⟨_, .node h1 h2 i1 i2⟩
theorem before_mono {W : List Int} {n s e : Int} (w : WOk W n) : ∀ (d : Nat) (m : Int), s < m → before W s m e ≤ before W s (m + d) e
  | 0, m, _ => by rw [show m + ((0 : Nat) : Int) = m by omega]; exact Int.le_refl _
  | d + 1, m, h => by
    have ih := before_mono w d m h (e := e)
    have z := before_s (W := W) (s := s) (m := m + d) (e := e) (by omega)
    have b := w.beside (s := s) (m := m + d) (e := e)
    rw [show m + ((d + 1 : Nat) : Int) = m + d + 1 by omega]
    omega
theorem before_le {W : List Int} {n s e m m' : Int} (w : WOk W n) (h : s < m) (h2 : m ≤ m') : before W s m e ≤ before W s m' e := by
  have z := before_mono w (m' - m).toNat m h (e := e)
  rw [show m + (((m' - m).toNat : Nat) : Int) = m' by omega] at z
  exact z
theorem before_nn {W : List Int} {n s e m : Int} (w : WOk W n) (h : s < m) : 0 ≤ before W s m e := by
  have z := before_le w (s := s) (e := e) (m := s + 1) (m' := m) (by omega) (by omega)
  rw [before_0] at z
  exact z
theorem two_part {X d a b : Int} (ha : 0 ≤ a) (hX : a < X) (hd : 0 < d) (hb : 0 ≤ b) (hb2 : b < d) : 0 ≤ a * d + b ∧ a * d + b < X * d ∧ (a * d + b) / d = a ∧ (a * d + b) % d = b := by
  have h1 : 0 ≤ a * d := Int.mul_nonneg ha (Int.le_of_lt hd)
  have h2 : (a + 1) * d ≤ X * d := Int.mul_le_mul_of_nonneg_right (by omega) (Int.le_of_lt hd)
  have h3 : (a + 1) * d = a * d + d := by rw [Int.add_mul, Int.one_mul]
  refine ⟨by omega, by omega, ?_, ?_⟩
  · rw [Int.add_comm, Int.add_mul_ediv_right _ _ (by omega), Int.ediv_eq_zero_of_lt hb hb2, Int.zero_add]
  · rw [Int.add_comm, Int.add_mul_emod_self_right, Int.emod_eq_of_lt hb hb2]
theorem NumT.bounds {W : List Int} {n s e k : Int} {A : List (Int × Int)} (w : WOk W n) (h : NumT W s e A k) : e - s + 1 ≤ n → 0 ≤ k ∧ k < ix W (e - s + 1) := by
  induction h with
  | leaf h =>
    intro hn
    exact ⟨Int.le_refl _, w.pos _ (by omega) hn⟩
  | @node s m e k1 k2 A B h1 h2 _ _ ih1 ih2 =>
    intro hn
    obtain ⟨a1, a2⟩ := ih1 (by omega)
    obtain ⟨b1, b2⟩ := ih2 (by omega)
    have hd := w.pos (e - m + 1) (by omega) (by omega)
    have t := two_part a1 a2 hd b1 b2
    have n0 := before_nn w (s := s) (e := e) h1
    have st := before_s (W := W) (s := s) (m := m) (e := e) h1
    have le := before_le w (s := s) (e := e) (m := m + 1) (m' := e) (by omega) (by omega)
    have wh := w.whole (s := s) (e := e) (by omega) hn
    have be : waysBeside W s m e = ix W (m - s + 1) * ix W (e - m + 1) := rfl
    omega
theorem NumT.cutN {W : List Int} {n s e k : Int} {A : List (Int × Int)} (w : WOk W n) (h : NumT W s e A k) : e - s + 1 ≤ n → CutN W s e k (A.filter wideB) := by
  induction h with
  | leaf h =>
    intro _
    exact .leaf (by omega)
  | @node s m e k1 k2 A B h1 h2 i1 i2 ih1 ih2 =>
    intro hn
    obtain ⟨a1, a2⟩ := i1.bounds w (by omega)
    obtain ⟨b1, b2⟩ := i2.bounds w (by omega)
    have hd := w.pos (e - m + 1) (by omega) (by omega)
    have t := two_part a1 a2 hd b1 b2
    have ek : before W s m e + k1 * ix W (e - m + 1) + k2 - before W s m e = k1 * ix W (e - m + 1) + k2 := by omega
    have z : CutN W s e (before W s m e + k1 * ix W (e - m + 1) + k2) (([(s, m), (m, e)].filter wideB) ++ A.filter wideB ++ B.filter wideB) := by
      refine .node h1 h2 (by rw [ek]; exact t.1) (by rw [ek]; exact t.2.1) ?_ ?_
      · rw [ek, t.2.2.1]; exact ih1 (by omega)
      · rw [ek, t.2.2.2]; exact ih2 (by omega)
    have el : ((s, m) :: (m, e) :: (A ++ B)).filter wideB = ([(s, m), (m, e)].filter wideB) ++ A.filter wideB ++ B.filter wideB := by
      rw [List.append_assoc, ← List.filter_append, ← List.filter_append]
      rfl
    rw [el]
    exact z
theorem CutN.num {W : List Int} {n s e k : Int} {L : List (Int × Int)} (w : WOk W n) (w2 : ix W 2 = 1) (h : CutN W s e k L) : s < e → e - s + 1 ≤ n → 0 ≤ k → k < ix W (e - s + 1) → ∃ A, NumT W s e A k ∧ L = A.filter wideB := by
  induction h with
  | @leaf s e k h =>
    intro h1 h2 h3 h4
    rw [show e - s + 1 = 2 by omega, w2] at h4
    have : k = 0 := by omega
    subst this
    exact ⟨[], .leaf (by omega), rfl⟩
  | @node s m e k A B h1 h2 h3 h4 _ _ ih1 ih2 =>
    intro _ hn _ _
    have hd := w.pos (e - m + 1) (by omega) (by omega)
    have q1 : (k - before W s m e) / ix W (e - m + 1) < ix W (m - s + 1) := Int.ediv_lt_of_lt_mul hd h4
    obtain ⟨A', i1, e1⟩ := ih1 h1 (by omega) (Int.ediv_nonneg h3 (Int.le_of_lt hd)) q1
    obtain ⟨B', i2, e2⟩ := ih2 h2 (by omega) (Int.emod_nonneg _ (by omega)) (Int.emod_lt_of_pos _ hd)
    have z := NumT.node h1 h2 i1 i2
    have ek : before W s m e + (k - before W s m e) / ix W (e - m + 1) * ix W (e - m + 1) + (k - before W s m e) % ix W (e - m + 1) = k := by
      have := Int.mul_ediv_add_emod (k - before W s m e) (ix W (e - m + 1))
      rw [Int.mul_comm] at this
      omega
    rw [ek] at z
    refine ⟨_, z, ?_⟩
    rw [e1, e2, List.append_assoc, ← List.filter_append, ← List.filter_append]
    rfl
theorem CutN.uniq {W : List Int} {n s e k : Int} {L : List (Int × Int)} (w : WOk W n) (h : CutN W s e k L) : ∀ {L' : List (Int × Int)}, CutN W s e k L' → L = L' := by
  induction h with
  | leaf h =>
    intro L' h'
    cases h' with
    | leaf _ => rfl
    | node a b _ _ _ _ => omega
  | @node s m e k A B h1 h2 h3 h4 _ _ ih1 ih2 =>
    intro L' h'
    cases h' with
    | leaf _ => omega
    | @node _ m' _ _ A' B' a1 a2 a3 a4 c1 c2 =>
      have em : m = m' := by
        have s1 := before_s (W := W) (s := s) (m := m) (e := e) h1
        have s2 := before_s (W := W) (s := s) (m := m') (e := e) a1
        rcases Int.lt_trichotomy m m' with q | q | q
        · have := before_le w (s := s) (e := e) (m := m + 1) (m' := m') (by omega) (by omega); omega
        · exact q
        · have := before_le w (s := s) (e := e) (m := m' + 1) (m' := m) (by omega) (by omega); omega
      subst em
      rw [ih1 c1, ih2 c2]
/-! the lines of an arc -/
def Sub (J : Int → Int → Prop) (s e : Int) (A : List (Int × Int)) : Prop := ∀ a b, s ≤ a → a < b → b ≤ e → ¬ (a = s ∧ b = e) → (J a b ↔ b - a = 1 ∨ (a, b) ∈ A)
theorem Sub.left {J : Int → Int → Prop} {s m e : Int} {A B : List (Int × Int)} (h : Sub J s e ((s, m) :: (m, e) :: (A ++ B))) (h1 : s < m) (h2 : m < e) (hB : CutT m e B) : Sub J s m A := by
  intro a b ha hab hb hne
  rw [h a b ha hab (by omega) (by omega)]
  constructor
  · rintro (z | z)
    · exact .inl z
    · rcases List.mem_cons.mp z with z | z
      · injection z with z1 z2; omega
      rcases List.mem_cons.mp z with z | z
      · injection z with z1 z2; omega
      rcases List.mem_append.mp z with z | z
      · exact .inr z
      · have := hB.inside _ z
        have q1 : m ≤ a := this.1
        omega
  · rintro (z | z)
    · exact .inl z
    · exact .inr (List.mem_cons_of_mem _ (List.mem_cons_of_mem _ (List.mem_append_left _ z)))
theorem Sub.right {J : Int → Int → Prop} {s m e : Int} {A B : List (Int × Int)} (h : Sub J s e ((s, m) :: (m, e) :: (A ++ B))) (h1 : s < m) (h2 : m < e) (hA : CutT s m A) : Sub J m e B := by
  intro a b ha hab hb hne
  rw [h a b (by omega) hab hb (by omega)]
  constructor
  · rintro (z | z)
    · exact .inl z
    · rcases List.mem_cons.mp z with z | z
      · injection z with z1 z2; omega
      rcases List.mem_cons.mp z with z | z
      · injection z with z1 z2; omega
      rcases List.mem_append.mp z with z | z
      · have := hA.inside _ z
        have q1 : b ≤ m := this.2.2.1
        omega
      · exact .inr z
  · rintro (z | z)
    · exact .inl z
    · exact .inr (List.mem_cons_of_mem _ (List.mem_cons_of_mem _ (List.mem_append_right _ z)))
theorem Sub.mid {J : Int → Int → Prop} {s m e : Int} {A B : List (Int × Int)} (h : Sub J s e ((s, m) :: (m, e) :: (A ++ B))) (h1 : s < m) (h2 : m < e) : J s m ∧ J m e :=
  ⟨(h s m (by omega) h1 (by omega) (by omega)).mpr (.inr List.mem_cons_self), (h m e (by omega) h2 (by omega) (by omega)).mpr (.inr (List.mem_cons_of_mem _ List.mem_cons_self))⟩
theorem Sub.no {J : Int → Int → Prop} {s m e c : Int} {A B : List (Int × Int)} (h : Sub J s e ((s, m) :: (m, e) :: (A ++ B))) (h1 : s < m) (h2 : m < e) (hA : CutT s m A) (hB : CutT m e B) (hc : s < c) (hcm : c < m) : ¬ J c e := by
  intro z
  rcases (h c e (by omega) (by omega) (by omega) (by omega)).mp z with z | z
  · omega
  rcases List.mem_cons.mp z with z | z
  · injection z with z1 z2; omega
  rcases List.mem_cons.mp z with z | z
  · injection z with z1 z2; omega
  rcases List.mem_append.mp z with z | z
  · have := hA.inside _ z
    have q1 : e ≤ m := this.2.2.1
    omega
  · have := hB.inside _ z
    have q1 : m ≤ c := this.1
    omega
theorem mem_sides {n a b : Int} : (a, b) ∈ lawSides n ↔ (0 ≤ a ∧ a < n - 1 ∧ b = a + 1) ∨ (a = 0 ∧ b = n - 1) := by
  unfold lawSides
  rw [List.mem_append, List.mem_singleton]
  constructor
  · rintro (z | z)
    · obtain ⟨l, hl, e⟩ := List.mem_map.mp z
      have hl := rng_mem.mp hl
      injection e with e1 e2
      subst e1
      exact .inl ⟨hl.1, hl.2, e2.symm⟩
    · injection z with z1 z2
      exact .inr ⟨z1, z2⟩
  · rintro (⟨z1, z2, z3⟩ | ⟨z1, z2⟩)
    · exact .inl (List.mem_map.mpr ⟨a, rng_mem.mpr ⟨z1, z2⟩, by rw [z3]⟩)
    · exact .inr (by rw [z1, z2])
theorem mem_lines {n a b : Int} {L : List (Int × Int)} (h : 2 ≤ n) : (a, b) ∈ linesM (n, Tup.mk (sortP L)) ↔ (a, b) ∈ lawSides n ∨ (a, b) ∈ L := by
  rw [lines_eq (p := (n, Tup.mk (sortP L))) h]
  unfold allLines
  rw [(sortP_perm _).mem_iff, List.mem_append]
  show _ ∨ (a, b) ∈ sortP L ↔ _
  rw [(sortP_perm L).mem_iff]
theorem sub_q {n : Int} {A : List (Int × Int)} (h : CutT 0 (n - 1) A) (h3 : 3 ≤ n) : Sub (fun a b => (a, b) ∈ linesM (n, Tup.mk (sortP (A.filter wideB)))) 0 (n - 1) A := by
  intro a b ha hab hb hne
  show (a, b) ∈ linesM _ ↔ _
  rw [mem_lines (by omega), mem_sides, List.mem_filter]
  constructor
  · rintro (z | z)
    · left; omega
    · exact .inr z.1
  · rintro (z | z)
    · left; left; omega
    · by_cases q : b - a = 1
      · left; left; omega
      · exact .inr ⟨z, decide_eq_true (by show 1 < b - a; omega)⟩
theorem sub_p {n : Int} {A : List (Int × Int)} (h : CutT 1 n A) (h3 : 3 ≤ n) : Sub (fun a b => lawPair (a % n) (b % n) ∈ linesM (planOf n A)) 1 n A := by
  intro a b ha hab hb hne
  have ea : a % n = a := Int.emod_eq_of_lt (by omega) (by omega)
  show lawPair (a % n) (b % n) ∈ linesM (planOf n A) ↔ _
  rw [ea, planOf_eq]
  by_cases hbn : b = n
  · subst hbn
    rw [Int.emod_self, lp_sym, lp_lt (by omega), mem_lines (by omega), mem_sides]
    constructor
    · rintro (z | z)
      · left; omega
      · rcases cuts_mem h z with q | q
        · have : (1 : Int) ≤ 0 := q.2.1
          omega
        · exact .inr q.2.1
    · rintro (z | z)
      · left; right; omega
      · by_cases q : b - a = 1
        · left; right; omega
        · refine .inr (List.mem_map.mpr ⟨(a, b), List.mem_filter.mpr ⟨z, decide_eq_true (by show 1 < b - a; omega)⟩, ?_⟩)
          exact fold_n ha rfl
  · have eb : b % n = b := Int.emod_eq_of_lt (by omega) (by omega)
    rw [eb, lp_lt hab, mem_lines (by omega), mem_sides]
    constructor
    · rintro (z | z)
      · left; omega
      · rcases cuts_mem h z with q | q
        · exact .inr q.1
        · have : a = 0 := q.1
          omega
    · rintro (z | z)
      · left; left; omega
      · by_cases q : b - a = 1
        · left; left; omega
        · refine .inr (List.mem_map.mpr ⟨(a, b), List.mem_filter.mpr ⟨z, decide_eq_true (by show 1 < b - a; omega)⟩, ?_⟩)
          exact fold_lt ha hab (by omega)
/-! moved by one -/
abbrev sh (c : Int) (x : Int × Int) : Int × Int := (x.1 + c, x.2 + c)
theorem CutT.shift (c : Int) {s e : Int} {A : List (Int × Int)} (h : CutT s e A) : CutT (s + c) (e + c) (A.map (sh c)) := by
  induction h with
  | leaf h => exact .leaf (by omega)
  | @node s m e A B h1 h2 _ _ ih1 ih2 =>
    have z := CutT.node (s := s + c) (m := m + c) (e := e + c) (by omega) (by omega) ih1 ih2
    rw [← List.map_append] at z
    exact z
theorem filter_shift (c : Int) (A : List (Int × Int)) : (A.map (sh c)).filter wideB = (A.filter wideB).map (sh c) := by
  rw [List.filter_map]
  congr 1
  refine List.filter_congr fun x _ => ?_
  show decide (1 < x.2 + c - (x.1 + c)) = decide (1 < x.2 - x.1)
  exact decide_eq_decide.mpr (by omega)
def numPlan (n : Int) (L : List (Int × Int)) : Plan := turnM (n, Tup.mk (sortP L)) 1
theorem planOf_num {n : Int} {A : List (Int × Int)} (h : CutT 1 n A) (h3 : 3 ≤ n) : planOf n A = numPlan n ((A.map (sh (-1))).filter wideB) := by
  rw [planOf_eq]
  unfold numPlan turnM withC
  show (n, Tup.mk (sortP (cutsOf n A))) = (n, Tup.mk (sortP ((sortP ((A.map (sh (-1))).filter wideB)).map fun c => lawPair (ix ((rng 0 n).map fun c => (c + 1) % n) c.1) (ix ((rng 0 n).map fun c => (c + 1) % n) c.2))))
  congr 2
  have e1 : sortP ((sortP ((A.map (sh (-1))).filter wideB)).map fun c => lawPair (ix ((rng 0 n).map fun c => (c + 1) % n) c.1) (ix ((rng 0 n).map fun c => (c + 1) % n) c.2)) = sortP (((A.map (sh (-1))).filter wideB).map fun c => lawPair (ix ((rng 0 n).map fun c => (c + 1) % n) c.1) (ix ((rng 0 n).map fun c => (c + 1) % n) c.2)) := sortP_perm_eq ((sortP_perm _).map _)
  rw [e1, filter_shift, List.map_map]
  congr 1
  refine List.map_congr_left fun x hx => ?_
  obtain ⟨hx1, hx2⟩ := List.mem_filter.mp hx
  have hi := h.inside x hx1
  show lawPair x.1 (x.2 % n) = lawPair (ix ((rng 0 n).map fun c => (c + 1) % n) (x.1 + -1)) (ix ((rng 0 n).map fun c => (c + 1) % n) (x.2 + -1))
  rw [ix_rng (by omega) (by omega), ix_rng (by omega) (by omega), show x.1 + -1 + 1 = x.1 by omega, show x.2 + -1 + 1 = x.2 by omega, Int.emod_eq_of_lt (a := x.1) (by omega) (by omega)]
theorem turn_back {p : Plan} (h : isPlanM p = true) : turnM (turnM p 1) (-1) = p := by
  obtain ⟨f1, f2, f3, f4, f5, f6⟩ := plan_facts h
  have hp := turn_plan h 1
  rw [turn_map hp (-1), turn_map h 1, mapC_comp]
  refine mapC_id f6 fun c hc => ?_
  have b := f4 c hc
  have z := f5.cut c hc
  refine ⟨by omega, ?_, ?_⟩
  · show ((c.1 + 1) % p.1 + -1) % p.1 = c.1
    rw [Int.emod_add_emod, show c.1 + 1 + -1 = c.1 by omega, Int.emod_eq_of_lt (by omega) (by omega)]
  · show ((c.2 + 1) % p.1 + -1) % p.1 = c.2
    rw [Int.emod_add_emod, show c.2 + 1 + -1 = c.2 by omega, Int.emod_eq_of_lt (by omega) (by omega)]
/-! by reckoning -/
def findF (W : List Int) (s e : Int) : Nat → Int → Int → Int × Int
  | 0, c, k => (c, k)
  | f + 1, c, k => if waysBeside W s c e ≤ k then findF W s e f (c + 1) (k - waysBeside W s c e) else (c, k)
def cutsF (W : List Int) : Nat → Int → Int → Int → List (Int × Int)
  | 0, _, _, _ => []
  | f + 1, s, e, k => if e - s < 2 then [] else
    (([(s, (findF W s e (e - s).toNat (s + 1) k).1), ((findF W s e (e - s).toNat (s + 1) k).1, e)].filter wideB)
      ++ cutsF W f s (findF W s e (e - s).toNat (s + 1) k).1 ((findF W s e (e - s).toNat (s + 1) k).2 / ix W (e - (findF W s e (e - s).toNat (s + 1) k).1 + 1))
      ++ cutsF W f (findF W s e (e - s).toNat (s + 1) k).1 e ((findF W s e (e - s).toNat (s + 1) k).2 % ix W (e - (findF W s e (e - s).toNat (s + 1) k).1 + 1)))
theorem findF_ok {W : List Int} {n s e k : Int} (w : WOk W n) (h2 : 2 ≤ e - s) (hn : e - s + 1 ≤ n) (hk : k < ix W (e - s + 1)) : ∀ (f : Nat) (c k' : Int), s < c → c < e → e - c ≤ f → k' = k - before W s c e → 0 ≤ k' →
    s < (findF W s e f c k').1 ∧ (findF W s e f c k').1 < e ∧ (findF W s e f c k').2 = k - before W s (findF W s e f c k').1 e ∧ 0 ≤ (findF W s e f c k').2 ∧ (findF W s e f c k').2 < waysBeside W s (findF W s e f c k').1 e
  | 0, c, k', a1, a2, a3, a4, a5 => by omega
  | f + 1, c, k', a1, a2, a3, a4, a5 => by
    unfold findF
    by_cases q : waysBeside W s c e ≤ k'
    · rw [if_pos q]
      have st := before_s (W := W) (s := s) (m := c) (e := e) a1
      have wh := w.whole (s := s) (e := e) h2 hn
      have c2 : c + 1 < e := by
        by_cases z : c + 1 < e
        · exact z
        · exfalso
          rw [show c + 1 = e by omega] at st
          omega
      exact findF_ok w h2 hn hk f (c + 1) _ (by omega) c2 (by omega) (by omega) (by omega)
    · rw [if_neg q]
      exact ⟨a1, a2, a4, a5, by show k' < waysBeside W s c e; omega⟩
theorem cutsF_ok {W : List Int} {n : Int} (w : WOk W n) : ∀ (f : Nat) (s e k : Int), s < e → e - s ≤ f → e - s + 1 ≤ n → 0 ≤ k → k < ix W (e - s + 1) → CutN W s e k (cutsF W f s e k)
  | 0, s, e, k, h1, h2, _, _, _ => by omega
  | f + 1, s, e, k, h1, h2, h3, h4, h5 => by
    unfold cutsF
    by_cases q : e - s < 2
    · rw [if_pos q]; exact .leaf q
    · rw [if_neg q]
      obtain ⟨a1, a2, a3, a4, a5⟩ := findF_ok w (by omega) h3 h5 (e - s).toNat (s + 1) k (by omega) (by omega) (by omega) (by rw [before_0]; omega) h4
      generalize (findF W s e (e - s).toNat (s + 1) k).1 = c at a1 a2 a3 a5
      generalize (findF W s e (e - s).toNat (s + 1) k).2 = k' at a3 a4 a5
      subst a3
      have hd := w.pos (e - c + 1) (by omega) (by omega)
      refine .node a1 a2 a4 a5 (cutsF_ok w f s c _ a1 (by omega) (by omega) (Int.ediv_nonneg a4 (Int.le_of_lt hd)) (Int.ediv_lt_of_lt_mul hd a5)) (cutsF_ok w f c e _ a2 (by omega) (by omega) (Int.emod_nonneg _ (by omega)) (Int.emod_lt_of_pos _ hd))
theorem ways_two : ∀ k : Fin 39, ix (waysN k) 2 = 1 := by decide +kernel

end Pf

namespace Pf
open PySem PySem.Spec PyProof.Rows L2
/-! ### lines, and the parts between them -/
/-- a and b are joined -/
def Jn (p : Plan) (a b : Int) : Prop := lawPair a b ∈ linesM p
instance (p : Plan) (a b : Int) : Decidable (Jn p a b) := inferInstanceAs (Decidable (_ ∈ _))
theorem Jn.sym {p : Plan} {a b : Int} (h : Jn p a b) : Jn p b a := by unfold Jn at h ⊢; rw [lp_sym]; exact h
theorem lines_mem {p : Plan} (h : isPlanM p = true) {a b : Int} : (a, b) ∈ linesM p ↔ (a, b) ∈ lawSides p.1 ∨ (a, b) ∈ p.2.l := by
  obtain ⟨h3, _⟩ := plan_facts h
  rw [lines_eq (by omega)]
  unfold allLines
  rw [(sortP_perm _).mem_iff, List.mem_append]
theorem jn_lt {p : Plan} (h : isPlanM p = true) {a b : Int} (hab : a < b) : Jn p a b ↔ (0 ≤ a ∧ b < p.1 ∧ b = a + 1) ∨ (a = 0 ∧ b = p.1 - 1) ∨ (a, b) ∈ p.2.l := by
  obtain ⟨h3, _⟩ := plan_facts h
  unfold Jn
  rw [lp_lt hab, lines_mem h, mem_sides]
  constructor
  · rintro ((z | z) | z)
    · left; omega
    · right; left; exact z
    · right; right; exact z
  · rintro (z | z | z)
    · left; left; omega
    · left; right; exact z
    · right; exact z
theorem Jn.ne {p : Plan} (h : isPlanM p = true) {a b : Int} (j : Jn p a b) : 0 ≤ a ∧ a < p.1 ∧ 0 ≤ b ∧ b < p.1 ∧ a ≠ b := by
  obtain ⟨h3, _⟩ := plan_facts h
  unfold Jn at j
  rw [lines_eq (by omega)] at j
  have := line_lt h j
  rcases lp_cases a b with ⟨e, q⟩ | ⟨e, q⟩
  · rw [e] at this
    have h1 : 0 ≤ a := this.1
    have h2 : a < b := this.2.1
    have h3 : b < p.1 := this.2.2
    omega
  · rw [e] at this
    have h1 : 0 ≤ b := this.1
    have h2 : b < a := this.2.1
    have h3 : a < p.1 := this.2.2
    omega
theorem jn_side {p : Plan} (h : isPlanM p = true) {a b : Int} (h0 : 0 ≤ a) (h1 : b < p.1) (e : b = a + 1) : Jn p a b := (jn_lt h (by omega)).mpr (.inl ⟨h0, h1, e⟩)
theorem jn_last {p : Plan} (h : isPlanM p = true) : Jn p 0 (p.1 - 1) := by
  obtain ⟨h3, _⟩ := plan_facts h
  exact (jn_lt h (by omega)).mpr (.inr (.inl ⟨rfl, rfl⟩))
theorem no_cross {p : Plan} (h : isPlanM p = true) {a b c d : Int} (hab : a < b) (hbc : b < c) (hcd : c < d) (h1 : Jn p a c) (h2 : Jn p b d) : False := by
  obtain ⟨_, _, _, _, v, _⟩ := plan_facts h
  have n1 := h1.ne h
  have n2 := h2.ne h
  rcases (jn_lt h (by omega)).mp h1 with z | z | z
  · omega
  · omega
  rcases (jn_lt h (by omega)).mp h2 with y | y | y
  · omega
  · omega
  exact v.no _ z _ y ⟨hab, hbc, hcd⟩
/-- going round, a, b and c are met in this order -/
def Cy (a b c : Int) : Prop := (a < b ∧ b < c) ∨ (b < c ∧ c < a) ∨ (c < a ∧ a < b)
instance (a b c : Int) : Decidable (Cy a b c) := inferInstanceAs (Decidable (_ ∨ _))
theorem Cy.rot {a b c : Int} (h : Cy a b c) : Cy b c a := by unfold Cy at *; omega
/-- a part, as one goes round it: s, v, e -/
structure Tr (p : Plan) (s v e : Int) : Prop where
  cy : Cy s v e
  se : Jn p s e
  sv : Jn p s v
  ve : Jn p v e
theorem Tr.rot {p : Plan} {s v e : Int} (t : Tr p s v e) : Tr p v e s := ⟨t.cy.rot, t.sv.sym, t.ve, t.se.sym⟩
instance (p : Plan) (s v e : Int) : Decidable (Tr p s v e) := decidable_of_iff (Cy s v e ∧ Jn p s e ∧ Jn p s v ∧ Jn p v e) ⟨fun h => ⟨h.1, h.2.1, h.2.2.1, h.2.2.2⟩, fun h => ⟨h.1, h.2, h.3, h.4⟩⟩
theorem tr_aux {p : Plan} (h : isPlanM p = true) {s v w e : Int} (t : Tr p s v e) (u : Tr p s w e) (h1 : Cy s v w) : False := by
  have a := t.cy; have b := u.cy
  unfold Cy at a b h1
  have x1 := u.sv; have x2 := t.ve
  by_cases c1 : s < v ∧ v < w ∧ w < e
  · exact no_cross h c1.1 c1.2.1 c1.2.2 x1 x2
  by_cases c2 : v < w ∧ w < e ∧ e < s
  · exact no_cross h c2.1 c2.2.1 c2.2.2 x2 x1.sym
  by_cases c3 : w < e ∧ e < s ∧ s < v
  · exact no_cross h c3.1 c3.2.1 c3.2.2 x1.sym x2.sym
  by_cases c4 : e < s ∧ s < v ∧ v < w
  · exact no_cross h c4.1 c4.2.1 c4.2.2 x2.sym x1
  omega
theorem Tr.uniq {p : Plan} (h : isPlanM p = true) {s v w e : Int} (t : Tr p s v e) (u : Tr p s w e) : v = w := by
  apply Classical.byContradiction
  intro ne
  have a := t.cy; have b := u.cy
  by_cases c : Cy s v w
  · exact tr_aux h t u c
  · refine tr_aux h u t ?_
    unfold Cy at *; omega
/-! going round -/
theorem wrap {n x : Int} (h0 : 0 ≤ x) (h2 : x < 2 * n) : x % n = if x < n then x else x - n := by
  by_cases h : x < n
  · rw [if_pos h, Int.emod_eq_of_lt h0 h]
  · rw [if_neg h]
    have e : x = (x - n) + n := by omega
    rw [e, Int.add_emod_right, Int.emod_eq_of_lt (by omega) (by omega)]
    omega
theorem wrapN {n x : Int} (h0 : -n ≤ x) (h2 : x < n) : x % n = if x < 0 then x + n else x := by
  by_cases h : x < 0
  · rw [if_pos h, ← Int.add_emod_right, Int.emod_eq_of_lt (by omega) (by omega)]
  · rw [if_neg h, Int.emod_eq_of_lt (by omega) (by omega)]
def goM (n s e : Int) : List Int := (rng 1 ((e - s) % n)).map fun k => (s + k) % n
theorem mem_go {n s e c : Int} (hs : 0 ≤ s ∧ s < n) (he : 0 ≤ e ∧ e < n) (ne : s ≠ e) : c ∈ goM n s e ↔ 0 ≤ c ∧ c < n ∧ Cy s c e := by
  unfold goM
  rw [List.mem_map, wrapN (by omega) (by omega)]
  constructor
  · rintro ⟨k, hk, rfl⟩
    have hk := rng_mem.mp hk
    have hkn : k < n := by split at hk <;> omega
    rw [wrap (by omega) (by omega)]
    unfold Cy
    split <;> split at hk <;> omega
  · rintro ⟨h0, h1, hc⟩
    unfold Cy at hc
    refine ⟨if c < s then c + n - s else c - s, rng_mem.mpr ?_, ?_⟩
    · split <;> split <;> omega
    · split
      · rw [show s + (c + n - s) = c + n by omega, Int.add_emod_right, Int.emod_eq_of_lt h0 h1]
      · rw [show s + (c - s) = c by omega, Int.emod_eq_of_lt h0 h1]
/-- the third corner between t and u, going round -/
def thM (p : Plan) (t u : Int) : Option Int := (goM p.1 t u).find? fun c => decide (Jn p c t) && decide (Jn p c u)
theorem th_iff {p : Plan} (h : isPlanM p = true) {t u c : Int} (j : Jn p t u) : thM p t u = some c ↔ Tr p t c u := by
  have ne := j.ne h
  constructor
  · intro e
    unfold thM at e
    have h1 := List.mem_of_find?_eq_some e
    have h2 := List.find?_some e
    simp only [Bool.and_eq_true, decide_eq_true_eq] at h2
    have := (mem_go (by omega) (by omega) (by omega)).mp h1
    exact ⟨this.2.2, j, h2.1.sym, h2.2⟩
  · intro t'
    have n1 := t'.sv.ne h
    have hm : c ∈ goM p.1 t u := (mem_go (by omega) (by omega) (by omega)).mpr ⟨by omega, by omega, t'.cy⟩
    cases e : thM p t u with
    | none =>
      unfold thM at e
      have := List.find?_eq_none.mp e c hm
      simp only [Bool.and_eq_true, decide_eq_true_eq, not_and] at this
      exact absurd t'.ve (this t'.sv.sym)
    | some d =>
      unfold thM at e
      have h1 := List.mem_of_find?_eq_some e
      have h2 := List.find?_some e
      simp only [Bool.and_eq_true, decide_eq_true_eq] at h2
      have := (mem_go (by omega) (by omega) (by omega)).mp h1
      rw [Tr.uniq h t' ⟨this.2.2, j, h2.1.sym, h2.2⟩]
/-! the parts -/
abbrev T3 := Tri Int Int Int
def partsM (p : Plan) : List T3 := (linesM p).flatMap fun lm => ((rng (lm.2 + 1) p.1).filter fun c => decide ((lm.1, c) ∈ linesM p) && decide ((lm.2, c) ∈ linesM p)).map fun c => ⟨lm.1, lm.2, c⟩
theorem jn_in {p : Plan} {a b : Int} (h : a < b) : (a, b) ∈ linesM p ↔ Jn p a b := by unfold Jn; rw [lp_lt h]
theorem mem_parts {p : Plan} (h : isPlanM p = true) {a b c : Int} : (⟨a, b, c⟩ : T3) ∈ partsM p ↔ a < b ∧ b < c ∧ Jn p a b ∧ Jn p a c ∧ Jn p b c := by
  obtain ⟨h3, _⟩ := plan_facts h
  unfold partsM
  rw [List.mem_flatMap]
  constructor
  · rintro ⟨⟨x, y⟩, h1, h2⟩
    obtain ⟨z, hz, e⟩ := List.mem_map.mp h2
    obtain ⟨hz1, hz2⟩ := List.mem_filter.mp hz
    have hz1 := rng_mem.mp hz1
    simp only [Bool.and_eq_true, decide_eq_true_eq] at hz2
    injection e with e1 e2 e3
    have e1 : x = a := e1
    have e2 : y = b := e2
    subst e1 e2 e3
    have l1 := line_lt h (q := (x, y)) (by rw [← lines_eq (by omega)]; exact h1)
    have l2 : x < y := l1.2.1
    have l3 : y + 1 ≤ z := hz1.1
    exact ⟨l2, by omega, (jn_in l2).mp h1, (jn_in (by omega)).mp hz2.1, (jn_in (by omega)).mp hz2.2⟩
  · rintro ⟨hab, hbc, j1, j2, j3⟩
    have n3 := j3.ne h
    refine ⟨(a, b), (jn_in hab).mpr j1, List.mem_map.mpr ⟨c, List.mem_filter.mpr ⟨rng_mem.mpr ⟨by show b + 1 ≤ c; omega, by omega⟩, ?_⟩, rfl⟩⟩
    simp only [Bool.and_eq_true, decide_eq_true_eq]
    exact ⟨(jn_in (by omega)).mpr j2, (jn_in hbc).mpr j3⟩
def puts3 (t : T3) : List ((Int × Int) × Int) := [((t.a, t.c), t.b), ((t.b, t.a), t.c), ((t.c, t.b), t.a)]
def putsM (p : Plan) : List ((Int × Int) × Int) := (partsM p).flatMap puts3
theorem mem_puts {p : Plan} (h : isPlanM p = true) {s e v : Int} : ((s, e), v) ∈ putsM p ↔ Tr p s v e := by
  unfold putsM
  rw [List.mem_flatMap]
  constructor
  · rintro ⟨⟨a, b, c⟩, h1, h2⟩
    obtain ⟨l1, l2, j1, j2, j3⟩ := (mem_parts h).mp h1
    have t : Tr p a b c := ⟨.inl ⟨l1, l2⟩, j2, j1, j3⟩
    simp only [puts3, List.mem_cons, List.not_mem_nil, or_false, Prod.mk.injEq] at h2
    rcases h2 with ⟨⟨rfl, rfl⟩, rfl⟩ | ⟨⟨rfl, rfl⟩, rfl⟩ | ⟨⟨rfl, rfl⟩, rfl⟩
    · exact t
    · exact t.rot
    · exact t.rot.rot
  · intro t
    have c := t.cy
    unfold Cy at c
    rcases c with c | c | c
    · exact ⟨⟨s, v, e⟩, (mem_parts h).mpr ⟨c.1, c.2, t.sv, t.se, t.ve⟩, by simp [puts3]⟩
    · exact ⟨⟨v, e, s⟩, (mem_parts h).mpr ⟨c.1, c.2, t.ve, t.sv.sym, t.se.sym⟩, by simp [puts3]⟩
    · exact ⟨⟨e, s, v⟩, (mem_parts h).mpr ⟨c.1, c.2, t.se.sym, t.ve.sym, t.sv⟩, by simp [puts3]⟩
def putAll {κ α : Type} [DecidableEq κ] (ps : List (κ × α)) (l : List (κ × α)) : List (κ × α) := ps.foldl (fun l kv => put l kv.1 kv.2) l
theorem putAll_snoc {κ α : Type} [DecidableEq κ] (ps : List (κ × α)) (x : κ × α) (l : List (κ × α)) : putAll (ps ++ [x]) l = put (putAll ps l) x.1 x.2 := by unfold putAll; rw [List.foldl_append]; rfl
theorem putAll_len {κ α : Type} [DecidableEq κ] : ∀ (ps l : List (κ × α)), (putAll ps l).length ≤ l.length + ps.length
  | [], l => Nat.le_refl _
  | x :: ps, l => by
    have := putAll_len ps (put l x.1 x.2)
    have := put_len l x.1 x.2
    show (putAll ps (put l x.1 x.2)).length ≤ _
    rw [List.length_cons]; omega
theorem look_all {κ α : Type} [DecidableEq κ] (n : Nat) : ∀ (ps : List (κ × α)), ps.length = n → (∀ k v v', (k, v) ∈ ps → (k, v') ∈ ps → v = v') → ∀ k v, look (putAll ps []) k = some v ↔ (k, v) ∈ ps := by
  induction n with
  | zero =>
    intro ps hl _ k v
    rw [List.length_eq_zero_iff.mp hl]
    constructor
    · intro h; cases h
    · intro h; cases h
  | succ n ih =>
    intro ps hl hc k v
    have hne : ps ≠ [] := fun z => by rw [z] at hl; cases hl
    obtain ⟨qs, x, rfl⟩ : ∃ qs x, ps = qs ++ [x] := ⟨ps.dropLast, ps.getLast hne, (List.dropLast_concat_getLast hne).symm⟩
    rw [List.length_append] at hl
    have hl : qs.length = n := Nat.succ.inj hl
    have hq := ih qs hl (fun k v v' h1 h2 => hc k v v' (List.mem_append_left _ h1) (List.mem_append_left _ h2))
    rw [putAll_snoc, look_put, List.mem_append, List.mem_singleton]
    by_cases e : k = x.1
    · subst e
      rw [if_pos rfl]
      constructor
      · intro h; injection h with h; right; rw [← h]
      · rintro (h | h)
        · rw [hc x.1 v x.2 (List.mem_append_left _ h) (List.mem_append_right _ (List.mem_singleton.mpr rfl))]
        · rw [← h]
    · rw [if_neg e, hq k v]
      constructor
      · exact .inl
      · rintro (h | h)
        · exact h
        · exact absurd (congrArg Prod.fst h) e
def thirdsM (p : Plan) : Dct (Int × Int) Int := ⟨putAll (putsM p) []⟩
theorem look_thirds {p : Plan} (h : isPlanM p = true) {s e v : Int} : look (thirdsM p).l (s, e) = some v ↔ Tr p s v e := by
  unfold thirdsM
  rw [look_all (putsM p).length (putsM p) rfl (fun k v v' h1 h2 => Tr.uniq h ((mem_puts h (s := k.1) (e := k.2)).mp h1) ((mem_puts h).mp h2)), mem_puts h]
theorem look_th {p : Plan} (h : isPlanM p = true) {t u : Int} (j : Jn p t u) : look (thirdsM p).l (t, u) = thM p t u := by
  cases e : thM p t u with
  | some c => exact (look_thirds h).mpr ((th_iff h j).mp e)
  | none =>
    cases e2 : look (thirdsM p).l (t, u) with
    | none => rfl
    | some c => rw [(th_iff h j).mpr ((look_thirds h).mp e2)] at e; cases e
/-! ### each plan is a way to cut the arc from 0 on -/
theorem top_of {P : Int → Prop} {s e : Int} (h : ∃ m, s < m ∧ m < e ∧ P m) : ∃ m, s < m ∧ m < e ∧ P m ∧ ∀ x, m < x → x < e → ¬ P x := by
  obtain ⟨m, h1, h2, h3⟩ := h
  have key : ∀ (d : Nat) (m : Int), s < m → m < e → P m → e - m ≤ d → ∃ m, s < m ∧ m < e ∧ P m ∧ ∀ x, m < x → x < e → ¬ P x := by
    intro d
    induction d with
    | zero => intro m a b c z; omega
    | succ d ih =>
      intro m a b c z
      by_cases q : ∃ x, m < x ∧ x < e ∧ P x
      · obtain ⟨x, q1, q2, q3⟩ := q
        exact ih x (by omega) q2 q3 (by omega)
      · exact ⟨m, a, b, c, fun x hx he hp => q ⟨x, hx, he, hp⟩⟩
  exact key (e - m).toNat m h1 h2 h3 (by omega)
theorem cnt_split {α : Type} {P Q R : α → Bool} : ∀ {L : List α}, (∀ x ∈ L, P x = true → Q x = true ∨ R x = true) → L.countP P ≤ L.countP Q + L.countP R
  | [], _ => Nat.le_refl _
  | x :: L, h => by
    have ih := cnt_split (L := L) fun y hy => h y (List.mem_cons_of_mem _ hy)
    have hx := h x List.mem_cons_self
    rw [List.countP_cons, List.countP_cons, List.countP_cons]
    by_cases p : P x = true
    · rw [if_pos p]
      rcases hx p with q | q
      · rw [if_pos q]; split <;> omega
      · rw [if_pos q]; split <;> omega
    · rw [if_neg p]; split <;> split <;> omega
def inA (s e : Int) (c : Int × Int) : Bool := decide (s ≤ c.1 ∧ c.2 ≤ e)
def inB (s e : Int) (c : Int × Int) : Bool := decide (s ≤ c.1 ∧ c.2 ≤ e ∧ ¬ (c.1 = s ∧ c.2 = e))
theorem cnt_close {L : List (Int × Int)} (nd : L.Nodup) (s e : Int) : L.countP (inA s e) ≤ L.countP (inB s e) + if (s, e) ∈ L then 1 else 0 := by
  rw [← nd.count (a := (s, e))]
  refine cnt_split fun x _ hp => ?_
  have hp : s ≤ x.1 ∧ x.2 ≤ e := of_decide_eq_true hp
  by_cases q : x = (s, e)
  · right; rw [q]; exact beq_self_eq_true _
  · left
    refine decide_eq_true ⟨hp.1, hp.2, fun z => q ?_⟩
    obtain ⟨a, b⟩ := x
    rw [show a = s from z.1, show b = e from z.2]
abbrev JL (L : List (Int × Int)) (a b : Int) : Prop := b - a = 1 ∨ (a, b) ∈ L
theorem tree_aux {L : List (Int × Int)} (nd : L.Nodup) (hw : ∀ c ∈ L, 2 ≤ c.2 - c.1) (no : ∀ x ∈ L, ∀ y ∈ L, ¬ (x.1 < y.1 ∧ y.1 < x.2 ∧ x.2 < y.2)) : ∀ (d : Nat) (s e : Int), e - s = d → 1 ≤ d →
    ((L.countP (inB s e) : Nat) : Int) ≤ (if e - s = 1 then 0 else e - s - 2) ∧ ((e - s = 1 ∨ ((L.countP (inB s e) : Nat) : Int) = e - s - 2) → ∃ A, CutT s e A ∧ Sub (JL L) s e A) := by
  intro d
  induction d using Nat.strongRecOn with
  | ind d ih =>
    intro s e hd h1
    by_cases d1 : d = 1
    · have z : L.countP (inB s e) = 0 := by
        refine List.countP_eq_zero.mpr fun c hc q => ?_
        have q : s ≤ c.1 ∧ c.2 ≤ e ∧ ¬ (c.1 = s ∧ c.2 = e) := of_decide_eq_true q
        have := hw c hc
        omega
      rw [z]
      refine ⟨by rw [if_pos (by omega)]; exact Int.le_refl _, fun _ => ⟨[], .leaf (by omega), fun a b ha hab hb hne => ?_⟩⟩
      omega
    · obtain ⟨m, hm1, hm2, hm3, hmax⟩ := top_of (P := fun m => m = s + 1 ∨ (s, m) ∈ L) (s := s) (e := e) ⟨s + 1, by omega, by omega, .inl rfl⟩
      obtain ⟨i1, t1⟩ := ih (m - s).toNat (by omega) s m (by omega) (by omega)
      obtain ⟨i2, t2⟩ := ih (e - m).toNat (by omega) m e (by omega) (by omega)
      have c1 := cnt_close nd s m
      have c2 := cnt_close nd m e
      have over : ∀ c ∈ L, s ≤ c.1 → c.2 ≤ e → ¬ (c.1 = s ∧ c.2 = e) → c.2 ≤ m ∨ m ≤ c.1 := by
        intro c hc z1 z2 z3
        have hwc := hw c hc
        by_cases q : c.2 ≤ m
        · exact .inl q
        by_cases q2 : m ≤ c.1
        · exact .inr q2
        exfalso
        by_cases q3 : c.1 = s
        · exact hmax c.2 (by omega) (by omega) (.inr (by rw [← q3]; exact hc))
        · rcases hm3 with z | z
          · omega
          · exact no _ z c hc ⟨by show s < c.1; omega, by show c.1 < m; omega, by show m < c.2; omega⟩
      have sp : L.countP (inB s e) ≤ L.countP (inA s m) + L.countP (inA m e) := by
        refine cnt_split fun c hc q => ?_
        have q : s ≤ c.1 ∧ c.2 ≤ e ∧ ¬ (c.1 = s ∧ c.2 = e) := of_decide_eq_true q
        rcases over c hc q.1 q.2.1 q.2.2 with z | z
        · exact .inl (decide_eq_true ⟨q.1, z⟩)
        · exact .inr (decide_eq_true ⟨z, q.2.1⟩)
      have b1 : ((L.countP (inA s m) : Nat) : Int) ≤ m - s - 1 := by
        by_cases z : m - s = 1
        · rw [if_pos z] at i1
          rw [if_neg (fun q => by have : 2 ≤ m - s := hw _ q; omega)] at c1
          omega
        · rw [if_neg z] at i1
          split at c1 <;> omega
      have b2 : ((L.countP (inA m e) : Nat) : Int) ≤ e - m - 1 := by
        by_cases z : e - m = 1
        · rw [if_pos z] at i2
          rw [if_neg (fun q => by have : 2 ≤ e - m := hw _ q; omega)] at c2
          omega
        · rw [if_neg z] at i2
          split at c2 <;> omega
      refine ⟨by rw [if_neg (by omega)]; omega, fun hf => ?_⟩
      have hf : ((L.countP (inB s e) : Nat) : Int) = e - s - 2 := by omega
      have f1 : m - s = 1 ∨ ((L.countP (inB s m) : Nat) : Int) = m - s - 2 := by
        by_cases z : m - s = 1
        · exact .inl z
        · rw [if_neg z] at i1
          right; split at c1 <;> omega
      have f2 : e - m = 1 ∨ ((L.countP (inB m e) : Nat) : Int) = e - m - 2 := by
        by_cases z : e - m = 1
        · exact .inl z
        · rw [if_neg z] at i2
          right; split at c2 <;> omega
      have l2 : JL L m e := by
        by_cases z : e - m = 1
        · exact .inl z
        · rw [if_neg z] at i2
          by_cases q : (m, e) ∈ L
          · exact .inr q
          · rw [if_neg q] at c2; omega
      have l1 : JL L s m := by
        rcases hm3 with z | z
        · exact .inl (by omega)
        · exact .inr z
      obtain ⟨A, ca, sa⟩ := t1 f1
      obtain ⟨B, cb, sb⟩ := t2 f2
      refine ⟨_, .node hm1 hm2 ca cb, fun a b ha hab hb hne => ?_⟩
      have ja : JL L a b ↔ b - a = 1 ∨ (a, b) ∈ (s, m) :: (m, e) :: (A ++ B) := by
        by_cases w1 : b ≤ m
        · by_cases w2 : a = s ∧ b = m
          · obtain ⟨rfl, rfl⟩ := w2
            exact ⟨fun _ => .inr List.mem_cons_self, fun _ => l1⟩
          · rw [sa a b ha hab w1 w2]
            constructor
            · rintro (z | z)
              · exact .inl z
              · exact .inr (List.mem_cons_of_mem _ (List.mem_cons_of_mem _ (List.mem_append_left _ z)))
            · rintro (z | z)
              · exact .inl z
              · rcases List.mem_cons.mp z with z | z
                · injection z with z1 z2; omega
                rcases List.mem_cons.mp z with z | z
                · injection z with z1 z2; omega
                rcases List.mem_append.mp z with z | z
                · exact .inr z
                · have := cb.inside _ z
                  have q1 : m ≤ a := this.1
                  omega
        · by_cases w3 : m ≤ a
          · by_cases w2 : a = m ∧ b = e
            · obtain ⟨rfl, rfl⟩ := w2
              exact ⟨fun _ => .inr (List.mem_cons_of_mem _ List.mem_cons_self), fun _ => l2⟩
            · rw [sb a b w3 hab hb w2]
              constructor
              · rintro (z | z)
                · exact .inl z
                · exact .inr (List.mem_cons_of_mem _ (List.mem_cons_of_mem _ (List.mem_append_right _ z)))
              · rintro (z | z)
                · exact .inl z
                · rcases List.mem_cons.mp z with z | z
                  · injection z with z1 z2; omega
                  rcases List.mem_cons.mp z with z | z
                  · injection z with z1 z2; omega
                  rcases List.mem_append.mp z with z | z
                  · have := ca.inside _ z
                    have q1 : b ≤ m := this.2.2.1
                    omega
                  · exact .inr z
          · constructor
            · rintro (z | z)
              · exact .inl z
              · rcases over (a, b) z ha hb hne with y | y
                · exact absurd y w1
                · exact absurd y w3
            · rintro (z | z)
              · exact .inl z
              · rcases List.mem_cons.mp z with z | z
                · injection z with z1 z2; omega
                rcases List.mem_cons.mp z with z | z
                · injection z with z1 z2; omega
                rcases List.mem_append.mp z with z | z
                · have := ca.inside _ z
                  have q1 : b ≤ m := this.2.2.1
                  omega
                · have := cb.inside _ z
                  have q1 : m ≤ a := this.1
                  omega
      exact ja
theorem tree_of {p : Plan} (h : isPlanM p = true) : ∃ A, CutT 0 (p.1 - 1) A ∧ Sub (fun a b => Jn p a b) 0 (p.1 - 1) A := by
  obtain ⟨h3, h40, _, _, v, _⟩ := plan_facts h
  have hc : p.2.l.countP (inB 0 (p.1 - 1)) = p.2.l.length := List.countP_eq_length.mpr fun c hc => by
    have := v.cut c hc
    exact decide_eq_true ⟨by omega, by omega, by omega⟩
  have hl := v.len
  obtain ⟨A, ca, sa⟩ := (tree_aux v.nd (fun c hc => (v.cut c hc).2.1) v.no (p.1 - 1).toNat 0 (p.1 - 1) (by omega) (by omega)).2 (by rw [hc]; omega)
  refine ⟨A, ca, fun a b ha hab hb hne => ?_⟩
  show Jn p a b ↔ _
  rw [← sa a b ha hab hb hne, jn_lt h hab]
  constructor
  · rintro (z | z | z)
    · exact .inl (by omega)
    · exact absurd z hne
    · exact .inr z
  · rintro (z | z)
    · exact .inl ⟨ha, by omega, by omega⟩
    · exact .inr (.inr z)
/-- each corner within an arc is the middle one of a part -/
theorem CutT.mids {J : Int → Int → Prop} {s e : Int} {A : List (Int × Int)} (h : CutT s e A) : Sub J s e A → J s e → ∀ b, s < b → b < e → ∃ a c, s ≤ a ∧ a < b ∧ b < c ∧ c ≤ e ∧ J a b ∧ J b c ∧ J a c := by
  induction h with
  | leaf h => intro _ _ b h1 h2; omega
  | @node s m e A B h1 h2 hA hB ih1 ih2 =>
    intro sb j b hb1 hb2
    have mid := sb.mid h1 h2
    rcases Int.lt_trichotomy b m with q | q | q
    · obtain ⟨a, c, z1, z2, z3, z4, z5⟩ := ih1 (sb.left h1 h2 hB) mid.1 b hb1 q
      exact ⟨a, c, z1, z2, z3, by omega, z5⟩
    · subst q
      exact ⟨s, e, Int.le_refl _, h1, h2, Int.le_refl _, mid.1, mid.2, j⟩
    · obtain ⟨a, c, z1, z2, z3, z4, z5⟩ := ih2 (sb.right h1 h2 hA) mid.2 b q hb2
      exact ⟨a, c, by omega, z2, z3, z4, z5⟩
/-- the third corner within a line, and beyond it -/
theorem CutT.down {J : Int → Int → Prop} {s e : Int} {A : List (Int × Int)} (h : CutT s e A) : Sub J s e A → ∀ x y, 2 ≤ y - x → ((x, y) ∈ A ∨ (x = s ∧ y = e)) → ∃ m, x < m ∧ m < y ∧ J x m ∧ J m y := by
  induction h with
  | leaf h => intro _ x y h2 hm; rcases hm with z | z; cases z; omega
  | @node s m e A B h1 h2 hA hB ih1 ih2 =>
    intro sb x y hw hm
    have mid := sb.mid h1 h2
    have l := ih1 (sb.left h1 h2 hB)
    have r := ih2 (sb.right h1 h2 hA)
    rcases hm with z | ⟨rfl, rfl⟩
    · rcases List.mem_cons.mp z with z | z
      · injection z with z1 z2; exact l x y hw (.inr ⟨z1, z2⟩)
      rcases List.mem_cons.mp z with z | z
      · injection z with z1 z2; exact r x y hw (.inr ⟨z1, z2⟩)
      rcases List.mem_append.mp z with z | z
      · exact l x y hw (.inl z)
      · exact r x y hw (.inl z)
    · exact ⟨m, h1, h2, mid⟩
theorem CutT.beyond {J : Int → Int → Prop} {s e : Int} {A : List (Int × Int)} (h : CutT s e A) : Sub J s e A → J s e → ∀ x y, (x, y) ∈ A → ∃ m, s ≤ m ∧ m ≤ e ∧ ((m < x ∧ J m x ∧ J m y) ∨ (y < m ∧ J x m ∧ J y m)) := by
  induction h with
  | leaf h => intro _ _ x y hm; cases hm
  | @node s m e A B h1 h2 hA hB ih1 ih2 =>
    intro sb j x y z
    have mid := sb.mid h1 h2
    rcases List.mem_cons.mp z with z | z
    · injection z with z1 z2; subst z1 z2
      exact ⟨e, by omega, Int.le_refl _, .inr ⟨h2, j, mid.2⟩⟩
    rcases List.mem_cons.mp z with z | z
    · injection z with z1 z2; subst z1 z2
      exact ⟨s, Int.le_refl _, by omega, .inl ⟨h1, mid.1, j⟩⟩
    rcases List.mem_append.mp z with z | z
    · obtain ⟨k, q1, q2, q3⟩ := ih1 (sb.left h1 h2 hB) mid.1 x y z
      exact ⟨k, q1, by omega, q3⟩
    · obtain ⟨k, q1, q2, q3⟩ := ih2 (sb.right h1 h2 hA) mid.2 x y z
      exact ⟨k, by omega, q2, q3⟩
theorem CutT.sides {s e : Int} {A : List (Int × Int)} (h : CutT s e A) : ∀ x y, s ≤ x → y ≤ e → y - x = 1 → 2 ≤ e - s → (x, y) ∈ A := by
  induction h with
  | leaf h => intro x y _ _ _ h2; omega
  | @node s m e A B h1 h2 hA hB ih1 ih2 =>
    intro x y hx hy hxy _
    by_cases q : y ≤ m
    · by_cases z : x = s ∧ y = m
      · rw [z.1, z.2]; exact List.mem_cons_self
      · exact List.mem_cons_of_mem _ (List.mem_cons_of_mem _ (List.mem_append_left _ (ih1 x y hx q hxy (by omega))))
    · by_cases z : x = m ∧ y = e
      · rw [z.1, z.2]; exact List.mem_cons_of_mem _ List.mem_cons_self
      · exact List.mem_cons_of_mem _ (List.mem_cons_of_mem _ (List.mem_append_right _ (ih2 x y (by omega) hy hxy (by omega))))
/-- on each side of a line that is no side of the ring lies a part -/
theorem tr_ex {p : Plan} (h : isPlanM p = true) {t u : Int} (j : Jn p t u) (hs : ¬ (u = t + 1 ∨ (t = p.1 - 1 ∧ u = 0))) : ∃ c, Tr p t c u := by
  obtain ⟨A, ca, sa⟩ := tree_of h
  obtain ⟨h3, _⟩ := plan_facts h
  have ne := j.ne h
  have jl : Jn p 0 (p.1 - 1) := jn_last h
  rcases Int.lt_or_gt_of_ne ne.2.2.2.2 with q | q
  · have hm : (t, u) ∈ A ∨ (t = 0 ∧ u = p.1 - 1) := by
      by_cases z : t = 0 ∧ u = p.1 - 1
      · exact .inr z
      · rcases (sa t u (by omega) q (by omega) z).mp j with y | y
        · omega
        · exact .inl y
    obtain ⟨m, z1, z2, z3, z4⟩ := ca.down sa t u (by omega) hm
    exact ⟨m, .inl ⟨z1, z2⟩, j, z3, z4⟩
  · have w : ¬ (u = 0 ∧ t = p.1 - 1) := by omega
    rcases (sa u t (by omega) q (by omega) w).mp j.sym with y | y
    · have hs' : Jn p u t := j.sym
      by_cases hA : (u, t) ∈ A
      · obtain ⟨m, _, _, z | z⟩ := ca.beyond sa jl u t hA
        · exact ⟨m, .inr (.inl ⟨z.1, q⟩), j, z.2.2.sym, z.2.1⟩
        · exact ⟨m, .inr (.inr ⟨q, z.1⟩), j, z.2.2, z.2.1.sym⟩
      · obtain ⟨m, _, _, z | z⟩ := ca.beyond sa jl u t (ca.sides u t (by omega) (by omega) y (by omega))
        · exact ⟨m, .inr (.inl ⟨z.1, q⟩), j, z.2.2.sym, z.2.1⟩
        · exact ⟨m, .inr (.inr ⟨q, z.1⟩), j, z.2.2, z.2.1.sym⟩
    · obtain ⟨m, _, _, z | z⟩ := ca.beyond sa jl u t y
      · exact ⟨m, .inr (.inl ⟨z.1, q⟩), j, z.2.2.sym, z.2.1⟩
      · exact ⟨m, .inr (.inr ⟨q, z.1⟩), j, z.2.2, z.2.1.sym⟩
end Pf

namespace Pf
open PySem PySem.Spec PyProof.Rows L2
open PySem.W (alike alikeAll dataLt keyToks keyToksAll AllAlike Sortable dataLe AlikeAll minD EachIs)
/-! ### min and sorted of data of any depth -/
theorem minD_mem : ∀ (xs : List PyData) (x : PyData), minD x xs ∈ x :: xs
  | [], x => List.mem_cons_self
  | y :: r, x => by
    have ih := minD_mem r (if dataLt y x = true then y else x)
    show minD (if dataLt y x = true then y else x) r ∈ x :: y :: r
    rcases List.mem_cons.mp ih with e | e
    · rw [e]
      split
      · exact List.mem_cons_of_mem _ List.mem_cons_self
      · exact List.mem_cons_self
    · exact List.mem_cons_of_mem _ (List.mem_cons_of_mem _ e)
theorem lay_of : ∀ {ds : List PyData}, PyData.canLayAll0 ds = true → ∀ d ∈ ds, d.canLay0 = true
  | [], _, d, h => by cases h
  | x :: r, h, d, hd => by
    rw [PyData.canLayAll0, Bool.and_eq_true] at h
    rcases List.mem_cons.mp hd with e | e
    · subst e; exact h.1
    · exact lay_of h.2 d e
def rMinD (K : Fg) : List V → Hp → VK → Prop := fun vs H Q => ∃ (a : Addr) (ws : List V) (x : PyData) (xs : List PyData), vs = [.ref a] ∧ SqL K H a ws ∧ DpAll K H ws (x :: xs) ∧ AlikeAll (x :: xs) ∧ PyData.canLayAll0 (x :: xs) = true ∧ PyData.depthAll (x :: xs) ≤ 60 ∧
  ∀ (j : Nat) (z : V), ws[j]? = some z → (x :: xs)[j]? = some (minD x xs) → Q z H
theorem cr_minD {X : Cx} {K : Fg} (hK : X.K = K) (hc : X.calm = true) (hu : X.A.units + 64 < cLine) : CallR X (.builtin "min") (rMinD K) := by
  subst hK
  intro pins s σ H vs us Q I r h
  obtain ⟨a, ws, x, xs, rfl, hs, hd, hal, hlay, hdp, q⟩ := h
  obtain ⟨its, rv, hl, _⟩ := I.list hs
  rw [Vals.ref1 r]
  obtain ⟨as, rA⟩ := Dp.readsAll I _ _ _ hd rv
  refine PySem.W.min_list_data (I.ok.hd hc) hl.isList rA hal (by omega) (fun j v h' tk bs hv rd hk => ?_)
  have hv' : its[j]? = some v := by simpa using hv
  obtain ⟨bs', r1, hj, hm, _⟩ := PySem.W.readsAll_at rA j v hv'
  have r2 := PySem.W.reads_keeps hk r1
  have e1 := SeqAt.readOf_eq (lay_of hlay _ hm) r2
  have e2 := SeqAt.readOf_eq (lay_of hlay _ (minD_mem xs x)) rd
  have e3 : (x :: xs)[j]? = some (minD x xs) := by
    rw [List.getElem?_eq_getElem hj, ← e2, e1, List.getD_eq_getElem?_getD, List.getElem?_eq_getElem hj]
    rfl
  have hjw : j < ws.length := by
    have := rv.length
    have hji := (List.getElem?_eq_some_iff.mp hv').1
    omega
  obtain ⟨u, hu1, hu2⟩ := rv.get (List.getElem?_eq_getElem hjw)
  rw [hv'] at hu1
  cases hu1
  exact ⟨_, H, I.kept hk, hu2, q j _ (List.getElem?_eq_getElem hjw) e3⟩
def rSortD (K : Fg) : List V → Hp → VK → Prop := fun vs H Q => ∃ (a : Addr) (bs : List (V × PyData)), vs = [.ref a] ∧ SqL K H a (bs.map Prod.fst) ∧ DpAll K H (bs.map Prod.fst) (bs.map Prod.snd) ∧ AllAlike (bs.map Prod.snd) ∧ Sortable (bs.map Prod.snd) ∧ (∀ b ∈ bs, b.2.depth ≤ 60) ∧
  ∀ p, H p = none → Q (.ref p) (upd H p (.lst ((bs.mergeSort (dataLe false Prod.snd)).map Prod.fst)))
theorem each_rel : ∀ {bs : List (V × PyData)} {us : List Value}, Vals (bs.map Prod.fst) us → EachIs (fun v b => RelV b.1 v) us bs
  | [], _, r => by cases r; exact .nil
  | b :: bs, _, r => by
    cases r with
    | cons r t => exact .cons r (each_rel t)
theorem each_vals : ∀ {bs : List (V × PyData)} {us : List Value}, EachIs (fun v b => RelV b.1 v) us bs → Vals (bs.map Prod.fst) us
  | _, _, .nil => .nil
  | _, _, .cons r t => .cons r (each_vals t)
theorem cr_sortD {X : Cx} {K : Fg} (hK : X.K = K) (hu : X.A.units + 64 < cLine) : CallR X (.builtin "sorted") (rSortD K) := by
  subst hK
  intro pins s σ H vs us Q I r h
  obtain ⟨a, bs, rfl, hs, hd, hal, hk, hdp, q⟩ := h
  obtain ⟨its, rv, hl, hz⟩ := I.list hs
  rw [Vals.ref1 r]
  obtain ⟨as, rA⟩ := Dp.readsAll I _ _ _ hd rv
  have hlen := rv.length
  rw [List.length_map] at hlen hz
  refine PySem.W.sorted_data (enc := Prod.snd) hl.isList (each_rel rv) (PySem.W.readsAll_each _ rA) hal hk hz (fun b hb => by have := hdp b hb; omega) (fun out ho he => ?_)
  obtain ⟨n, hn⟩ := sortedAll_at s.heap its out.toArray
  refine ⟨.ref (s.heap.objs.size + 1), upd H (s.heap.objs.size + 1) (.lst ((bs.mergeSort (dataLe false Prod.snd)).map Prod.fst)), I.laid (t' := s.toks) (fun b o e => sortedAll_old e) (Nat.le_succ _) ⟨?_, out, n, each_vals he, hn⟩, rfl, q _ (I.hok.fresh (Nat.le_succ _))⟩
  rw [List.length_map, List.length_mergeSort]
  exact hz
/-! ### data in order -/
class DatA (α : Type) [Rep α] [DecidableEq α] [DatE α] : Prop where
  al : ∀ x y : α, alike (dat x) (dat y) = true
instance : DatA Int := ⟨fun _ _ => by simp [dat, Dat.dat, alike]⟩
section
variable {α β γ : Type} [Rep α] [DecidableEq α] [DatE α] [DatA α] [Rep β] [DecidableEq β] [DatE β] [DatA β] [Rep γ] [DecidableEq γ] [DatE γ] [DatA γ]
theorem al_map : ∀ xs ys : List α, alikeAll (xs.map dat) (ys.map dat) = true
  | [], _ => by simp [alikeAll]
  | _ :: _, [] => by simp [alikeAll]
  | x :: xs, y :: ys => by
    rw [List.map_cons, List.map_cons, alikeAll, DatA.al x y, al_map xs ys]; rfl
instance : DatA (List α) := ⟨fun xs ys => al_map xs ys⟩
instance : DatA (Tup α) := ⟨fun xs ys => al_map xs.l ys.l⟩
instance : DatA (α × β) := ⟨fun x y => by
  show alikeAll [dat x.1, dat x.2] [dat y.1, dat y.2] = true
  rw [alikeAll, alikeAll, alikeAll, DatA.al, DatA.al]; rfl⟩
def ltA (x y : α) : Bool := dataLt (dat x) (dat y)
theorem ltA_irr (x : α) : ltA x x = false := (listOrd itemOrd).irrefl _
theorem ltA_tr {x y z : α} (h1 : ltA x y = true) (h2 : ltA y z = true) : ltA x z = true := (listOrd itemOrd).trans _ _ _ h1 h2
theorem ltA_neg {x y z : α} (h : ltA x z = true) : ltA x y = true ∨ ltA y z = true := (listOrd itemOrd).negTrans _ _ _ h
theorem ltA_tot {x y : α} (h1 : ltA x y = false) (h2 : ltA y x = false) : x = y := by
  have e : keyToks (dat x) = keyToks (dat y) := (listOrd itemOrd).total _ _ h1 h2
  by_cases h : x = y
  · exact h
  · exfalso
    have ev : PyData.eqv (dat x) (dat y) = false := by rw [DatE.eq]; exact decide_eq_false h
    have z := (PySem.W.toks_eqv _ _ (DatA.al x y)).2 ev [] [.inl 0]
    rw [e, PySem.W.lex_pre, ← e] at z
    have z2 : PyProof.Rows.lexLt itemOrd (keyToks (dat x)) (keyToks (dat x)) = false := (listOrd itemOrd).irrefl _
    rw [z2] at z
    cases z
theorem ltA_asym {x y : α} (h : ltA x y = true) : ltA y x = false := by
  cases e : ltA y x with
  | false => rfl
  | true =>
    have := ltA_tr h e
    rw [ltA_irr] at this
    cases this
def minA (x : α) (xs : List α) : α := xs.foldl (fun a y => if ltA y a = true then y else a) x
theorem minD_dat : ∀ (xs : List α) (x : α), minD (dat x) (xs.map dat) = dat (minA x xs)
  | [], _ => rfl
  | y :: r, x => by
    show minD (if dataLt (dat y) (dat x) = true then dat y else dat x) (r.map dat) = dat (minA (if ltA y x = true then y else x) r)
    rw [← minD_dat r]
    by_cases h : ltA y x = true
    · rw [if_pos h, if_pos (show dataLt (dat y) (dat x) = true from h)]
    · rw [if_neg h, if_neg (show ¬ dataLt (dat y) (dat x) = true from h)]
/-- one of them, and none is less -/
def Least (xs : List α) (m : α) : Prop := m ∈ xs ∧ ∀ y ∈ xs, ltA y m = false
theorem least_uniq {xs ys : List α} {m m' : α} (h : Least xs m) (h' : Least ys m') (e : ∀ x, x ∈ xs ↔ x ∈ ys) : m = m' := ltA_tot (h'.2 m ((e m).mp h.1)) (h.2 m' ((e m').mpr h'.1))
theorem minA_least : ∀ (xs : List α) (x : α), Least (x :: xs) (minA x xs)
  | [], x => ⟨List.mem_cons_self, fun y hy => by rw [List.mem_singleton.mp hy]; exact ltA_irr x⟩
  | y :: r, x => by
    obtain ⟨h1, h2⟩ := minA_least r (if ltA y x = true then y else x)
    have em : minA x (y :: r) = minA (if ltA y x = true then y else x) r := rfl
    rw [em]
    by_cases h : ltA y x = true
    · rw [if_pos h] at h1 h2 ⊢
      refine ⟨List.mem_cons_of_mem _ h1, fun z hz => ?_⟩
      rcases List.mem_cons.mp hz with e | hz
      · subst e
        have h3 := h2 y List.mem_cons_self
        cases q : ltA z (minA y r) with
        | false => rfl
        | true =>
          rcases ltA_neg (y := y) q with q1 | q1
          · rw [ltA_asym h] at q1; cases q1
          · rw [h3] at q1; cases q1
      · exact h2 z hz
    · rw [if_neg h] at h1 h2 ⊢
      refine ⟨?_, fun z hz => ?_⟩
      · rcases List.mem_cons.mp h1 with e | e
        · rw [e]; exact List.mem_cons_self
        · exact List.mem_cons_of_mem _ (List.mem_cons_of_mem _ e)
      · rcases List.mem_cons.mp hz with e | hz
        · exact h2 z (by rw [e]; exact List.mem_cons_self)
        rcases List.mem_cons.mp hz with e | hz
        · subst e
          have h3 := h2 x List.mem_cons_self
          cases q : ltA z (minA x r) with
          | false => rfl
          | true =>
            rcases ltA_neg (y := x) q with q1 | q1
            · exact absurd q1 h
            · rw [h3] at q1; cases q1
        · exact h2 z (List.mem_cons_of_mem _ hz)
def leA (x y : α) : Bool := !ltA y x
theorem leA_trans (x y z : α) (h1 : leA x y = true) (h2 : leA y z = true) : leA x z = true := by
  unfold leA at h1 h2 ⊢
  rw [Bool.not_eq_true'] at h1 h2 ⊢
  cases q : ltA z x with
  | false => rfl
  | true =>
    rcases ltA_neg (y := y) q with q1 | q1
    · rw [h2] at q1; cases q1
    · rw [h1] at q1; cases q1
theorem leA_total (x y : α) : (leA x y || leA y x) = true := by
  unfold leA
  cases q : ltA y x with
  | false => rfl
  | true => rw [ltA_asym q]; rfl
def sortA (xs : List α) : List α := xs.mergeSort leA
theorem sortA_perm (xs : List α) : (sortA xs).Perm xs := List.mergeSort_perm xs leA
theorem sortA_pw (xs : List α) : (sortA xs).Pairwise fun x y => ltA y x = false := (List.pairwise_mergeSort leA_trans leA_total xs).imp fun h => by
  unfold leA at h
  rwa [Bool.not_eq_true'] at h
theorem sortA_len (xs : List α) : (sortA xs).length = xs.length := (sortA_perm xs).length_eq
theorem sorted_uniqA : ∀ {l m : List α}, l.Perm m → (l.Pairwise fun x y => ltA y x = false) → (m.Pairwise fun x y => ltA y x = false) → l = m
  | [], m, p, _, _ => p.nil_eq
  | x :: l, [], p, _, _ => by cases p.symm.nil_eq
  | x :: l, y :: m, p, h1, h2 => by
    have e : x = y := by
      rcases List.mem_cons.mp (p.mem_iff.mp List.mem_cons_self) with e | e
      · exact e
      · rcases List.mem_cons.mp (p.symm.mem_iff.mp List.mem_cons_self) with e' | e'
        · exact e'.symm
        · exact ltA_tot ((List.pairwise_cons.mp h2).1 x e) ((List.pairwise_cons.mp h1).1 y e')
    subst e
    rw [sorted_uniqA (List.Perm.cons_inv p) (List.pairwise_cons.mp h1).2 (List.pairwise_cons.mp h2).2]
theorem sortA_of {l m : List α} (p : l.Perm m) (h : l.Pairwise fun x y => ltA y x = false) : sortA m = l := sorted_uniqA ((sortA_perm m).trans p.symm) (sortA_pw m) h
theorem sortA_head {xs : List α} {x : α} (h : (sortA xs)[0]? = some x) : Least xs x := by
  have pm := sortA_perm xs
  have pw := sortA_pw xs
  cases e : sortA xs with
  | nil => rw [e] at h; cases h
  | cons y r =>
    rw [e] at h pm pw
    cases h
    refine ⟨pm.mem_iff.mp List.mem_cons_self, fun z hz => ?_⟩
    rcases List.mem_cons.mp (pm.mem_iff.mpr hz) with q | q
    · rw [q]; exact ltA_irr _
    · exact (List.pairwise_cons.mp pw).1 z q
variable {σ : L2.St} {G H : Hp} {ta : TE} {K : Fg}
theorem paired_dp {ws : List V} {xs : List α} (i : Same G H) (p : Paired (rep G) ws xs) : DpAll K H ws (xs.map dat) := rds_dp i _ _ (paired_dat p)
theorem alA (xs : List α) : AllAlike (xs.map dat) := fun d hd d' hd' => by
  obtain ⟨x, _, rfl⟩ := List.mem_map.mp hd
  obtain ⟨y, _, rfl⟩ := List.mem_map.mp hd'
  exact DatA.al x y
/-- kinds that are no None -/
class DatN (α : Type) [Rep α] [Dat α] : Prop where
  ne : ∀ x : α, dat x ≠ .none
instance : DatN Int := ⟨fun _ h => by cases h⟩
instance {α β : Type} [Rep α] [Dat α] [Rep β] [Dat β] : DatN (α × β) := ⟨fun _ h => by cases h⟩
instance {α : Type} [Rep α] [Dat α] : DatN (List α) := ⟨fun _ h => by cases h⟩
instance {α : Type} [Rep α] [Dat α] : DatN (Tup α) := ⟨fun _ h => by cases h⟩
theorem ev_minA [DatN α] {x : α} {xs : List α} (ha : Ev ta σ G (x :: xs)) (hd : DatE.dp α ≤ 60) : Ev (tCB (rMinD K) (tCons ta tNil)) σ G (minA x xs) := ev_B1 ha fun v G' H _ i k Q q => by
  obtain ⟨a, ws, rfl, h2, h3⟩ := k
  refine ⟨a, ws, dat x, xs.map dat, rfl, .inl (.inl (i _ _ h2)), paired_dp i h3, ⟨alA (x :: xs), fun d hd => ?_⟩, lay_map (x :: xs), Nat.le_trans (deep_map (x :: xs)) hd, fun j z hz hj => ?_⟩
  · obtain ⟨y, _, rfl⟩ := List.mem_map.mp (show d ∈ (x :: xs).map dat from hd)
    exact DatN.ne y
  · rw [minD_dat] at hj
    obtain ⟨y, hy, ry⟩ := paired_get' h3 hz
    have e : dat y = dat (minA x xs) := by
      have hj : ((x :: xs).map dat)[j]? = some (dat (minA x xs)) := hj
      rw [List.getElem?_map, hy] at hj
      exact Option.some.inj hj
    have e := Dat.inj e
    subst e
    exact q z G' H (Gr.refl i) ry
theorem zip_fst {ws : List V} {xs : List α} (h : ws.length = xs.length) : (ws.zip xs).map Prod.fst = ws := List.map_fst_zip (by omega)
theorem paired_zip : ∀ {ws : List V} {xs : List α}, Paired (rep G) ws xs → ∀ b ∈ ws.zip xs, rep G b.1 b.2
  | _, _, .nil, b, h => by cases h
  | _, _, .cons r t, b, h => by
    rcases List.mem_cons.mp h with e | e
    · subst e; exact r
    · exact paired_zip t b e
theorem paired_of : ∀ {bs : List (V × α)}, (∀ b ∈ bs, rep G b.1 b.2) → Paired (rep G) (bs.map Prod.fst) (bs.map Prod.snd)
  | [], _ => .nil
  | b :: r, h => .cons (h b List.mem_cons_self) (paired_of fun c hc => h c (List.mem_cons_of_mem _ hc))
theorem ev_sortA {xs : List α} (ha : Ev ta σ G xs) (hk : Sortable (xs.map dat)) (hd : DatE.dp α ≤ 60) : Ev (tCB (rSortD K) (tCons ta tNil)) σ G (sortA xs) := ev_B1 ha fun v G' H _ i k Q q => by
  obtain ⟨a, ws, rfl, h2, h3⟩ := k
  have hl := paired_len h3
  let cs : List (V × α) := ws.zip xs
  let bs : List (V × PyData) := cs.map fun b => (b.1, dat b.2)
  have e1 : bs.map Prod.fst = ws := by
    show ((ws.zip xs).map fun b => (b.1, dat b.2)).map Prod.fst = ws
    rw [List.map_map]
    exact List.map_fst_zip (by omega)
  have e2 : bs.map Prod.snd = xs.map dat := by
    show ((ws.zip xs).map fun b => (b.1, dat b.2)).map Prod.snd = xs.map dat
    rw [List.map_map]
    have z : (Prod.snd ∘ fun b : V × α => (b.1, dat b.2)) = (dat ∘ Prod.snd) := rfl
    rw [z, ← List.map_map, List.map_snd_zip (by omega)]
  refine ⟨a, bs, rfl, by rw [e1]; exact .inl (.inl (i _ _ h2)), by rw [e1, e2]; exact paired_dp i h3, by rw [e2]; exact alA xs, by rw [e2]; exact hk, fun b hb => ?_, fun p np => ?_⟩
  · obtain ⟨c, _, rfl⟩ := List.mem_map.mp hb
    exact Nat.le_trans (DatE.deep c.2) hd
  · have m1 : (cs.mergeSort fun b c => leA b.2 c.2).map (fun b => (b.1, dat b.2)) = bs.mergeSort (dataLe false Prod.snd) := List.map_mergeSort fun b _ c _ => rfl
    have m2 : (cs.mergeSort fun b c => leA b.2 c.2).map Prod.snd = sortA xs := by
      rw [List.map_mergeSort (s := leA) fun b _ c _ => rfl]
      show ((ws.zip xs).map Prod.snd).mergeSort leA = sortA xs
      rw [List.map_snd_zip (by omega)]
      rfl
    have m3 : (bs.mergeSort (dataLe false Prod.snd)).map Prod.fst = (cs.mergeSort fun b c => leA b.2 c.2).map Prod.fst := by
      rw [← m1, List.map_map]
      rfl
    rw [m3]
    refine q _ (upd G' p (.lst _)) _ (gr_new i np) ⟨p, _, rfl, upd_same, ?_⟩
    rw [← m2]
    refine paired_mono (gr_new (o := .lst _) i np).g (paired_of fun b hb => paired_zip h3 b ?_)
    exact (List.mergeSort_perm cs _).mem_iff.mp hb
end
end Pf

namespace Pf
open PySem PySem.Spec PyProof.Rows L2
/-! ### sets of tuples of ints, of up to three hundred -/
/-- from any hash each slot begins a run, early enough -/
structure Met (m : Nat) : Prop where
  odd : m % 2 = 1
  meets : ∀ (h : Int) (j : Nat), j ≤ m → ∃ n, n ≤ m + 12 ∧ runI m (SetTable.bits h) n = j
theorem met_of {m : Nat} (hm : MaskOk m) : Met m := ⟨mask_odd hm, fun h _ hj => run_meets hm h hj⟩
theorem sees511 : ((List.range 512).all fun z => (List.range 512).any fun y => lcgN 511 y == z) = true := by decide +kernel
theorem ends511 : lcgN 511 512 = 0 := by decide +kernel
theorem met_511 : Met 511 where
  odd := rfl
  meets := fun h j hj => by
    have sj : ∀ z, z ≤ 511 → ∃ y, y ≤ 511 ∧ lcgN 511 y = z := fun z hz => by
      obtain ⟨y, hy, e⟩ := List.any_eq_true.mp (List.all_eq_true.mp sees511 z (List.mem_range.mpr (by omega)))
      exact ⟨y, by have := List.mem_range.mp hy; omega, eq_of_beq e⟩
    have per : ∀ k, lcgN 511 (512 + k) = lcgN 511 k := by
      intro k
      induction k with
      | zero => exact ends511
      | succ k ih => exact congrArg (fun z => (z * 5 + 1) % 512) ih
    obtain ⟨a, ha, ea⟩ := sj _ (runI_le 511 (SetTable.bits h) 12)
    obtain ⟨b, hb, eb⟩ := sj j hj
    by_cases c : b < a
    · refine ⟨12 + (b + 512 - a), by omega, ?_⟩
      rw [runI_tail (bits_lt h), ← ea, lcgN_add, show a + (b + 512 - a) = 512 + b by omega, per, eb]
    · refine ⟨12 + (b - a), by omega, ?_⟩
      rw [runI_tail (bits_lt h), ← ea, lcgN_add, show a + (b - a) = b by omega, eb]
theorem Met.hit {m : Nat} (M : Met m) (h : Int) {j : Nat} (hj : j ≤ m) : ∃ k, k < 10 * SetTable.turns m ∧ way m h k = j := by
  obtain ⟨n, hn, e⟩ := M.meets h j hj
  obtain ⟨k, hk, e2⟩ := run_nth m (SetTable.bits h) n
  exact ⟨k, by unfold SetTable.turns; omega, (congrArg SetTable.Probe.j e2).trans e⟩
theorem wayLe (m : Nat) (h : Int) (k : Nat) : way m h k ≤ m := by
  have b1 : SetTable.bits h % (m + 1) ≤ m := Nat.le_of_lt_succ (Nat.mod_lt _ (by omega))
  have b2 := runEnd_bd b1
  exact Nat.le_trans (Nat.le_add_right _ _) (nth_in (m := m) k (runAt m (SetTable.bits h % (m + 1)) (SetTable.bits h)) (show SetTable.bits h % (m + 1) + (SetTable.runEnd m (SetTable.bits h % (m + 1)) - SetTable.bits h % (m + 1)) ≤ m by omega))
/-- a table in which each one is met again from its hash -/
structure Tb (t : SetTable) (hs : List Int) : Prop where
  up : Ris t.place.toList
  clean : t.dummies = #[]
  size : t.place.size = hs.length
  met : Met t.mask
  within : ∀ x ∈ t.place.toList, x ≤ t.mask
  back : ∀ (i : Nat) (h : Int) (j : Nat), hs[i]? = some h → t.place.toList[i]? = some j → ∃ k, way t.mask h k = j ∧ ∀ c, c < k → way t.mask h c ∈ t.place.toList
theorem Tb.gap {t : SetTable} {hs : List Int} (T : Tb t hs) (hl : hs.length ≤ t.mask) (h : Int) : ∃ n, n < 10 * SetTable.turns t.mask ∧ way t.mask h n ∉ t.place.toList ∧ ∀ c, c < n → way t.mask h c ∈ t.place.toList := by
  obtain ⟨j, hj, hn⟩ := st_missing t.place.toList (t.mask + 1) (by rw [Array.length_toList, T.size]; omega)
  obtain ⟨k, hk, e⟩ := T.met.hit h (Nat.le_of_lt_succ hj)
  obtain ⟨n, a, b, c⟩ := st_least (p := fun k => way t.mask h k ∉ t.place.toList) k (show way t.mask h k ∉ _ by rw [e]; exact hn)
  exact ⟨n, by omega, b, fun z hz => Classical.not_not.mp (c z hz)⟩
theorem Tb.ahead {t : SetTable} {hs : List Int} (T : Tb t hs) {h : Int} {n i j : Nat} (hn : way t.mask h n ∉ t.place.toList) (hi : hs[i]? = some h) (hj : t.place.toList[i]? = some j) : ∃ k, k < n ∧ way t.mask h k = j := by
  obtain ⟨k, e, hb⟩ := T.back i h j hi hj
  refine ⟨k, Nat.lt_of_not_le fun z => ?_, e⟩
  rcases Nat.lt_or_eq_of_le z with y | y
  · exact hn (hb n y)
  · exact hn (y ▸ e ▸ List.mem_of_getElem? hj)
/-- one more in the first gap of its way -/
theorem Tb.put {t : SetTable} {hs : List Int} (T : Tb t hs) {h : Int} {n : Nat} (hn : way t.mask h n ∉ t.place.toList) (hb : ∀ c, c < n → way t.mask h c ∈ t.place.toList) {p : Nat} (hp : p = SetTable.below t.place (way t.mask h n)) :
    p ≤ hs.length ∧ Tb (t.put (way t.mask h n)).1 (hs.take p ++ h :: hs.drop p) ∧ (t.put (way t.mask h n)).1.fill = hs.length + 1 := by
  subst hp
  have lw := wayLe t.mask h n
  generalize ej : way t.mask h n = j at hn lw
  have c1 := (below_cut T.up j).1
  have pl : SetTable.below t.place j ≤ t.place.toList.length := by rw [Array.length_toList]; exact c1
  have pz : SetTable.below t.place j ≤ hs.length := T.size ▸ c1
  have nw := put_place t j
  have zs : (t.put j).1.place.size = hs.length + 1 := by rw [← Array.length_toList, nw, len_ins _ pl, Array.length_toList, T.size]
  have old : ∀ x, x ∈ t.place.toList → x ∈ (t.put j).1.place.toList := fun x hx => by rw [nw]; exact mem_ins.2 (.inr hx)
  refine ⟨pz, ⟨ris_insert T.up fun e => hn (List.mem_of_getElem? (by rw [Array.getElem?_toList]; exact e)), put_dm T.clean j, by rw [zs, len_ins _ pz], T.met, fun x hx => ?_, fun i g y e1 e2 => ?_⟩, ?_⟩
  · rw [nw] at hx
    rcases mem_ins.1 hx with z | z
    · rw [z]; exact lw
    · exact T.within x z
  · rw [tins_get hs pz] at e1
    rw [nw, tins_get _ pl] at e2
    by_cases c : i < SetTable.below t.place j
    · rw [if_pos c] at e1 e2
      obtain ⟨k, e, z⟩ := T.back i g y e1 e2
      exact ⟨k, e, fun c' hc' => old _ (z c' hc')⟩
    · rw [if_neg c] at e1 e2
      by_cases d : i = SetTable.below t.place j
      · rw [if_pos d] at e1 e2
        cases e1; cases e2
        exact ⟨n, ej, fun c' hc' => old _ (hb c' hc')⟩
      · rw [if_neg d] at e1 e2
        obtain ⟨k, e, z⟩ := T.back _ g y e1 e2
        exact ⟨k, e, fun c' hc' => old _ (z c' hc')⟩
  · show (t.put j).1.place.size + (t.put j).1.dummies.size = _
    rw [zs, put_dm T.clean j]; rfl
/-! laid anew -/
theorem Met.free {m : Nat} (M : Met m) (owner : Array (Option Nat)) (h : Int) {j : Nat} (hj : j ≤ m) (hf : oAt owner j = none) :
    ∃ n, SetTable.layClean.free m owner (SetTable.turns m) (SetTable.bits h % (m + 1)) (SetTable.bits h) = some (way m h n) ∧ oAt owner (way m h n) = none ∧ ∀ c, c < n → oAt owner (way m h c) ≠ none := by
  obtain ⟨r, hr, e⟩ := M.meets h j hj
  have ew : way m h (off m (SetTable.bits h % (m + 1)) (SetTable.bits h) r) = j := by
    have z := congrArg SetTable.Probe.j (nth_off m r (SetTable.bits h % (m + 1)) (SetTable.bits h))
    rw [itL_run] at z
    exact z.trans e
  obtain ⟨n, a1, a2, a3⟩ := st_least (p := fun k => oAt owner (way m h k) = none) _ (show oAt owner (way m h (off m (SetTable.bits h % (m + 1)) (SetTable.bits h) r)) = none by rw [ew]; exact hf)
  refine ⟨n, free_spec m owner (SetTable.turns m) r _ _ n (by unfold SetTable.turns; omega) a1 (fun k hk => ?_) (Option.isNone_iff_eq_none.mpr a2), a2, a3⟩
  exact Bool.eq_false_iff.mpr fun z => a3 k hk (Option.isNone_iff_eq_none.mp z)
theorem own_more {m : Nat} (M : Met m) {dn : List Int} {owner : Array (Option Nat)} (W : Own m dn owner) (hl : dn.length ≤ m) (h : Int) :
    ∃ j, SetTable.layClean.free m owner (SetTable.turns m) (SetTable.bits h % (m + 1)) (SetTable.bits h) = some j ∧ Own m (dn ++ [h]) (owner.setIfInBounds j (some dn.length)) := by
  obtain ⟨ps, lp, ip⟩ := W.ps
  obtain ⟨y, hy, ny⟩ := st_missing ps (m + 1) (by omega)
  have fy : oAt owner y = none := Classical.byContradiction fun z => ny (ip y (by omega) z)
  obtain ⟨n, e1, e2, e3⟩ := M.free owner h (Nat.le_of_lt_succ hy) fy
  have lw := wayLe m h n
  generalize ej : way m h n = j at e1 e2 lw
  have js : j < owner.size := by rw [W.sz]; omega
  have own : oAt (owner.setIfInBounds j (some dn.length)) j = some dn.length := oAt_set_self _ js
  have keep : ∀ i, oAt owner i ≠ none → oAt (owner.setIfInBounds j (some dn.length)) i ≠ none := fun i hi => by
    by_cases c : i = j
    · rw [c, own]; exact Option.some_ne_none _
    · rw [oAt_set_ne _ c]; exact hi
  refine ⟨j, e1, by rw [Array.size_setIfInBounds, W.sz], fun i k hi e => ?_, fun k hk => ?_, j :: ps, by simp [lp], fun i hi e => ?_⟩
  · by_cases c : i = j
    · rw [c, own] at e
      cases e
      exact ⟨h, n, by simp, by rw [c]; exact ej, fun k' hk' => keep _ (e3 k' hk')⟩
    · rw [oAt_set_ne _ c] at e
      obtain ⟨g, n', a1, a2, a3⟩ := W.at_ i k hi e
      refine ⟨g, n', ?_, a2, fun k' hk' => keep _ (a3 k' hk')⟩
      rw [List.getElem?_append_left (List.getElem?_eq_some_iff.mp a1).1, a1]
  · by_cases c : k < dn.length
    · obtain ⟨i, hi, e⟩ := W.all k c
      exact ⟨i, hi, by rw [oAt_set_ne _ (fun z => by rw [z, e2] at e; cases e), e]⟩
    · have ek : k = dn.length := by simp at hk; omega
      exact ⟨j, lw, by rw [ek, own]⟩
  · by_cases c : i = j
    · rw [c]; exact List.mem_cons_self
    · rw [oAt_set_ne _ c] at e
      exact List.mem_cons_of_mem _ (ip i hi e)
theorem own_all {m : Nat} (M : Met m) : ∀ (rs dn : List Int) (owner : Array (Option Nat)), Own m dn owner → dn.length + rs.length ≤ m → ∃ o2, rs.foldl (stepF m) (some (owner, dn.length)) = some (o2, dn.length + rs.length) ∧ Own m (dn ++ rs) o2
  | [], dn, owner, W, _ => ⟨owner, rfl, by rw [List.append_nil]; exact W⟩
  | h :: rs, dn, owner, W, hl => by
    have hl : dn.length + (rs.length + 1) ≤ m := hl
    obtain ⟨j, e, W2⟩ := own_more M W (by omega) h
    obtain ⟨o2, f, W3⟩ := own_all M rs (dn ++ [h]) _ W2 (by simp; omega)
    rw [List.append_assoc] at W3
    refine ⟨o2, ?_, W3⟩
    rw [List.foldl_cons, stepF_some e]
    rw [List.length_append] at f
    rw [show dn.length + (h :: rs).length = dn.length + [h].length + rs.length by simp; omega]
    exact f
theorem lay_all {m : Nat} (M : Met m) {hs : Array Int} (hn : hs.size ≤ m) : ∃ o2, SetTable.layClean m hs = some o2 ∧ Own m hs.toList o2 := by
  obtain ⟨o2, f, W⟩ := own_all M hs.toList [] _ (Own.init m) (by simpa using hn)
  exact ⟨o2, by rw [layClean_eq]; exact congrArg (Option.map (·.1)) f, W⟩
theorem relaidG (t : SetTable) {hs : Array Int} {wanted m : Nat} (hw : SetTable.sizeAbove wanted - 1 = m) (M : Met m) (hn : hs.size ≤ m) :
    ∃ t' order, t.relaid hs wanted = some (t', order) ∧ order.toList.Perm (List.range hs.size) ∧ Tb t' (order.toList.map fun i => hs.getD i 0) ∧ t'.mask = m ∧ t'.led = t.led ∧ t'.plain = t.plain := by
  obtain ⟨o2, e, W⟩ := lay_all M hn
  have ri := ris_live (fun j => o2.getD j none) (List.range (m + 1)) List.pairwise_lt_range
  have r1 : Ris ((liveOf m o2).map (·.1)) := ri.1
  have r2 : ∀ x ∈ (liveOf m o2).map (·.1), x ∈ List.range (m + 1) := ri.2
  have each : ∀ k, k < hs.size → k ∈ (liveOf m o2).map (·.2) := fun k hk => by
    obtain ⟨j, b1, b2⟩ := W.all k (by simpa using hk)
    exact List.mem_map.mpr ⟨(j, k), (mem_live W.sz).2 ⟨b1, b2⟩, rfl⟩
  have nod : ((liveOf m o2).map (·.1)).Nodup := List.Pairwise.imp (fun h => Nat.ne_of_lt h) r1
  have len : (liveOf m o2).length = hs.size := by
    obtain ⟨ps, p1, p2⟩ := W.ps
    have a := nat_nodup_len ((liveOf m o2).map (·.1)) ps nod fun x hx => by
      obtain ⟨⟨y, k⟩, hq, rfl⟩ := List.mem_map.mp hx
      obtain ⟨b1, b2⟩ := (mem_live W.sz).1 hq
      exact p2 y b1 (by rw [b2]; exact Option.some_ne_none _)
    have b := nat_nodup_len (List.range hs.size) ((liveOf m o2).map (·.2)) List.nodup_range fun k hk => each k (List.mem_range.mp hk)
    simp only [List.length_map, List.length_range, p1, Array.length_toList] at a b
    omega
  refine ⟨tabOf t m o2, ((liveOf m o2).map (·.2)).toArray, by rw [relaid_eq, hw, e]; rfl, perm_range hs.size _ (by simpa using len) each, ⟨r1, rfl, ?_, M, fun x hx => ?_, fun i h j h1 h2 => ?_⟩, rfl, rfl, rfl⟩
  · show ((liveOf m o2).map (·.1)).toArray.size = (((liveOf m o2).map (·.2)).map fun i => hs.getD i 0).length
    simp
  · exact Nat.le_of_lt_succ (List.mem_range.mp (r2 x hx))
  · have h1 : (((liveOf m o2).map (·.2)).map fun i => hs.getD i 0)[i]? = some h := h1
    have h2 : ((liveOf m o2).map (·.1))[i]? = some j := h2
    rw [List.getElem?_map, List.getElem?_map] at h1
    rw [List.getElem?_map] at h2
    obtain ⟨⟨y, k⟩, hq, ej⟩ := Option.map_eq_some_iff.mp h2
    rw [hq] at h1
    have eh : hs.getD k 0 = h := Option.some.inj h1
    have ej : y = j := ej
    subst ej
    obtain ⟨b1, b2⟩ := (mem_live W.sz).1 (List.mem_of_getElem? hq)
    obtain ⟨g, n, a1, a2, a3⟩ := W.at_ y k b1 b2
    have eg : g = h := by
      rw [← eh, Array.getD_eq_getD_getElem?, ← Array.getElem?_toList, a1]; rfl
    subst eg
    refine ⟨n, a2, fun c hc => ?_⟩
    obtain ⟨k2, z⟩ := Option.ne_none_iff_exists'.mp (a3 c hc)
    exact List.mem_map.mpr ⟨(way m g c, k2), (mem_live W.sz).2 ⟨wayLe m g c, z⟩, rfl⟩
end Pf

namespace Pf
open PySem PySem.Spec PyProof.Rows L2
abbrev Rows := List (Addr × List Int)
/-- the set at a: its tuples with where they stand, in the order of its slots -/
structure Pst (P : Program) (w : World) (h : Heap) (a : Addr) (L : Rows) (es : Array (Int × Value)) (ep : Nat) (t : SetTable) : Prop where
  (ob : ∃ o, h.get? a = some o ∧ o.ExactSet ∧ o.data = .set es ep t) (rows : es.toList = rowsOf P w L) (tab : Tb t (L.map fun p => thash P w p.2)) (nd : (L.map (·.2)).Nodup) (tup : ∀ p ∈ L, IsT P w h p.2 p.1)
  (plain : t.plain = true) (led : w.params.followText "set-order" = true ∨ t.led = true) (room : L.length * 5 < t.mask * 3) (msk : MaskOk t.mask ∨ t.mask = 511) (few : L.length ≤ 300)
section
variable {P : Program} {w : World} {A : Around} {E : Value → Shared → Prop} {s : Shared} {a : Addr} {L : Rows} {es : Array (Int × Value)} {ep : Nat} {t : SetTable}
theorem rows_len (h : es.toList = rowsOf P w L) : es.size = L.length := by simpa [rowsOf] using congrArg List.length h
theorem Pst.fit {h : Heap} (R : Pst P w h a L es ep t) : t.fits es.size = true := by
  have z1 : t.place.size = L.length := by simpa using R.tab.size
  have z2 := rows_len R.rows
  have z3 := R.room
  unfold SetTable.fits SetTable.fill
  simp only [R.tab.clean, Bool.and_eq_true, beq_iff_eq, decide_eq_true_eq]
  exact ⟨by omega, show t.place.size + 0 ≤ t.mask by omega⟩
theorem Pst.at {h : Heap} (R : Pst P w h a L es ep t) {i : Nat} {p : Addr × List Int} (e : L[i]? = some p) : es[i]? = some (thash P w p.2, Value.ref p.1) := by
  rw [← Array.getElem?_toList, R.rows]
  simp [rowsOf, e]
theorem no_dummy (m : Nat) : ∀ (n : Nat) (p : SetTable.Probe), p.dummy = none → (nth m p n).dummy = none
  | 0, _, h => h
  | n + 1, p, h => no_dummy m n (adv m p) (by unfold adv; split <;> exact h)
/-- the n-th step of the way of a hash -/
abbrev pr (m : Nat) (h : Int) (n : Nat) : SetTable.Probe := nth m (runAt m (SetTable.bits h % (m + 1)) (SetTable.bits h)) n
theorem pr_add (m : Nat) (h : Int) (c q : Nat) : nth m (pr m h c) q = pr m h (c + q) := (nth_add m c _ q).symm
/-- looking for a tuple, from the c-th step on -/
theorem seek_from (R : Pst P w s.heap a L es ep t) {x : Addr} {k : List Int} (hx : IsT P w s.heap k x) (hu : A.units < cLine) (add : Bool) {n : Nat} (n1 : n < 10 * SetTable.turns t.mask)
    (n2 : way t.mask (thash P w k) n ∉ t.place.toList) (n3 : ∀ c, c < n → way t.mask (thash P w k) c ∈ t.place.toList) {Q : SetFound → Shared → Prop}
    (yes : k ∈ L.map (·.2) → ∀ r, (add = false → r.isSome = true) → Q (.there r) s) (no : k ∉ L.map (·.2) → Q (.free (way t.mask (thash P w k) n) false) s) :
    ∀ (f c : Nat) (st : Option SetTable.Probe), st.getD (t.probeStart (thash P w k)) = pr t.mask (thash P w k) c → c ≤ n → n - c < f →
      (∀ (i : Nat) p, L[i]? = some p → p.2 = k → ∃ c', c ≤ c' ∧ c' < n ∧ t.place.toList[i]? = some (way t.mask (thash P w k) c')) →
      wpAny (model P w) A (setSearchFrom a (.ref x) (thash P w k) add f st) Q E s
  | 0, _, _, _, _, hf, _ => absurd hf (Nat.not_lt_zero _)
  | f + 1, c, st, hst, hc, hf, hre => by
    obtain ⟨o, ho, hex, hd⟩ := R.ob
    rw [setSearchFrom_succ]
    refine wpAny_bind (wpAny_setState_of ho hd R.fit ?_)
    dsimp only
    refine wp_if_neg (by unfold SetTable.gaveWay; rw [R.tab.met.odd]; decide) ?_
    try refine wpAny_bind (wpAny_pure ?_)
    have wj : ∀ q, (nth t.mask (pr t.mask (thash P w k) c) q).j = way t.mask (thash P w k) (c + q) := fun q => congrArg SetTable.Probe.j (pr_add _ _ c q)
    have hash : ∀ (i : Nat) p, L[i]? = some p → ((es[i]?.map (·.1)).getD 0) = thash P w p.2 := fun i p hp => by rw [R.at hp]; rfl
    have nc : c + (n - c) = n := by omega
    rcases go_spec t R.tab.up R.tab.clean (fun i => (es[i]?.map (·.1)).getD 0) (thash P w k) (10 * SetTable.turns t.mask) (n - c) (pr t.mask (thash P w k) c) (no_dummy _ _ _ rfl) (by omega)
      (fun q hq => by rw [wj]; exact n3 _ (by omega)) (by rw [wj, nc]; exact n2) with ⟨q, i, hq, hi, hh, hno, hpr⟩ | ⟨hno, hpr⟩
    · rw [wj] at hi
      have met : t.probe (fun i => (es[i]?.map (·.1)).getD 0) (thash P w k) (st.getD (t.probeStart (thash P w k))) = some (.candidate (way t.mask (thash P w k) (c + q)) i (pr t.mask (thash P w k) (c + (q + 1)))) := by
        rw [hst, ← wj, ← pr_add]; exact hpr
      have il : i < L.length := by
        have e1 := (List.getElem?_eq_some_iff.mp hi).1
        rw [Array.length_toList, R.tab.size, List.length_map] at e1
        exact e1
      have hp : L[i]? = some L[i] := List.getElem?_eq_getElem il
      have mem : L[i] ∈ L := List.getElem_mem il
      generalize L[i] = p at hp mem
      have rest : wpAny (model P w) A (searchRest a (.ref x) (thash P w k) add f es t (way t.mask (thash P w k) (c + q)) i (pr t.mask (thash P w k) (c + (q + 1)))) Q E s := by
        unfold searchRest
        rw [R.at hp]
        dsimp only
        refine wpAny_bind (wpAny_holding (wpAny_eqBool_tuple hu (R.tup p mem) hx ?_))
        refine wpAny_bind (wpAny_setState_of ho hd R.fit ?_)
        dsimp only
        have live : t.slot (way t.mask (thash P w k) (c + q)) = .live i := slot_live R.tab.up hi
        by_cases kk : p.2 = k
        · have km : k ∈ L.map (·.2) := List.mem_map.mpr ⟨p, mem, kk⟩
          cases add with
          | true =>
            refine wp_if_pos (by simp [kk]) ?_
            exact wpAny_pure (yes km none fun z => nomatch z)
          | false =>
            refine wp_if_neg (by simp) ?_
            try refine wpAny_bind (wpAny_pure ?_)
            rw [sameMem]
            dsimp only
            simp only [if_true, live, R.at hp]
            refine wpAny_bind (wpAny_isSame_ref_self (wpAny_bind (wpAny_pure ?_)))
            simp only [if_true]
            refine wp_if_pos (by simp [kk]) ?_
            exact wpAny_pure (yes km (some i) fun _ => rfl)
        · refine wp_if_neg (by simp [kk]) ?_
          try refine wpAny_bind (wpAny_pure ?_)
          rw [sameMem]
          dsimp only
          simp only [if_true, live, R.at hp]
          refine wpAny_bind (wpAny_isSame_ref_self (wpAny_bind (wpAny_pure ?_)))
          simp only [if_true]
          refine wp_if_neg (by simp [kk]) ?_
          refine seek_from R hx hu add n1 n2 n3 yes no f (c + (q + 1)) _ rfl (by omega) (by omega) fun i0 p0 h0 k0 => ?_
          obtain ⟨c', a1, a2, a3⟩ := hre i0 p0 h0 k0
          refine ⟨c', Nat.lt_of_not_le fun z => ?_, a2, a3⟩
          rcases Nat.lt_or_eq_of_le (show c' ≤ c + q from z) with y | y
          · exact hno (c' - c) i0 (by omega) (by rw [wj, show c + (c' - c) = c' by omega]; exact a3) ((hash i0 p0 h0).trans (by rw [k0]))
          · rw [y] at a3
            have s0 := slot_live R.tab.up a3
            rw [live] at s0
            injection s0 with s0
            rw [← s0, hp] at h0
            cases h0
            exact kk k0
      rw [met]
      dsimp only
      by_cases hl : t.led = true
      · refine wp_if_neg (by simp [hl]) ?_
        try refine wpAny_bind (wpAny_pure ?_)
        exact rest
      · refine wp_if_pos (by simp [hl]) ?_
        refine wpAny_bind (seen_tup hx (fun y hy => ?_) ?_)
        · obtain ⟨e, he, rfl⟩ := List.mem_map.mp hy
          have e1 : e ∈ es.toList := by simpa using (show e ∈ es ∧ e.1 = thash P w k by simpa using he).1
          rw [R.rows] at e1
          obtain ⟨p2, m2, rfl⟩ := List.mem_map.mp e1
          exact ⟨p2.2, p2.1, rfl, R.tup p2 m2⟩
        · refine wp_if_neg (by decide) ?_
          try refine wpAny_bind (wpAny_pure ?_)
          exact rest
    · have met : t.probe (fun i => (es[i]?.map (·.1)).getD 0) (thash P w k) (st.getD (t.probeStart (thash P w k))) = some (.empty (way t.mask (thash P w k) n) none) := by
        rw [hst, show way t.mask (thash P w k) n = (nth t.mask (pr t.mask (thash P w k) c) (n - c)).j by rw [wj, nc]]; exact hpr
      rw [met]
      dsimp only
      refine wpAny_pure (no fun hm => ?_)
      obtain ⟨p0, m0, k0⟩ := List.mem_map.mp hm
      obtain ⟨i0, l0, e0⟩ := List.getElem_of_mem m0
      have h0 : L[i0]? = some p0 := by rw [List.getElem?_eq_getElem l0, e0]
      obtain ⟨c', a1, a2, a3⟩ := hre i0 p0 h0 k0
      exact hno (c' - c) i0 (by omega) (by rw [wj, show c + (c' - c) = c' by omega]; exact a3) ((hash i0 p0 h0).trans (by rw [k0]))
theorem seek (R : Pst P w s.heap a L es ep t) {x : Addr} {k : List Int} (hx : IsT P w s.heap k x) (hu : A.units < cLine) (add : Bool) {Q : SetFound → Shared → Prop}
    (yes : k ∈ L.map (·.2) → ∀ r, (add = false → r.isSome = true) → Q (.there r) s)
    (no : ∀ n, k ∉ L.map (·.2) → way t.mask (thash P w k) n ∉ t.place.toList → (∀ c, c < n → way t.mask (thash P w k) c ∈ t.place.toList) → Q (.free (way t.mask (thash P w k) n) false) s) :
    wpAny (model P w) A (setSearch a (.ref x) (thash P w k) add) Q E s := by
  have rm := R.room
  obtain ⟨n, n1, n2, n3⟩ := R.tab.gap (by rw [List.length_map]; omega) (thash P w k)
  have nb : n < 100000 := by
    have z : 10 * SetTable.turns t.mask ≤ 10000 := by
      unfold SetTable.turns
      rcases R.msk with (e | e | e) | e <;> omega
    omega
  unfold setSearch
  refine seek_from R hx hu add n1 n2 n3 yes (fun z => no n z n2 n3) 100000 0 none rfl (Nat.zero_le _) (by omega) fun i p hp hk => ?_
  have e1 : (L.map fun p => thash P w p.2)[i]? = some (thash P w k) := by simp [hp, hk]
  have il : i < t.place.toList.length := by
    have z := (List.getElem?_eq_some_iff.mp hp).1
    rw [Array.length_toList, R.tab.size, List.length_map]
    exact z
  obtain ⟨c, hc, e⟩ := R.tab.ahead n2 e1 (List.getElem?_eq_getElem il)
  exact ⟨c, Nat.zero_le _, hc, by rw [List.getElem?_eq_getElem il, e]⟩
theorem Pst.keep {h h' : Heap} (R : Pst P w h a L es ep t) (ha : ∀ o, h.get? a = some o → h'.get? a = some o) (ht : ∀ p ∈ L, IsT P w h' p.2 p.1) : Pst P w h' a L es ep t := by
  obtain ⟨o, ho, r⟩ := R.ob
  exact { R with ob := ⟨o, ha o ho, r⟩, tup := ht }
/-- the table laid anew -/
theorem relayG {o : Obj} (ho : s.heap.get? a = some o) (hex : o.ExactSet) (hd : o.data = .set es ep t) (hr : es.toList = rowsOf P w L) (hT : Tb t (L.map fun p => thash P w p.2)) (hfl : L.length ≤ t.mask)
    (nd : (L.map (·.2)).Nodup) (tup : ∀ p ∈ L, IsT P w s.heap p.2 p.1) (pl : t.plain = true) (ld : w.params.followText "set-order" = true ∨ t.led = true) (few : L.length ≤ 300) {wanted m : Nat}
    (hw : SetTable.sizeAbove wanted = m + 1) (M : Met m) (msk : MaskOk m ∨ m = 511) (hn : L.length * 5 < m * 3) {Q : Unit → Shared → Prop}
    (hQ : ∀ h' L' es' ep' t', Heap.SameBut a s.heap h' → Pst P w h' a L' es' ep' t' → L'.Perm L → Q () { s with heap := h' }) : wpAny (model P w) A (setRelay a wanted) Q E s := by
  have z0 := rows_len hr
  have z1 : t.place.size = L.length := by simpa using hT.size
  have m5 : m ≤ 511 := by rcases msk with (e | e | e) | e <;> omega
  have fit : t.fits es.size = true := by
    unfold SetTable.fits SetTable.fill
    simp only [hT.clean, Bool.and_eq_true, beq_iff_eq, decide_eq_true_eq]
    exact ⟨by omega, show t.place.size + 0 ≤ t.mask by omega⟩
  obtain ⟨t', order, e, hp, T, em, el, ep'⟩ := relaidG t (hs := es.map (·.1)) (wanted := wanted) (by rw [hw]; rfl) M (by rw [Array.size_map, z0]; omega)
  rw [Array.size_map, z0] at hp
  obtain ⟨L2, r1, r2, r3⟩ := order_rows L es order hr hp
  rw [← r3] at T
  have z2 : (order.filterMap (es[·]?)).size = es.size := by rw [rows_len r1, r2.length_eq, z0]
  rw [setRelay_eq]
  refine wpAny_bind (wpAny_setState_of ho hd fit ?_)
  dsimp only
  refine wp_if_neg (by rw [sizeLine_eq, hw]; omega) ?_
  try refine wpAny_bind (wpAny_pure ?_)
  rw [e]
  dsimp only
  refine wpAny_bind ?_
  refine wp_if_neg (by rw [z2]; simp) ?_
  try refine wpAny_bind (wpAny_pure ?_)
  refine wpAny_pure ?_
  dsimp only
  refine wpAny_storeSet_of ho hd ?_ (by rw [z2, z0, sizeLine_eq]; omega)
  have sb : Heap.SameBut a s.heap (s.heap.update a (Obj.putSet (order.filterMap (es[·]?)) t')) := Heap.SameBut.update ..
  refine hQ _ L2 (order.filterMap (es[·]?)) (ep + 1) t' sb ⟨⟨_, store_at ho hd, hex, rfl⟩, r1, T, (r2.map (·.2)).nodup_iff.mpr nd, fun p hpm => isT_same (tup p (r2.mem_iff.mp hpm)) ho hd sb, ep'.trans pl, by rw [el]; exact ld, by rw [r2.length_eq, em]; exact hn, by rw [em]; exact msk, by rw [r2.length_eq]; exact few⟩ r2
theorem size_308 : SetTable.sizeAbove (SetTable.grown 77) = 512 := by decide +kernel
/-- one is added -/
theorem addG (R : Pst P w s.heap a L es ep t) {x : Addr} {k : List Int} (hx : IsT P w s.heap k x) (hu : A.units < cLine) (hfew : L.length < 300) {Q : Bool → Shared → Prop}
    (hQ : ∀ b h' L' es' ep' t', Heap.SameBut a s.heap h' → Pst P w h' a L' es' ep' t' → (k ∈ L.map (·.2) → L' = L) → (k ∉ L.map (·.2) → L'.Perm ((x, k) :: L)) → Q b { s with heap := h' }) :
    wpAny (model P w) A (setAddHashed a (.ref x) (thash P w k)) Q E s := by
  obtain ⟨o, ho, hex, hd⟩ := R.ob
  have z0 := rows_len R.rows
  have rm := R.room
  unfold setAddHashed
  refine wpAny_holding ?_
  rw [show (100000 : Nat) = 99999 + 1 from rfl, setAddHashedIn_succ]
  refine wpAny_bind (wpAny_setState_of ho hd R.fit ?_)
  dsimp only
  refine wp_if_neg (by simp [byScan, Value.scannable]) ?_
  try refine wpAny_bind (wpAny_pure ?_)
  refine wpAny_bind (seek R hx hu true (fun hm r _ => ?_) fun n hm n2 n3 => ?_)
  · dsimp only
    exact wpAny_pure (hQ false s.heap L es ep t (Heap.SameBut.refl a s.heap) R (fun _ => rfl) fun z => absurd hm z)
  · dsimp only
    refine wpAny_bind (wpAny_setState_of ho hd R.fit ?_)
    dsimp only
    have wl := wayLe t.mask (thash P w k) n
    obtain ⟨q2, q3, q9⟩ := R.tab.put n2 n3 rfl
    have pp : (t.put (way t.mask (thash P w k) n)).2 = SetTable.below t.place (way t.mask (thash P w k) n) := rfl
    have pm' : (t.put (way t.mask (thash P w k) n)).1.mask = t.mask := rfl
    have pd : (t.put (way t.mask (thash P w k) n)).1.led = t.led := rfl
    have pn : (t.put (way t.mask (thash P w k) n)).1.plain = true := R.plain
    generalize t.put (way t.mask (thash P w k) n) = pt at pp pm' pd pn q3 q9 ⊢
    obtain ⟨t1, p⟩ := pt
    dsimp only at pp pm' pd pn q3 q9 ⊢
    rw [← pp] at q2 q3
    first
      | (refine wpAny_bind ?_; refine wp_if_pos pn ?_; refine hashBy_tup hx ?_)
      | refine wp_if_pos pn (wpAny_bind (hashBy_tup hx ?_))
    simp only [if_true]
    have hin : (SetTable.insertAt es p (thash P w k, Value.ref x)).toList = rowsOf P w (L.take p ++ (x, k) :: L.drop p) := by rw [SetTable.toList_insertAt, rows_put, R.rows]
    have pm := put_perm L p (x, k)
    have hhs : (L.take p ++ (x, k) :: L.drop p).map (fun p => thash P w p.2) = (L.map fun p => thash P w p.2).take p ++ thash P w k :: (L.map fun p => thash P w p.2).drop p := by simp [List.map_take, List.map_drop]
    rw [← hhs] at q3
    rw [List.length_map] at q9
    generalize SetTable.insertAt es p (thash P w k, Value.ref x) = es1 at hin ⊢
    generalize L.take p ++ (x, k) :: L.drop p = L1 at pm q3 hin
    have l1 : L1.length = L.length + 1 := pm.length_eq
    have nd1 : (L1.map (·.2)).Nodup := (pm.map (·.2)).nodup_iff.mpr (List.nodup_cons.mpr ⟨hm, R.nd⟩)
    have z1 := rows_len hin
    refine wpAny_bind (wpAny_storeSet_of ho hd ?_ (by rw [z1, sizeLine_eq]; omega))
    have sb : Heap.SameBut a s.heap (s.heap.update a (Obj.putSet es1 t1)) := Heap.SameBut.update ..
    have ho1 := store_at (es' := es1) (t' := t1) ho hd
    generalize s.heap.update a (Obj.putSet es1 t1) = h1 at sb ho1 ⊢
    have tup1 : ∀ p ∈ L1, IsT P w h1 p.2 p.1 := fun p hp => by
      rcases List.mem_cons.mp (pm.mem_iff.mp hp) with e | hp
      · rw [e]; exact isT_same hx ho hd sb
      · exact isT_same (R.tup p hp) ho hd sb
    have ld1 : w.params.followText "set-order" = true ∨ t1.led = true := by rw [pd]; exact R.led
    by_cases hf : t1.tooFull = true
    · first
        | (refine wpAny_bind ?_; refine wp_if_pos (by simp [hf]) ?_)
        | (refine wp_if_pos (by simp [hf]) ?_; refine wpAny_bind ?_)
      have full : (L.length + 1) * 5 ≥ t.mask * 3 := by
        unfold SetTable.tooFull at hf
        rw [decide_eq_true_eq, q9, pm'] at hf
        exact hf
      rw [z0]
      have go : ∀ m, SetTable.sizeAbove (SetTable.grown (L.length + 1)) = m + 1 → Met m → (MaskOk m ∨ m = 511) → (L.length + 1) * 5 < m * 3 →
          wpAny (model P w) A (setRelay a (SetTable.grown (L.length + 1))) (fun _ s' => wpAny (model P w) A (pure true) Q E s') E { s with heap := h1 } := fun m b1 b2 b3 b4 => by
        refine relayG (s := { s with heap := h1 }) ho1 ⟨hex.1, hex.2.1, hex.2.2⟩ rfl hin q3 (by rw [l1, pm']; omega) nd1 tup1 pn ld1 (by omega) b1 b2 b3 (by rw [l1]; exact b4) ?_
        intro h2 L2 es2 ep2 t2 sb2 R2 pm2
        exact wpAny_pure (hQ true h2 L2 es2 ep2 t2 (sb.trans sb2) R2 (fun z => absurd z hm) fun _ => pm2.trans pm)
      rcases R.msk with (e | e | e) | e
      · have e2 : L.length = 4 := by omega
        exact go 31 (by rw [e2, size_20]) (met_of (.inr (.inl rfl))) (.inl (.inr (.inl rfl))) (by omega)
      · have e2 : L.length = 18 := by omega
        exact go 127 (by rw [e2, size_76]) (met_of (.inr (.inr rfl))) (.inl (.inr (.inr rfl))) (by omega)
      · have e2 : L.length = 76 := by omega
        exact go 511 (by rw [e2, size_308]) met_511 (.inr rfl) (by omega)
      · omega
    · first
        | refine wp_if_neg (by simp [hf]) ?_
        | (refine wpAny_bind ?_; refine wp_if_neg (by simp [hf]) ?_; refine wpAny_pure ?_)
      have some_left : ¬ ((L.length + 1) * 5 ≥ t.mask * 3) := fun z => hf (by
        unfold SetTable.tooFull
        rw [decide_eq_true_eq, q9, pm']
        exact z)
      exact wpAny_pure (hQ true h1 L1 es1 (ep + 1) t1 sb ⟨⟨_, ho1, hex, rfl⟩, hin, q3, nd1, tup1, pn, ld1, by rw [l1, pm']; omega, by rw [pm']; exact R.msk, by omega⟩ (fun z => absurd z hm) fun _ => pm)
end
end Pf

namespace Pf
open PySem PySem.Spec PyProof.Rows L2
section
variable {P : Program} {w : World} {A : Around} {E : Value → Shared → Prop} {s : Shared} {a : Addr} {L : Rows} {es : Array (Int × Value)} {ep : Nat} {t : SetTable}
theorem findG (R : Pst P w s.heap a L es ep t) {x : Addr} {k : List Int} (hx : IsT P w s.heap k x) (hu : A.units < cLine) {Q : Option Nat → Shared → Prop}
    (h : ∀ r : Option Nat, r.isSome = decide (k ∈ L.map (·.2)) → Q r s) : wpAny (model P w) A (setFind a (.ref x) (thash P w k)) Q E s := by
  obtain ⟨o, ho, hex, hd⟩ := R.ob
  unfold setFind setFindIn
  refine wpAny_bind (wpAny_setState_of ho hd R.fit ?_)
  dsimp only
  refine wp_if_neg (by simp [byScan, Value.scannable]) ?_
  try refine wpAny_bind (wpAny_pure ?_)
  refine wpAny_bind (seek R hx hu false (fun hm r hr => ?_) fun n hm _ _ => ?_)
  · dsimp only
    exact wpAny_pure (h r (by rw [decide_eq_true hm]; exact hr rfl))
  · dsimp only
    exact wpAny_pure (h none (by rw [decide_eq_false hm]; rfl))
/-- x in the set -/
theorem inG (R : Pst P w s.heap a L es ep t) {x : Addr} {k : List Int} (hx : IsT P w s.heap k x) (hu : A.units + 3 < cLine) {Q : Value → Shared → Prop}
    (h : ∀ tk, Q (.bool (decide (k ∈ L.map (·.2)))) { s with toks := tk }) : wpAny (model P w) A (compareOp .In (.ref x) (.ref a)) Q E s := by
  obtain ⟨o, ho, hex, hd⟩ := R.ob
  have ty : s.TypeIs (.ref a) "set" := ⟨o, ho, hex.1⟩
  show wpAny _ _ (do return .bool (← contains (.ref a) (.ref x))) Q E s
  refine wpAny_bind ?_
  unfold contains
  try with_reducible refine wpAny_holding ?_
  refine wpAny_bind (wpAny_specialOf ty F.slot_set_contains.lookup ?_)
  show wpAny (model P w) A (if (some (Value.builtin "set.__contains__") == some Value.none) = true then _ else _) _ E s
  rw [if_neg (by rw [beq_builtin_none]; decide)]
  refine wpAny_bind (wpAny_callSpecialUnlessNone?_slot (name := Str.ofString "__contains__") ty F.slot_set_contains (wpAny_call_entry F.slot_set_contains ty entry_set_contains ?_ (F.args_set_contains_2 _ _)))
  unfold Builtin.«frozenset.__contains__» Builtin.Frozenset.oneOther; simp only [List.isEmpty_nil, bind_assoc]
  unfold Builtin.Frozenset.addrOf Builtin.Frozenset.withSetAsKey setContains; refine wpAny_bind (wpAny_pure ?_)
  try dsimp only
  refine wpAny_bind (wpAny_pure ?_)
  try dsimp only
  refine wpAny_bind (wpAny_tryCatch ?_)
  refine wpAny_holding ?_
  refine wpAny_bind (wpAny_pyHash_tuple (show A.units + 1 < cLine by omega) hx ?_)
  refine wpAny_bind (findG (s := { s with toks := s.toks + (k.length + 1) }) R hx (show A.units + 1 < cLine by omega) fun r hr => ?_)
  refine wpAny_pure ?_
  show wpAny (model P w) _ (ret (Value.bool r.isSome)) _ _ _
  rw [hr]
  exact wpAny_pure ⟨_, rfl, wpAny_truthy_bool (wpAny_pure (h _))⟩
theorem pst_new {h : Heap} {a : Addr} (ho : h.get? a = some { cls := .type "set", dict := none, data := .set #[] 0 (.fresh 0 0 (!w.params.followText "set-order")) }) : Pst P w h a [] #[] 0 (.fresh 0 0 (!w.params.followText "set-order")) :=
  ⟨⟨_, ho, ⟨rfl, rfl, rfl⟩, rfl⟩, rfl, ⟨List.Pairwise.nil, rfl, rfl, met_of (.inl rfl), (fun x hx => nomatch hx), (fun i h j hi => by simp at hi)⟩, List.nodup_nil, (fun p hp => nomatch hp), rfl,
    (by show _ ∨ (!w.params.followText "set-order") = true; cases w.params.followText "set-order" <;> simp), (show 0 * 5 < 7 * 3 by decide), .inl (.inl rfl), (show 0 ≤ 300 by decide)⟩
/-- the loop of set(xs) -/
theorem loopG {I : Addr} {fp wr : List Addr} {G : Array GenState → Array GenState → Prop} {n : Nat} {Pv : Nat → Value → Prop} {St : Nat → Shared → Prop} {R : Result → Shared → Prop}
    (W : WalksS P w A.in1 I fp wr G n Pv St) (S : Addr) (nS : S ∉ fp) (ks : Rows) (hn : n = ks.length) (few : ks.length ≤ 300) (val : ∀ i v, Pv i v → ∃ p, ks[i]? = some p ∧ v = .ref p.1)
    (h0 : Heap) (hk : ∀ p ∈ ks, IsT P w h0 p.2 p.1) (hS0 : h0.get? S = none) (hw0 : ∀ b ∈ wr, h0.get? b = none) (hu : A.in1.units < cLine) :
    ∀ (k i : Nat) (s : Shared), n - i = k → i ≤ n → St i s → (∀ b o, h0.get? b = some o → s.heap.get? b = some o) → (∃ L es ep t, Pst P w s.heap S L es ep t ∧ Got ks i L) →
      (∀ s' L es ep t, Moved (S :: wr) G s s' → Pst P w s'.heap S L es ep t → Got ks n L → (∀ b o, h0.get? b = some o → s'.heap.get? b = some o) → R (.ok (.ret .none)) s') →
      codeAny (model P w) A (.builtin "set.update.loop" ⟨[.ref S, .ref I], []⟩) R s := by
  have nw : S ∉ wr := fun h => nS (W.sub _ h)
  have cov : ∀ b ∈ wr, b ∈ S :: wr := fun b hb => List.mem_cons_of_mem _ hb
  have stay : ∀ {s s' : Shared}, Moved wr G s s' → (∀ b o, h0.get? b = some o → s.heap.get? b = some o) → ∀ b o, h0.get? b = some o → s'.heap.get? b = some o := fun mv kp b o e =>
    mv.heap b o (fun hb => by rw [hw0 b hb] at e; cases e) (kp b o e)
  intro k
  induction k with
  | zero =>
    intro i s ei hi st kp ⟨L, es, ep, t, ps, g⟩ hR
    obtain rfl : i = n := by omega
    refine codeAny_builtin F.entry_set_update_loop ?_
    rw [Around.under_plainId F.plain_set_update_loop _]
    show wpAny (model P w) A.in1 (pyNext (.ref I) >>= _) _ _ s
    refine wpAny_bind (W.done s _ _ st fun s' mv => ?_)
    show wpAny (model P w) A.in1 (ret Value.none) _ _ s'
    have kp' := stay mv kp
    exact wpAny_pure (hR s' L es ep t (mv.mono cov) (ps.keep (fun o e => mv.heap S o nw e) fun p hp => isT_keep (hk p (List.mem_of_mem_take (g.sub p hp))) kp') g kp')
  | succ k ih =>
    intro i s ei hi st kp ⟨L, es, ep, t, ps, g⟩ hR
    have lt : i < n := by omega
    refine codeAny_builtin F.entry_set_update_loop ?_
    rw [Around.under_plainId F.plain_set_update_loop _]
    show wpAny (model P w) A.in1 (pyNext (.ref I) >>= _) _ _ s
    refine wpAny_bind (W.item i s _ _ lt st fun v s' pv st' mv => ?_)
    obtain ⟨p, hp, rfl⟩ := val i v pv
    have kp' := stay mv kp
    have ps' : Pst P w s'.heap S L es ep t := ps.keep (fun o e => mv.heap S o nw e) fun q hq => isT_keep (hk q (List.mem_of_mem_take (g.sub q hq))) kp'
    have hx : IsT P w s'.heap p.2 p.1 := isT_keep (hk p (List.mem_of_getElem? hp)) kp'
    show wpAny (model P w) A.in1 (holding [Value.ref p.1] (setAdd S (.ref p.1)) >>= _) _ _ s'
    refine wpAny_bind (wpAny_holding ?_)
    unfold setAdd
    refine wpAny_holding ?_
    refine wpAny_bind (wpAny_pyHash_tuple hu hx ?_)
    refine addG (s := { s' with toks := s'.toks + (p.2.length + 1) }) ps' hx hu (by have := g.len; omega) fun b h' L' es' ep' t' sb ps2 c1 c2 => ?_
    have g' : Got ks (i + 1) L' := by
      by_cases c : p.2 ∈ L.map (·.2)
      · rw [c1 c]; exact g.same hp c
      · exact g.more hp (c2 c)
    have kp2 : ∀ b o, h0.get? b = some o → h'.get? b = some o := fun b o e => (sb.2 b (fun z => by rw [z, hS0] at e; cases e)).trans (kp' b o e)
    refine wpAny_pure ⟨plainId_quiet F.plain_set_update_loop _, ih (i + 1) _ (by omega) lt (W.frame _ s' _ _ st' (Nat.le_add_right _ _) fun b hb o e => ?_) kp2 ⟨L', es', ep', t', ps2, g'⟩ fun s2 L2 es2 ep2 t2 mv2 ps3 g2 kp3 => ?_⟩
    · exact (sb.2 b (fun z : b = S => nS (z ▸ hb))).trans e
    · exact hR s2 L2 es2 ep2 t2 (Moved.trans W.gtrans ((mv.mono cov).then_heap (Nat.le_add_right _ _) fun b o hb e => (sb.2 b (fun z : b = S => hb (z ▸ List.mem_cons_self))).trans e) mv2) ps3 g2 kp3
/-- a new empty set's object -/
abbrev emptyO (w : World) : Obj := { cls := .type "set", dict := none, data := .set #[] 0 (.fresh 0 0 (!w.params.followText "set-order")) }
set_option maxRecDepth 100000 in
set_option maxHeartbeats 6400000 in
/-- set(xs) -/
theorem callG {l : Addr} {items : Array Value} (ks : Rows) {Q : Value → Shared → Prop} (hh : A.handled = none) (hl : s.heap.IsList l items) (hit : items.toList = ks.map fun p => Value.ref p.1)
    (hk : ∀ p ∈ ks, IsT P w s.heap p.2 p.1) (few : ks.length ≤ 300) (hu : A.units + 3 < cLine)
    (h : ∀ (h' : Heap) (tk : Nat) L es ep t, Pst P w h' s.heap.objs.size L es ep t → Got ks ks.length L → (∀ b o, s.heap.get? b = some o → h'.get? b = some o) → Q (.ref s.heap.objs.size) { s with heap := h', toks := tk }) :
    wpAny (model P w) A (call (.type "set") [.ref l]) Q E s := by
  have isz : items.size = ks.length := by simpa using congrArg List.length hit
  obtain ⟨c, tl, hmro⟩ := F.called_set.mro
  have hmade := F.called_set.made
  have hsub := F.called_set.sub
  refine wpAny_call (codeAny_of_tree ?_)
  show wpAny (model P w) _ (callAny (.type "set") _) _ _ _
  refine wpAny_pure ⟨Code.quiet_builtin _ (by decide +kernel), codeAny_builtin F.entry_type_call ?_⟩
  rw [Around.under_plain (weight_type_call_type "set" [.ref l] []) rfl]
  have h1 := F.called_set.notType
  have h2 := F.called_set.canCreate
  have hct := F.typeCall_set_1 (.ref l)
  repeat any_goals first | assumption | wp_step
  refine codeAny_mono (code_set_led1 (.ref l) (E := E) (Q₁ := fun obj s₁ => obj = .ref s.heap.objs.size ∧ s₁ = { s with heap := s.heap.push (emptyO w) }) ⟨rfl, rfl⟩) fun r s₁ hr => ?_
  cases r with
  | error e => exact hr
  | ok fl =>
    cases fl with
    | ret obj =>
      obtain ⟨rfl, rfl⟩ := hr
      have hS : (s.heap.push (emptyO w)).get? s.heap.objs.size = some (emptyO w) := Heap.get?_push_size _ rfl
      have hT : Shared.TypeIs { s with heap := s.heap.push (emptyO w) } (.ref s.heap.objs.size) "set" := ⟨_, hS, rfl⟩
      have hli := F.called_set.init.lookup
      have hbi := F.called_set.init.bind (.ref s.heap.objs.size)
      repeat any_goals first | assumption | wp_step
      refine codeAny_mono (codeAny_call_builtin (R := wants (fun r s₂ => r = .none ∧ ∃ h' tk L es ep t, s₂ = { s with heap := h', toks := tk } ∧ Pst P w h' s.heap.objs.size L es ep t ∧ Got ks ks.length L ∧
          (∀ b o, s.heap.get? b = some o → h'.get? b = some o)) E) F.called_set.init.plain F.entry_set_init (check_set_init_1 hT ?_)) fun r₂ s₂ hr₂ => ?_
      · obtain ⟨ol, hol, hcl, nl, hdl⟩ := hl
        obtain ⟨ocls, odict, odata, oslots⟩ := ol
        simp only at hcl hdl
        subst hcl; subst hdl
        have hol' : (s.heap.push (emptyO w)).get? l = some { cls := .type "list", dict := odict, data := .seq items nl, slots := oslots } := Heap.get?_push_of_some _ hol
        have hsls := F.sub_list_set
        have hslf := F.sub_list_frozenset
        have hne : (Value.type "list" == Value.type "dict") = false := by decide
        have hl1 : (s.heap.push (emptyO w)).IsList l items := ⟨_, hol', rfl, nl, rfl⟩
        unfold Builtin.«set.__init__» noKeywords Builtin.Frozenset.updateFrom; generalize hPI : pyIter = PI
        wp_walk
        subst hPI
        refine wpAny_pyIter_list hl1 ?_
        refine wpAny_bind (wpAny_runValue ?_)
        have hlS : l < s.heap.objs.size := Heap.lt_size hol
        have hh3 : A.in1.in1.in1.handled = none := by simp [hh]
        have nI : l ≠ (s.heap.push (emptyO w)).objs.size := by rw [Heap.size_push]; exact Nat.ne_of_lt (Nat.lt_succ_of_lt hlS)
        have nS : s.heap.objs.size ∉ [(s.heap.push (emptyO w)).objs.size, l] := by
          rw [Heap.size_push]
          simp only [List.mem_cons, List.not_mem_nil, or_false, not_or]
          exact ⟨Nat.ne_of_lt (Nat.lt_succ_self _), Nat.ne_of_gt hlS⟩
        have val : ∀ (i : Nat) (v : Value), items[i]? = some v → ∃ p, ks[i]? = some p ∧ v = .ref p.1 := fun i v hv => by
          rw [← Array.getElem?_toList, hit, List.getElem?_map] at hv
          obtain ⟨p, e1, e2⟩ := Option.map_eq_some_iff.mp hv
          exact ⟨p, e1, e2.symm⟩
        have far : ∀ b, s.heap.objs.size ≤ b → s.heap.get? b = none := fun b hb => by
          cases q : s.heap.get? b with
          | none => rfl
          | some o => exact absurd (Nat.lt_of_lt_of_le (Heap.lt_size q) hb) (Nat.lt_irrefl _)
        refine loopG ((Walks.list hh3 _ l nI items).toS) s.heap.objs.size nS ks isz few val s.heap hk (far _ (Nat.le_refl _)) (fun b hb => far b (by rw [List.mem_singleton.mp hb, Heap.size_push]; exact Nat.le_succ _)) hu (items.size - 0) 0 _ (by omega) (Nat.zero_le _)
          ⟨⟨_, Heap.get?_push_size _ rfl, rfl, rfl⟩, (hl1.push _)⟩ (fun b o e => Heap.get?_push_of_some _ (Heap.get?_push_of_some _ e)) ⟨[], #[], 0, _, pst_new (Heap.get?_push_of_some _ hS), Got.zero ks⟩ ?hR
        case hR =>
          intro s' L es ep t hm hS' g' hkp
          obtain ⟨h', g2, d', tk', os'⟩ := s'
          have eg : g2 = s.gens := hm.gens
          have ed : d' = s.drawn := hm.drawn
          have eo : os' = s.os := hm.os
          subst eg; subst ed; subst eo
          show wpAny _ _ _ _ _ _
          refine wpAny_pure ?_
          show wpAny (model P w) _ (ret Value.none) _ _ _
          rw [isz] at g'
          exact wpAny_pure ⟨rfl, h', tk', L, es, ep, t, rfl, hS', g', hkp⟩
      · cases r₂ with
        | error e => exact hr₂
        | ok fl₂ =>
          cases fl₂ with
          | ret r =>
            obtain ⟨rfl, h', tk, L, es, ep, t, rfl, hS', g', hk'⟩ := hr₂
            repeat any_goals first | assumption | wp_step
            exact h _ _ _ _ _ _ hS' g' hk'
          | _ => exact hr₂.elim
    | _ => exact hr.elim
end
/-! ### over the layer -/
/-- the set at a, without its tuples -/
abbrev PstO (P : Program) (w : World) (a : Addr) (L : Rows) : HO := .ext fun h => ∃ (es : Array (Int × Value)) (ep : Nat) (t : SetTable), (∃ o, h.get? a = some o ∧ o.ExactSet ∧ o.data = .set es ep t) ∧ es.toList = rowsOf P w L ∧ Tb t (L.map fun p => thash P w p.2) ∧ (L.map (·.2)).Nodup ∧ t.plain = true ∧
    (w.params.followText "set-order" = true ∨ t.led = true) ∧ L.length * 5 < t.mask * 3 ∧ (MaskOk t.mask ∨ t.mask = 511) ∧ L.length ≤ 300
theorem Pst.ok {P : Program} {w : World} {H : Hp} {h : Heap} {a : Addr} {L : Rows} {es : Array (Int × Value)} {ep : Nat} {t : SetTable} (R : Pst P w h a L es ep t) : ObjOk P w H h a (PstO P w a L) :=
  ⟨⟨es, ep, t, R.ob, R.rows, R.tab, R.nd, R.plain, R.led, R.room, R.msk, R.few⟩, (by obtain ⟨o, ho, _⟩ := R.ob; exact ⟨o, ho⟩), fun h1 h2 ⟨es', ep', t', ⟨o', ho', r'⟩, q'⟩ k => ⟨es', ep', t', ⟨o', k o' ho', r'⟩, q'⟩⟩
def rSetP (K : Fg) (P : Program) (w : World) : List V → Hp → VK → Prop := fun xs H Q => ∃ (l : Addr) (ks : Rows), xs = [V.ref l] ∧ SqL K H l (ks.map fun p => V.ref p.1) ∧ (∀ p ∈ ks, SqT K H p.1 (p.2.map V.int)) ∧ ks.length ≤ 300 ∧
  ∀ a L, H a = none → (∀ p ∈ L, p ∈ ks) → (∀ p ∈ ks, p.2 ∈ L.map (·.2)) → Q (.ref a) (upd H a (PstO P w a L))
theorem cr_setP {X : Cx} {K : Fg} {P : Program} {w : World} (eK : X.K = K) (eP : X.prog = P) (ew : X.w = w) (hc : X.calm = true) (hu : X.A.units + 64 < cLine) : CallR X (.type "set") (rSetP K P w) := by
  subst eK eP ew
  intro pins s σ H xs us Q I r h
  obtain ⟨l, ks, rfl, hl, hk, hf, q⟩ := h
  rw [Vals.ref1 r]
  obtain ⟨its, rv, pl, hz⟩ := I.list hl
  have hn : H s.heap.objs.size = none := I.hok.fresh (Nat.le_refl _)
  refine callG (P := X.prog) (w := X.w) ks (I.ok.hd hc) pl.isList (by simpa using refs_of_vals rv) (fun p hp => I.isT (hk p hp)) hf (by omega) fun h' tk L es ep t R g k => ?_
  exact ⟨.ref s.heap.objs.size, upd H s.heap.objs.size (PstO X.prog X.w s.heap.objs.size L), I.laid (t' := tk) k (Nat.le_refl _) R.ok, rfl, q _ L hn (fun p hp => List.mem_of_mem_take (g.sub p hp)) fun p hp => g.all p (by rw [List.take_length]; exact hp)⟩
def rInP (K : Fg) (P : Program) (w : World) : R2 := fun x y H Q => ∃ (b : Addr) (k : List Int) (a : Addr) (L : Rows), x = .ref b ∧ y = .ref a ∧ SqT K H b (k.map V.int) ∧ H a = some (PstO P w a L) ∧ (∀ p ∈ L, SqT K H p.1 (p.2.map V.int)) ∧ Q (.bl (decide (k ∈ L.map (·.2)))) H
theorem op_inP {X : Cx} {K : Fg} {P : Program} {w : World} (eK : X.K = K) (eP : X.prog = P) (ew : X.w = w) (hu : X.A.units + 64 < cLine) : OpR X (compareOp .In) (rInP K P w) := by
  subst eK eP ew
  intro pins s σ H x y v u Q I rx ry h
  obtain ⟨b, k, a, L, rfl, rfl, hb, ha, hL, q⟩ := h
  cases rx
  cases ry
  obtain ⟨es, ep, t, h1, h2, h3, h4, h5, h6, h7, h8, h9⟩ := (I.hok a _ ha).1
  have R : Pst X.prog X.w s.heap a L es ep t := ⟨h1, h2, h3, h4, fun p hp => I.isT (hL p hp), h5, h6, h7, h8, h9⟩
  exact inG R (I.isT hb) (by omega) fun tk => ⟨.bl _, H, I.tok tk, rfl, q⟩
end Pf

namespace Pf
open PySem PySem.Spec PyProof.Rows L2
/-- a set of pairs -/
structure PSet (P : Program) (w : World) where
  l : List (Int × Int)
def PSetAt (P : Program) (w : World) (G : Hp) (v : V) (l : List (Int × Int)) : Prop := ∃ (a : Addr) (L : Rows), v = .ref a ∧ G a = some (PstO P w a L) ∧ (∀ p ∈ L, G p.1 = some (.tup (p.2.map V.int))) ∧ (∀ q : Int × Int, [q.1, q.2] ∈ L.map (fun r : Addr × List Int => r.2) ↔ q ∈ l) ∧ ∀ p ∈ L, ∃ q : Int × Int, p.2 = [q.1, q.2]
theorem PSetAt.mono {P : Program} {w : World} {G G' : Hp} {v : V} {l : List (Int × Int)} (e : Same G G') (h : PSetAt P w G v l) : PSetAt P w G' v l := by
  obtain ⟨a, L, h1, h2, h3, h4⟩ := h
  exact ⟨a, L, h1, e _ _ h2, fun p hp => e _ _ (h3 p hp), h4⟩
instance {P : Program} {w : World} : Rep (PSet P w) := ⟨fun G v S => PSetAt P w G v S.l, fun e h => h.mono e⟩
theorem pair_rows {G : Hp} : ∀ {vs : List V} {xs : List (Int × Int)}, Paired (rep G) vs xs → ∃ ks : Rows, vs = ks.map (fun p => V.ref p.1) ∧ ks.map (·.2) = xs.map (fun q => [q.1, q.2]) ∧ ∀ p ∈ ks, G p.1 = some (.tup (p.2.map V.int))
  | _, _, .nil => ⟨[], rfl, rfl, fun p hp => nomatch hp⟩
  | _, x :: _, .cons r t => by
    obtain ⟨a, u, w, rfl, h2, h3, h4⟩ := r
    obtain ⟨ks, e1, e2, e3⟩ := pair_rows t
    refine ⟨(a, [x.1, x.2]) :: ks, by rw [e1]; rfl, by rw [List.map_cons, e2]; rfl, fun p hp => ?_⟩
    rcases List.mem_cons.mp hp with e | e
    · subst e
      rw [h2, rep_int h3, rep_int h4]; rfl
    · exact e3 p e
section
variable {P : Program} {w : World} {K : Fg} {σ : L2.St} {G : Hp} {ta tb : TE}
theorem ev_setP {xs : List (Int × Int)} (ha : Ev ta σ G xs) (hl : xs.length ≤ 300) : Ev (tCB (rSetP K P w) (tCons ta tNil)) σ G (PSet.mk xs : PSet P w) := ev_B1 ha fun v G' H _ i k Q q => by
  obtain ⟨a, vs, rfl, h2, h3⟩ := k
  obtain ⟨ks, e1, e2, e3⟩ := pair_rows h3
  have kl : ks.length = xs.length := by simpa using congrArg List.length e2
  refine ⟨a, ks, rfl, .inl (.inl (by rw [← e1]; exact i _ _ h2)), fun p hp => .inl (.inl (i _ _ (e3 p hp))), by omega, fun b L nb s1 s2 => ?_⟩
  have gn := gr_new (o := PstO P w b L) i nb
  refine q _ (upd G' b (PstO P w b L)) _ gn ⟨b, L, rfl, upd_same, fun p hp => gn.g _ _ (e3 p (s1 p hp)), fun z => ?_, fun p hp => ?_⟩
  rotate_left
  · have m : p.2 ∈ xs.map (fun q => [q.1, q.2]) := e2 ▸ List.mem_map.mpr ⟨p, s1 p hp, rfl⟩
    obtain ⟨y, _, ey⟩ := List.mem_map.mp m
    exact ⟨y, ey.symm⟩
  constructor
  · intro hz
    obtain ⟨p, hp, e⟩ := List.mem_map.mp hz
    have m : p.2 ∈ xs.map (fun q => [q.1, q.2]) := e2 ▸ List.mem_map.mpr ⟨p, s1 p hp, rfl⟩
    obtain ⟨y, hy, ey⟩ := List.mem_map.mp m
    rw [e] at ey
    injection ey with e3 e4
    injection e4 with e4 _
    cases y; cases z
    cases e3; cases e4
    exact hy
  · intro hz
    have m : [z.1, z.2] ∈ ks.map (·.2) := e2 ▸ List.mem_map.mpr ⟨z, hz, rfl⟩
    obtain ⟨p, hp, e⟩ := List.mem_map.mp m
    rw [← e]
    exact s2 p hp
theorem ev_inP {x : Int × Int} {S : PSet P w} (ha : Ev ta σ G x) (hb : Ev tb σ G S) : Ev (tOp (rInP K P w) ta tb) σ G (decide (x ∈ S.l)) :=
  ev2 ha hb fun v u G' _ k1 k2 H i Q q => by
    obtain ⟨b, u1, u2, rfl, h2, h3, h4⟩ := k1
    obtain ⟨a, L, rfl, e1, e2, e3, _⟩ := k2
    refine ⟨b, [x.1, x.2], a, L, rfl, rfl, .inl (.inl (by rw [rep_int h3, rep_int h4] at h2; exact i _ _ h2)), i _ _ e1, fun p hp => .inl (.inl (i _ _ (e2 p hp))), q _ G' H (Gr.refl i) ?_⟩
    rw [decide_eq_decide.mpr (e3 x)]
    rfl
end
end Pf

namespace Pf
open PySem PySem.Spec PyProof.Rows L2
open PySem.W (alike alikeAll dataLt keyToks keyToksAll AllAlike Sortable dataLe AlikeAll minD EachIs)
/-! ### triples as data -/
instance {α β γ : Type} [Rep α] [DecidableEq α] [DatE α] [Rep β] [DecidableEq β] [DatE β] [Rep γ] [DecidableEq γ] [DatE γ] : DatE (Tri α β γ) := { (inferInstance : Dat (Tri α β γ)) with
  ok := fun x => by
    show PyData.canLayAll0 [dat x.a, dat x.b, dat x.c] = true
    simp only [PyData.canLayAll0, DatE.ok, Bool.and_true]
  dp := max (DatE.dp α) (max (DatE.dp β) (DatE.dp γ)) + 1
  deep := fun x => by
    show PyData.depthAll [dat x.a, dat x.b, dat x.c] + 1 ≤ _
    rw [PyData.depthAll, PyData.depthAll, PyData.depthAll, PyData.depthAll]
    exact Nat.succ_le_succ (Nat.max_le.mpr ⟨Nat.le_trans (DatE.deep x.a) (Nat.le_max_left _ _), Nat.max_le.mpr ⟨Nat.le_trans (Nat.le_trans (DatE.deep x.b) (Nat.le_max_left _ _)) (Nat.le_max_right _ _), Nat.max_le.mpr ⟨Nat.le_trans (Nat.le_trans (DatE.deep x.c) (Nat.le_max_right _ _)) (Nat.le_max_right _ _), Nat.zero_le _⟩⟩⟩)
  eq := fun x y => by
    show PyData.eqvAll [dat x.a, dat x.b, dat x.c] [dat y.a, dat y.b, dat y.c] = _
    simp only [PyData.eqvAll, DatE.eq, Bool.and_true]
    cases x; cases y
    simp only [Tri.mk.injEq, Bool.decide_and] }
instance {α β γ : Type} [Rep α] [DecidableEq α] [DatE α] [DatA α] [Rep β] [DecidableEq β] [DatE β] [DatA β] [Rep γ] [DecidableEq γ] [DatE γ] [DatA γ] : DatA (Tri α β γ) := ⟨fun x y => by
  show alikeAll [dat x.a, dat x.b, dat x.c] [dat y.a, dat y.b, dat y.c] = true
  simp only [alikeAll, DatA.al, Bool.and_true]⟩
theorem t3_sortable (ps : List T3) : Sortable (ps.map dat) := .inl fun d hd => by
  obtain ⟨x, _, rfl⟩ := List.mem_map.mp hd
  exact ⟨_, _, rfl⟩
theorem t3_toks (x : T3) : keyToks (dat x) = [.inl 1, .inl x.a, .inl 1, .inl x.b, .inl 1, .inl x.c, .inl 0] := by
  show keyToksAll [.int x.a, .int x.b, .int x.c] = _
  simp [keyToksAll, keyToks]
def lt3 (x y : T3) : Prop := x.a < y.a ∨ (x.a = y.a ∧ (x.b < y.b ∨ (x.b = y.b ∧ x.c < y.c)))
theorem inl_ne {a b : Int} (h : a ≠ b) : (Sum.inl a : Int ⊕ List Nat) ≠ .inl b := fun e => h (Sum.inl.inj e)
theorem lt3_no {x y : T3} (h : lt3 x y) : ltA y x = false := by
  unfold ltA dataLt
  rw [t3_toks, t3_toks]
  have bl : ∀ {a b : Int} {r t : List (Int ⊕ List Nat)}, a < b → PyProof.Rows.lexLt itemOrd (.inl b :: r) (.inl a :: t) = false := fun {a b r t} h => by
    rw [PyProof.Rows.lex_diff (O := itemOrd) (inl_ne (by omega))]
    show decide (b < a) = false
    exact decide_eq_false (by omega)
  have sl : ∀ {a : Int} {r t : List (Int ⊕ List Nat)}, PyProof.Rows.lexLt itemOrd (.inl a :: r) (.inl a :: t) = PyProof.Rows.lexLt itemOrd r t := fun {a r t} => PyProof.Rows.lex_self (O := itemOrd) _ _ _
  rw [sl]
  rcases h with h | ⟨h0, h | ⟨h1, h⟩⟩
  · exact bl h
  · rw [h0, sl, sl]; exact bl h
  · rw [h0, sl, sl, h1, sl, sl]; exact bl h
theorem ltI_lex {x y : Int × Int} (h : ltI x y = true) : x.1 < y.1 ∨ (x.1 = y.1 ∧ x.2 < y.2) := by
  apply Classical.byContradiction
  intro z
  have e : ltI x y = false := SrtO.lexB_no.mpr (by omega)
  rw [e] at h
  cases h
theorem lines_strict {p : Plan} (h : isPlanM p = true) : (linesM p).Pairwise fun x y => ltI x y = true := by
  obtain ⟨h3, _, _, _, v, _⟩ := plan_facts h
  rw [lines_eq (by omega)]
  unfold allLines
  refine sort_strict (List.nodup_append.mpr ⟨?_, v.nd, fun x hx y hy e => ?_⟩)
  · unfold lawSides
    refine List.nodup_append.mpr ⟨?_, List.pairwise_singleton _ _, fun x hx y hy e => ?_⟩
    · refine List.pairwise_map.mpr ?_
      unfold rng
      refine List.pairwise_map.mpr (List.nodup_range.imp fun {a b} hab => fun e => hab ?_)
      injection e with e _
      omega
    · obtain ⟨l, hl, rfl⟩ := List.mem_map.mp hx
      have hl := rng_mem.mp hl
      rw [List.mem_singleton.mp hy] at e
      injection e with e1 e2
      omega
  · subst e
    have := v.cut x hy
    obtain ⟨a, b⟩ := x
    have h0 : 0 ≤ a ∧ 2 ≤ b - a ∧ b < p.1 ∧ ¬ (a = 0 ∧ b = p.1 - 1) := this
    rcases mem_sides.mp hx with z | z <;> omega
theorem rng_up (a b : Int) : (rng a b).Pairwise (· < ·) := by
  unfold rng
  refine List.pairwise_map.mpr (List.pairwise_lt_range.imp fun {x y} h => ?_)
  omega
theorem parts_up {p : Plan} (h : isPlanM p = true) : (partsM p).Pairwise lt3 := by
  unfold partsM
  refine List.pairwise_flatMap.mpr ⟨fun lm _ => ?_, (lines_strict h).imp fun {x y} hxy a ha b hb => ?_⟩
  · refine List.pairwise_map.mpr (((rng_up _ _).filter _).imp fun {x y} hxy => ?_)
    exact .inr ⟨rfl, .inr ⟨rfl, hxy⟩⟩
  · obtain ⟨c, _, rfl⟩ := List.mem_map.mp ha
    obtain ⟨d, _, rfl⟩ := List.mem_map.mp hb
    rcases ltI_lex hxy with z | ⟨z1, z2⟩
    · exact .inl z
    · exact .inr ⟨z1, .inl z2⟩
theorem parts_sorted {p : Plan} (h : isPlanM p = true) : sortA (partsM p) = partsM p := sortA_of (List.Perm.refl _) ((parts_up h).imp lt3_no)
theorem rng_nodup (a b : Int) : (rng a b).Nodup := (rng_up a b).imp fun h e => by omega
theorem parts_len {p : Plan} (h : isPlanM p = true) : ((partsM p).length : Int) = p.1 - 2 := by
  obtain ⟨h3, _⟩ := plan_facts h
  obtain ⟨A, ca, sa⟩ := tree_of h
  have nd : ((partsM p).map fun t => t.b).Nodup := by
    refine List.pairwise_map.mpr ((parts_up h).imp_of_mem fun {x y} hx hy hxy e => ?_)
    obtain ⟨a, b, c⟩ := x
    obtain ⟨a', b', c'⟩ := y
    have e : b = b' := e
    subst e
    obtain ⟨l1, l2, j1, j2, j3⟩ := (mem_parts h).mp hx
    obtain ⟨k1, k2, i1, i2, i3⟩ := (mem_parts h).mp hy
    have ea : a = a' := by
      rcases Int.lt_trichotomy a a' with q | q | q
      · exact (no_cross h q k1 k2 j1 i2).elim
      · exact q
      · exact (no_cross h q l1 l2 i1 j2).elim
    subst ea
    have hxy : a < a ∨ (a = a ∧ (b < b ∨ (b = b ∧ c < c'))) := hxy
    exact no_cross h l1 l2 (show c < c' by omega) j2 i3
  have pm : ((partsM p).map fun t => t.b).Perm (rng 1 (p.1 - 1)) := (List.perm_ext_iff_of_nodup nd (rng_nodup _ _)).mpr fun b => by
    rw [List.mem_map, rng_mem]
    constructor
    · rintro ⟨⟨a, b', c⟩, hm, rfl⟩
      obtain ⟨l1, l2, j1, j2, j3⟩ := (mem_parts h).mp hm
      have n1 := j1.ne h
      have n3 := j3.ne h
      show 1 ≤ b' ∧ b' < p.1 - 1
      omega
    · rintro ⟨b1, b2⟩
      obtain ⟨a, c, z1, z2, z3, z4, z5, z6, z7⟩ := ca.mids sa (jn_last h) b (by omega) (by omega)
      exact ⟨⟨a, b, c⟩, (mem_parts h).mpr ⟨z2, z3, z5, z7, z6⟩, rfl⟩
  have := pm.length_eq
  rw [List.length_map, rng_len] at this
  omega
end Pf

namespace Pf
open PySem PySem.Spec PyProof.Rows L2
/-! ### the law's dict of lines, both ways, and its places -/
def tied2 (lh : Int × Int) : List ((Int × Int) × Bool) := [((lh.1, lh.2), true), ((lh.2, lh.1), true)]
def tiedD (p : Plan) : Dct (Int × Int) Bool := ⟨putAll ((allLines p).flatMap tied2) []⟩
theorem putAll_nodup {κ α : Type} [DecidableEq κ] : ∀ (ps l : List (κ × α)), (l.map (·.1)).Nodup → ((putAll ps l).map (·.1)).Nodup
  | [], _, h => h
  | x :: ps, l, h => putAll_nodup ps (put l x.1 x.2) (put_nodup h x.1 x.2)
theorem look_tied {p : Plan} (h : isPlanM p = true) (a b : Int) : (look (tiedD p).l (a, b)).isSome = decide (Jn p a b) := by
  obtain ⟨h3, _⟩ := plan_facts h
  have key := look_all ((allLines p).flatMap tied2).length ((allLines p).flatMap tied2) rfl (fun k v v' h1 h2 => by
    obtain ⟨x, _, hx⟩ := List.mem_flatMap.mp h1
    obtain ⟨y, _, hy⟩ := List.mem_flatMap.mp h2
    simp only [tied2, List.mem_cons, List.not_mem_nil, or_false, Prod.mk.injEq] at hx hy
    rcases hx with hx | hx <;> rcases hy with hy | hy <;> rw [hx.2, hy.2])
  have iff : (look (tiedD p).l (a, b)).isSome = true ↔ Jn p a b := by
    rw [Option.isSome_iff_exists]
    constructor
    · rintro ⟨v, hv⟩
      obtain ⟨x, hx, hm⟩ := List.mem_flatMap.mp ((key (a, b) v).mp hv)
      have lt := line_lt h hx
      rw [← lines_eq (by omega)] at hx
      simp only [tied2, List.mem_cons, List.not_mem_nil, or_false, Prod.mk.injEq] at hm
      obtain ⟨x1, x2⟩ := x
      have j : Jn p x1 x2 := (jn_in lt.2.1).mp hx
      rcases hm with ⟨⟨rfl, rfl⟩, _⟩ | ⟨⟨rfl, rfl⟩, _⟩
      · exact j
      · exact j.sym
    · intro j
      have ne := j.ne h
      refine ⟨true, (key (a, b) true).mpr (List.mem_flatMap.mpr ?_)⟩
      rw [← lines_eq (by omega)]
      rcases Int.lt_or_gt_of_ne ne.2.2.2.2 with q | q
      · exact ⟨(a, b), (jn_in q).mpr j, by simp [tied2]⟩
      · exact ⟨(b, a), (jn_in q).mpr j.sym, by simp [tied2]⟩
  by_cases j : Jn p a b
  · rw [decide_eq_true j]; exact iff.mpr j
  · rw [decide_eq_false j]
    cases e : (look (tiedD p).l (a, b)).isSome with
    | false => rfl
    | true => exact absurd (iff.mp e) j
def keysM (p : Plan) : List (Int × Int) := (tiedD p).l.map (·.1)
def spotsM (p : Plan) : List (Int × Int) := sortP (keysM p)
theorem keys_nodup (p : Plan) : (keysM p).Nodup := putAll_nodup _ [] List.nodup_nil
theorem mem_keys {p : Plan} (h : isPlanM p = true) {a b : Int} : (a, b) ∈ keysM p ↔ Jn p a b := by
  unfold keysM
  rw [← look_mem, look_tied h]
  exact decide_eq_true_iff
theorem mem_spots {p : Plan} (h : isPlanM p = true) {a b : Int} : (a, b) ∈ spotsM p ↔ Jn p a b := by
  unfold spotsM
  rw [(sortP_perm _).mem_iff, mem_keys h]
def swapP (x : Int × Int) : Int × Int := (x.2, x.1)
def placesM (p : Plan) : List (Int × Int) := sortP (linesM p ++ (linesM p).map swapP)
theorem lines_nodup {p : Plan} (h : isPlanM p = true) : (linesM p).Nodup := pw_nodup (lines_strict h)
theorem both_perm {p : Plan} (h : isPlanM p = true) : (linesM p ++ (linesM p).map swapP).Perm (keysM p) := by
  obtain ⟨h3, _⟩ := plan_facts h
  have lt : ∀ x ∈ linesM p, x.1 < x.2 := fun x hx => (line_lt h (by rw [← lines_eq (by omega)]; exact hx)).2.1
  refine (List.perm_ext_iff_of_nodup (List.nodup_append.mpr ⟨lines_nodup h, ?_, fun x hx y hy e => ?_⟩) (keys_nodup p)).mpr fun x => ?_
  · refine List.pairwise_map.mpr ((lines_nodup h).imp fun {x y} hxy e => hxy ?_)
    injection e with e1 e2
    exact Prod.ext e2 e1
  · obtain ⟨z, hz, rfl⟩ := List.mem_map.mp hy
    have q1 := lt x hx
    have q2 := lt z hz
    rw [e] at q1
    have q1 : z.2 < z.1 := q1
    omega
  · obtain ⟨a, b⟩ := x
    rw [mem_keys h, List.mem_append]
    constructor
    · rintro (z | z)
      · exact (jn_in (lt _ z)).mp z
      · obtain ⟨⟨u, v⟩, hy, e⟩ := List.mem_map.mp z
        injection e with e1 e2
        have e1 : v = a := e1
        have e2 : u = b := e2
        subst e1 e2
        exact ((jn_in (lt _ hy)).mp hy).sym
    · intro j
      have ne := j.ne h
      rcases Int.lt_or_gt_of_ne ne.2.2.2.2 with q | q
      · exact .inl ((jn_in q).mpr j)
      · exact .inr (List.mem_map.mpr ⟨(b, a), (jn_in q).mpr j.sym, rfl⟩)
theorem places_eq {p : Plan} (h : isPlanM p = true) : placesM p = spotsM p := sortP_perm_eq (both_perm h)
theorem spots_len {p : Plan} (h : isPlanM p = true) : ((spotsM p).length : Int) = 4 * p.1 - 6 := by
  obtain ⟨h3, _⟩ := plan_facts h
  have := (both_perm h).length_eq
  have hl := lines_len h
  rw [← lines_eq (by omega)] at hl
  rw [List.length_append, List.length_map] at this
  unfold spotsM
  rw [sortP_len]
  omega
theorem fm_congr {α β : Type} {f g : α → List β} : ∀ {l : List α}, (∀ x ∈ l, f x = g x) → l.flatMap f = l.flatMap g
  | [], _ => rfl
  | x :: l, h => by rw [List.flatMap_cons, List.flatMap_cons, h x List.mem_cons_self, fm_congr fun y hy => h y (List.mem_cons_of_mem _ hy)]
theorem fm_len {α β : Type} {f : α → List β} {m : Nat} : ∀ {l : List α}, (∀ x ∈ l, (f x).length = m) → (l.flatMap f).length = m * l.length
  | [], _ => rfl
  | x :: l, h => by rw [List.flatMap_cons, List.length_append, h x List.mem_cons_self, fm_len fun y hy => h y (List.mem_cons_of_mem _ hy), List.length_cons, Nat.mul_succ]; omega
/-! the law's parts -/
def lawParts (p : Plan) : List T3 := (allLines p).flatMap fun lm => ((rng (lm.2 + 1) p.1).filter fun c => (look (tiedD p).l (lm.1, c)).isSome && (look (tiedD p).l (lm.2, c)).isSome).map fun c => ⟨lm.1, lm.2, c⟩
theorem lawParts_eq {p : Plan} (h : isPlanM p = true) : lawParts p = partsM p := by
  obtain ⟨h3, _⟩ := plan_facts h
  unfold lawParts partsM
  rw [← lines_eq (by omega)]
  refine fm_congr fun lm hlm => congrArg _ (List.filter_congr fun c hc => ?_)
  have lt := line_lt h (q := lm) (by rw [← lines_eq (by omega)]; exact hlm)
  have hc := rng_mem.mp hc
  rw [look_tied h, look_tied h, decide_eq_decide.mpr (jn_in (p := p) (a := lm.1) (b := c) (by omega)), decide_eq_decide.mpr (jn_in (p := p) (a := lm.2) (b := c) (by omega))]
end Pf

namespace Pf
open PySem PySem.Spec PyProof.Rows L2
/-! ### new lists -/
section
variable {α β γ : Type} [Rep α] [Rep β] [Rep γ] {σ : L2.St} {G H : Hp} {te ta tb : TE} {tt : TT} {x : α} {K : Fg} {D : Ends} {ts tr u : TS}
theorem new_ml {G H G1 H1 : Hp} {p : Addr} {vs : List V} {xs : List α} (g1 : Gr M0 G H G1 H1) (np : H1 p = none) (pa : Paired (rep G1) vs xs) : Gr M0 G H G1 (upd H1 p (.lst vs)) ∧ H p = none ∧ Ml G1 (upd H1 p (.lst vs)) p xs :=
  ⟨g1.mut (.inl (up_none g1.same np)) (up_none g1.i np), up_none g1.same np, up_none g1.i np, vs, upd_same, pa⟩
theorem spL1_sp1 {pre : α → Prop} {f : α → List γ} : ∀ vs H Q E, sp1 pre f vs H Q E → spL1 pre f vs H Q E := fun vs H Q E ⟨v, x, G, e, i, r, hp, k⟩ => ⟨v, x, G, e, i, r, hp, fun p G' H' g np m => by
  obtain ⟨G2, g2, r2, _⟩ := m.frz g np
  exact k _ G2 H' g2 r2⟩
theorem spL2_sp2 {pre : α → β → Prop} {f : α → β → List γ} : ∀ vs H Q E, sp2 pre f vs H Q E → spL2 pre f vs H Q E := fun vs H Q E ⟨v, x, v2, x2, G, e, i, r, r2, hp, k⟩ => ⟨v, x, v2, x2, G, e, i, r, r2, hp, fun p G' H' g np m => by
  obtain ⟨G2, g2, r2, _⟩ := m.frz g np
  exact k _ G2 H' g2 r2⟩
theorem en_sortedP {ps : List (Int × Int)} (ha : Ev ta σ G ps) : EvN (tCB (rSortedPO K) (tCons ta tNil)) σ G (sortP ps) := fun H i Q q => ha H i _ fun v G' H1 g1 k => by
  obtain ⟨a, vs, rfl, h2, h3⟩ := k
  refine ⟨a, vs, keyAt G', rfl, .inl (.inl (g1.i _ _ h2)), fun x hx => ?_, fun ys p hs hb np => ?_⟩
  · obtain ⟨p, hp⟩ := paired_mem h3 x hx
    obtain ⟨e, t, e1, e2⟩ := keyAt_of hp
    exact ⟨t, e1, by rw [e]; exact g1.i _ _ e2⟩
  · have hy : ∀ v ∈ ys, ∃ p : Int × Int, rep G' v p := fun v hv => paired_mem h3 v (hb.perm.mem_iff.mp hv)
    have hm : ys.map (keyAt G') = sortP ps := by
      refine sortP_uniq ?_ (List.pairwise_map.mpr hs)
      rw [← map_keyAt h3]
      exact hb.perm.map _
    obtain ⟨z1, z2, z3⟩ := new_ml (xs := ys.map (keyAt G')) g1 np (paired_keyAt hy)
    rw [hm] at z3
    exact q p G' _ z1 z2 z3
theorem en_catL {xs ys : List α} (ha : Ev ta σ G xs) (hb : Ev tb σ G ys) (hl : xs.length + ys.length ≤ 100000) : EvN (tOp rCat ta tb) σ G (xs ++ ys) := fun H i Q q =>
  ha H i _ fun v G1 H1 g1 k1 => (hb.mono g1.g) H1 g1.i _ fun u G2 H2 g2 k2 => by
    obtain ⟨a, vs, rfl, h2, h3⟩ := Rep.mono g2.g k1
    obtain ⟨b, us, rfl, h4, h5⟩ := k2
    refine ⟨a, b, vs, us, rfl, rfl, g2.i _ _ h2, g2.i _ _ h4, by rw [paired_len h3, paired_len h5]; exact sl_small hl, fun p np => ?_⟩
    obtain ⟨z1, z2, z3⟩ := new_ml (g1.trans g2) np (paired_app h3 h5)
    exact q p G2 _ z1 z2 z3
/-- xs[::-1] -/
theorem ev_revL {xs : List α} (ha : Ev ta σ G xs) : Ev (tRevL K ta) σ G xs.reverse := fun H i Q q => ha H i _ fun v G1 H1 g1 k1 => by
  obtain ⟨a, vs, rfl, h2, h3⟩ := k1
  refine ⟨a, vs, rfl, .inl (.inl (g1.i _ _ h2)), fun p np => ?_⟩
  exact q _ (upd G1 p (.lst vs.reverse)) _ (g1.trans (gr_new g1.i np)) ⟨p, _, rfl, upd_same, paired_mono (gr_new (o := .lst vs.reverse) g1.i np).g (paired_rev h3)⟩
/-! xs.index(x) -/
theorem mt_indexK {X : Cx} (h : X.K = K) : MtR X "list.index" (rIndex K) := h ▸ mt_index
theorem idx_find {x : Int} : ∀ {xs : List Int}, x ∈ xs → xs[xs.idxOf x]? = some x ∧ ∀ m z, m < xs.idxOf x → xs[m]? = some z → z ≠ x
  | y :: ys, h => by
    by_cases e : y = x
    · subst e
      rw [List.idxOf_cons_self]
      exact ⟨rfl, fun m z hm => by omega⟩
    · have hy : x ∈ ys := by
        rcases List.mem_cons.mp h with z | z
        · exact absurd z.symm e
        · exact z
      have ei : (y :: ys).idxOf x = ys.idxOf x + 1 := by rw [List.idxOf_cons, show (y == x) = false from beq_eq_false_iff_ne.mpr e]; rfl
      rw [ei]
      obtain ⟨h1, h2⟩ := idx_find hy
      refine ⟨by rw [List.getElem?_cons_succ]; exact h1, fun m z hm hz => ?_⟩
      cases m with
      | zero => rw [List.getElem?_cons_zero] at hz; cases hz; exact e
      | succ m => rw [List.getElem?_cons_succ] at hz; exact h2 m z (by omega) hz
theorem ev_index {xs : List Int} {y : Int} (ha : Ev ta σ G xs) (hb : Ev tb σ G y) (hm : y ∈ xs) : Ev (tBM K "list" (rIndex K) ta (tCons tb tNil)) σ G ((xs.idxOf y : Nat) : Int) := fun H i Q q =>
  ha H i _ fun v G1 H1 g1 k1 => by
    obtain ⟨a, vs, rfl, h2, h3⟩ := k1
    refine ⟨.inl ⟨rfl, vs, .inl (.inl (g1.i _ _ h2))⟩, (hb.mono g1.g) H1 g1.i _ fun u G2 H2 g2 k2 => ?_⟩
    cases k2
    obtain ⟨f1, f2⟩ := idx_find hm
    have e := paired_ints h3
    subst e
    refine ⟨a, _, .int y, xs.idxOf y, .int y, rfl, rfl, .inl (.inl (g2.i _ _ (g2.g _ _ h2))), rfl, ?_, ?_, ?_, ?_, q _ G2 H2 (g1.trans g2) rfl⟩
    · exact List.all_eq_true.mpr fun z hz => by obtain ⟨k, _, rfl⟩ := List.mem_map.mp hz; rfl
    · rw [List.getElem?_map, f1]; rfl
    · show (y == y) = true; exact beq_self_eq_true y
    · intro m z hm' hz
      rw [List.getElem?_map] at hz
      obtain ⟨k, hk, rfl⟩ := Option.map_eq_some_iff.mp hz
      show (k == y) = false
      exact beq_eq_false_iff_ne.mpr (f2 m k hm' hk)
/-! a list within a list or a pair is changed -/
theorem ty_list {p : Addr} {vs : List V} (h : H p = some (.lst vs)) : tyV K "list" (.ref p) H := .inl ⟨rfl, vs, .inl (.inl h)⟩
theorem st_appAt {to : TE} {p : Addr} {us : List V} (ho : ∀ Q : VK, Q (.ref p) H → to σ H Q) (hp : H p = some (.lst us)) (hl : us.length < 100000) (he : Ev te σ G x) (s : Same G H) (np : G p = none)
    (k : ∀ G' H' o, Gr M0 G H G' H' → Same G' (upd H' p o) → Gr (fun a => a = p) G H G' (upd H' p o) → D.nx σ (upd H' p o)) : tDrop (tBM K "list" rAppend to (tCons te tNil)) D σ H :=
  ho _ ⟨ty_list hp, he H s _ fun v G' H' g r => by
    have e := g.same _ _ hp
    have n' := g.out np hp
    exact ⟨p, us, v, rfl, rfl, e, sl_lt hl, k G' H' _ g (same_mut g.i n') (g.wk.mut (.inr rfl) n')⟩⟩
theorem st_clrAt {to : TE} {p : Addr} {us : List V} (ho : ∀ Q : VK, Q (.ref p) H → to σ H Q) (hp : H p = some (.lst us)) (s : Same G H) (np : G p = none)
    (k : ∀ o, Same G (upd H p o) → Gr (fun a => a = p) G H G (upd H p o) → D.nx σ (upd H p o)) : tDrop (tBM0 K "list" rClear to) D σ H :=
  ho _ ⟨ty_list hp, p, us, rfl, rfl, hp, k _ (same_mut s np) ((Gr.refl s).mut (.inr rfl) np)⟩
theorem at_item {i : Nat} {p0 : Addr} {vs : List V} {n : Nat} {v : V} (hv : σ[i]? = some (some (.ref p0))) (h0 : H p0 = some (.lst vs)) (hn : vs[n]? = some v) : ∀ Q : VK, Q v H → tOp (rIxL K) (tVar i) (tC (.int n)) σ H Q := fun Q q =>
  ⟨.ref p0, hv, p0, vs, n, v, rfl, rfl, .inl (.inl h0), atI_nat hn, q⟩
theorem ev_notInL [DecidableEq α] [DatE α] {xs : List α} {y : α} (ha : Ev ta σ G y) (hb : Ev tb σ G xs) (h : DatE.dp α + 1 ≤ 64) : Ev (tOp (rNotInD K) ta tb) σ G (!decide (y ∈ xs)) :=
  ev2 ha hb fun v u G' _ k1 k2 H i Q q => ⟨dat y, xs.map dat, rd_dp i _ _ (Dat.rd k1), rd_dp i _ _ (Dat.rd k2), shaped_dat y (by omega), shaped_dat xs h, q _ G' H (Gr.refl i) (by rw [any_dat]; rfl)⟩
/-- two new lists in a new list -/
theorem two_rep [Dat α] [Dat β] {p0 p1 p2 : Addr} {xs : List α} {ys : List β} (m1 : Ml G H p1 xs) (m2 : Ml G H p2 ys) (s : Same G H) (np : H p0 = none) :
    ∃ Gf, Same G Gf ∧ Same Gf (upd H p0 (.lst [.ref p1, .ref p2])) ∧ rep Gf (.ref p0) (PyData.list [dat xs, dat ys]) ∧ rep Gf (.ref p1) xs ∧ rep Gf (.ref p2) ys ∧ Gf p0 = some (.lst [.ref p1, .ref p2]) := by
  obtain ⟨o1, e1, s1, i1, r1⟩ := m1.rep s
  obtain ⟨o2, e2, s2, i2, r2⟩ := m2.rep s
  have iu : Same (uni (upd G p1 o1) (upd G p2 o2)) H := uni_i i1 i2
  have n0 := up_none iu np
  have su := same_new (o := .lst [.ref p1, .ref p2]) n0
  have r1' := Rep.mono (uni_l.trans su) r1
  have r2' := Rep.mono ((uni_r i1 i2).trans su) r2
  refine ⟨upd (uni (upd G p1 o1) (upd G p2 o2)) p0 (.lst [.ref p1, .ref p2]), (s1.trans uni_l).trans su, (gr_new iu np).i, ⟨p0, _, rfl, upd_same, _, _, rfl, Dat.rd r1', _, _, rfl, Dat.rd r2', rfl⟩, r1', r2', upd_same⟩
end
end Pf

namespace Pf
open PySem PySem.Spec PyProof.Rows L2
/-! ### a comprehension that draws from the bag -/
section
variable {α β γ : Type} [Rep α] [Rep β] [Rep γ] {σ : L2.St} {G H : Hp} {te ta tb : TE} {tt : TT} {K : Fg} {D : Ends} {ts tr u : TS} {g : TG}
theorem bag_ne {b q : Addr} (bg : Bag G H b) (n : H q = none) : b ≠ q := by
  obtain ⟨_, _, _, _, _, _, eb, _⟩ := bg
  exact ne_of_none eb n
theorem lc_bag {wi : TI} {vs : List Nat} {xs : List α} {R : β → Prop} {b : Addr} {Q : VK} (hx : EvI wi σ G xs) (s : Same G H) (bg : Bag G H b) (hl : xs.length ≤ 100000)
    (hb : ∀ x ∈ xs, ∀ v G1, Same G G1 → rep G1 v x → GB g v (wipe σ vs) G1 fun σ2 => wipe σ2 vs = wipe σ vs ∧ ∀ H Q', Same G1 H → Bag G1 H b → (∀ y v' G' H', R y → Gr (Mb b) G1 H G' H' → Bag G' H' b → rep G' v' y → Q' v' H') → te σ2 H Q')
    (k : ∀ (ys : List β) v G' H', (∀ y ∈ ys, R y) → ys.length = xs.length → Gr (Mb b) G H G' H' → Bag G' H' b → rep G' v ys → Q v H') : tLc wi g tYes te vs σ H Q := by
  refine hx H s _ fun J G1 H1 g1 ok D nD => ?_
  have bg1 := bg.step0 g1
  have nG : G1 D = none := up_none g1.i nD
  have hne := bag_ne bg1 nD
  refine ⟨fun k m H => m = xs.length - k ∧ k ≤ xs.length ∧ ∃ (Gk : Hp) (ys : List β), Gr (Mb b) G1 H1 Gk H ∧ Bag Gk H b ∧ Ml Gk H D ys ∧ ys.length = k ∧ ∀ y ∈ ys, R y, ⟨_, rfl, Nat.zero_le _, G1, [], (Gr.refl g1.i).mut (.inl nD) nG, bg1.other hne, ⟨nG, [], upd_same, .nil⟩, rfl, fun _ h => nomatch h⟩, ?_⟩
  rintro n m H2 ⟨rfl, hk, Gk, ys, gk, bk, ml, hy, hR⟩
  by_cases hlt : n < xs.length
  · refine .inr ⟨ok.go n H2 (gk.g.trans gk.i) hlt, fun H' => ∃ (Gk : Hp) (ys : List β), Gr (Mb b) G1 H1 Gk H' ∧ Bag Gk H' b ∧ Ml Gk H' D ys ∧ ys.length = n + 1 ∧ ∀ y ∈ ys, R y, fun H' h' => ⟨xs.length - (n + 1), by omega, rfl, hlt, h'⟩, fun v H3 yl => ?_⟩
    have hxk : xs[n]? = some xs[n] := List.getElem?_eq_getElem hlt
    obtain ⟨G3, g3, r3⟩ := ok.yld n H2 v H3 Gk xs[n] gk.g gk.i yl hxk
    have bk3 := bk.step0 g3
    have g13 : Gr (Mb b) G1 H1 G3 H3 := gk.trans g3.wk fun a e => .inl (by cases e; exact bk3.1)
    refine hb xs[n] (List.getElem_mem hlt) v G3 (g1.g.trans g13.g) r3 H3 g3.i _ fun σ2 ⟨hw, he⟩ => ⟨hw, ?_⟩
    show te σ2 H3 _
    refine he H3 _ g3.i bk3 fun y v' G5 H5 hy5 g5 b5 r5 => ?_
    have ml5 := (ml.step0 g3).step g5 (fun e => hne e.symm)
    obtain ⟨n5, acc, e5, p5⟩ := ml5
    have g15 : Gr (Mb b) G1 H1 G5 H5 := g13.trans g5 fun a e => .inl (by cases e; exact b5.1)
    refine ⟨acc, e5, sl_lt (by rw [paired_len p5]; omega), G5, ys ++ [y], g15.mut (.inl nD) n5, b5.other hne, ⟨n5, acc ++ [v'], upd_same, paired_app p5 (.cons r5 .nil)⟩, by rw [List.length_append]; show ys.length + 1 = n + 1; omega, fun z hz => ?_⟩
    rcases List.mem_append.mp hz with hz | hz
    · exact hR z hz
    · rw [List.mem_singleton.mp hz]; exact hy5
  · have e : n = xs.length := by omega
    obtain ⟨n5, acc, e5, p5⟩ := ml
    have sn := same_new (o := HO.lst acc) n5
    have bk' : Bag (upd Gk D (.lst acc)) H2 b := bk.up sn (by rw [upd_ne hne]; exact bk.1)
    refine .inl ⟨ok.stop n H2 (gk.g.trans gk.i) (by omega), k ys _ (upd Gk D (.lst acc)) H2 hR (by omega) (g1.wk.trans (gk.still nD n5 e5) fun a e => .inl (by cases e; exact bk'.1)) bk' ⟨D, acc, rfl, upd_same, paired_mono sn p5⟩⟩
/-- a place drawn -/
def spSpot : Sp := fun vs H Q _ => ∃ (b : Addr) (v : V) (p : Plan) (G : Hp), vs = [.ref b, v] ∧ Same G H ∧ Bag G H b ∧ rep G v p ∧ isPlanM p = true ∧ ∀ t u v' G' H', Jn p t u → Gr (Mb b) G H G' H' → Bag G' H' b → rep G' v' (t, u) → Q v' H'
theorem rd_spot {i j : Nat} {b : Addr} {v : V} {p : Plan} {E : XK} {Q : VK} (hv : σ[i]? = some (some (.ref b))) (hw : σ[j]? = some (some v)) (s : Same G H) (bg : Bag G H b) (r : rep G v p) (hp : isPlanM p = true)
    (k : ∀ t u v' G' H', Jn p t u → Gr (Mb b) G H G' H' → Bag G' H' b → rep G' v' (t, u) → Q v' H') : tCall spSpot [] E0 (tCons (tVar i) (tCons (tVar j) tNil)) σ H Q :=
  ⟨.ref b, hv, v, hw, b, v, p, G, rfl, s, bg, r, hp, k⟩
end
/-! ### fans -/
theorem mem_fan {p : Plan} (h : isPlanM p = true) {f c : Int} (hf : 0 ≤ f ∧ f < p.1) : c ∈ fanM p f ↔ Jn p f c := by
  obtain ⟨h3, _⟩ := plan_facts h
  unfold fanM
  rw [List.map_id', List.mem_filter, decide_eq_true_iff]
  constructor
  · exact fun z => z.2
  · intro j
    refine ⟨List.mem_map.mpr ?_, j⟩
    have ne := j.ne h
    refine ⟨if c < f then c + p.1 - f else c - f, rng_mem.mpr ?_, ?_⟩
    · split <;> omega
    · split
      · rw [show f + (c + p.1 - f) = c + p.1 by omega, Int.add_emod_right, Int.emod_eq_of_lt (by omega) (by omega)]
      · rw [show f + (c - f) = c by omega, Int.emod_eq_of_lt (by omega) (by omega)]
theorem jn_next {p : Plan} (h : isPlanM p = true) {f : Int} (hf : 0 ≤ f ∧ f < p.1) : Jn p f ((f + 1) % p.1) := by
  obtain ⟨h3, _⟩ := plan_facts h
  rw [wrap (by omega) (by omega)]
  split
  · exact jn_side h (by omega) (by omega) rfl
  · have e : f = p.1 - 1 := by omega
    subst e
    rw [show p.1 - 1 + 1 - p.1 = 0 by omega]
    exact (jn_last h).sym
theorem fan_nodup {p : Plan} (h : isPlanM p = true) {f : Int} (hf : 0 ≤ f ∧ f < p.1) : (fanM p f).Nodup := by
  obtain ⟨h3, _⟩ := plan_facts h
  unfold fanM
  rw [List.map_id']
  refine List.Pairwise.filter _ (List.pairwise_map.mpr ((rng_nodup 1 p.1).imp_of_mem fun {a b} ha hb hab e => hab ?_))
  have ha := rng_mem.mp ha
  have hb := rng_mem.mp hb
  rw [wrap (by omega) (by omega), wrap (by omega) (by omega)] at e
  split at e <;> split at e <;> omega
theorem rng_cons {a b : Int} (h : a < b) : rng a b = a :: rng (a + 1) b := by
  unfold rng
  rw [show (b - a).toNat = (b - (a + 1)).toNat + 1 by omega, List.range_succ_eq_map, List.map_cons, List.map_map]
  congr 1
  · show a + ((0 : Nat) : Int) = a; omega
  · refine List.map_congr_left fun k _ => ?_
    show a + ((k + 1 : Nat) : Int) = a + 1 + (k : Int)
    omega
theorem fan_head {p : Plan} (h : isPlanM p = true) {f : Int} (hf : 0 ≤ f ∧ f < p.1) : (fanM p f).idxOf ((f + 1) % p.1) = 0 := by
  obtain ⟨h3, _⟩ := plan_facts h
  unfold fanM
  rw [List.map_id', rng_cons (by omega), List.map_cons, List.filter_cons, if_pos (decide_eq_true (show lawPair f ((f + 1) % p.1) ∈ linesM p from jn_next h hf)), List.idxOf_cons_self]
theorem fan_last {p : Plan} (h : isPlanM p = true) {f c : Int} (hc : 0 ≤ c ∧ c < p.1) (e : (c + 1) % p.1 = f) : (fanM p f).idxOf c + 1 = (fanM p f).length := by
  obtain ⟨h3, _⟩ := plan_facts h
  have hf : 0 ≤ f ∧ f < p.1 := by rw [wrap (by omega) (by omega)] at e; split at e <;> omega
  have nd := fan_nodup h hf
  have ex : fanM p f = (((rng 1 (p.1 - 1)).map fun s => (f + s) % p.1).filter fun c => decide (lawPair f c ∈ linesM p)) ++ [c] := by
    have z := rng_snoc (a := 1) (b := p.1 - 1) (by omega)
    rw [show p.1 - 1 + 1 = p.1 by omega] at z
    unfold fanM
    rw [List.map_id', z, List.map_append, List.filter_append]
    congr 1
    have ec : (f + (p.1 - 1)) % p.1 = c := by
      rw [wrap (by omega) (by omega)] at e ⊢
      split at e <;> split <;> omega
    have jc : Jn p f c := by
      have := jn_next h hc
      rw [e] at this
      exact this.sym
    show List.filter _ [(f + (p.1 - 1)) % p.1] = [c]
    rw [ec, List.filter_cons, if_pos (decide_eq_true (show lawPair f c ∈ linesM p from jc))]
    rfl
  rw [ex] at nd ⊢
  have hn : c ∉ ((rng 1 (p.1 - 1)).map fun s => (f + s) % p.1).filter fun c => decide (lawPair f c ∈ linesM p) := fun hm => (List.nodup_append.mp nd).2.2 c hm c (List.mem_singleton.mpr rfl) rfl
  rw [List.idxOf_append, if_neg hn, List.idxOf_cons_self, List.length_append]
  show 0 + _ + 1 = _ + 1
  omega
def middlesM (p : Plan) (s : Int × Int) : Int × Int := ((((fanM p s.1).idxOf s.2 : Nat) : Int) % 3, (((fanM p s.1).idxOf s.2 : Nat) - (((fanM p s.1).length : Nat) - 1 : Int)) % 3)
end Pf

namespace Pf
open PySem PySem.Spec PyProof.Rows L2
section
variable {α β γ : Type} [Rep α] [Rep β] [Rep γ] {σ : L2.St} {G H : Hp} {te ta tb : TE} {tt : TT} {K : Fg} {D : Ends} {ts tr u : TS} {g : TG} {x : α}
/-- list(range(n)) -/
theorem rgV_rng (n : Int) : rgV 0 n = (rng 0 n).map V.int := by unfold rgV rng; rw [List.map_map]; rfl
theorem ev_listRg {n : Int} (ha : Ev ta σ G n) (h : -(2 ^ 20) ≤ n ∧ n ≤ 2 ^ 20) : Ev (tLstRg (tRg1 ta)) σ G (rng 0 n) := fun H i Q q => ha H i _ fun v G1 H1 g1 k1 => by
  refine ⟨n, k1, ⟨by decide, by decide, by omega, by omega, by omega⟩, fun p np => ?_⟩
  exact q _ (upd G1 p (.lst (rgV 0 n))) _ (g1.trans (gr_new g1.i np)) ⟨p, _, rfl, upd_same, by rw [rgV_rng]; exact paired_of_ints _⟩
/-- sorted(whole numbers) -/
theorem le_uniq : ∀ {l m : List Int}, l.Perm m → l.Pairwise (· ≤ ·) → m.Pairwise (· ≤ ·) → l = m
  | [], m, p, _, _ => (List.Perm.nil_eq p)
  | x :: l, [], p, _, _ => (List.Perm.eq_nil p)
  | x :: l, y :: m, p, h1, h2 => by
    have hx : x ∈ y :: m := p.mem_iff.mp List.mem_cons_self
    have hy : y ∈ x :: l := p.mem_iff.mpr List.mem_cons_self
    have e : x = y := by
      have a : y ≤ x := by
        rcases List.mem_cons.mp hx with z | z
        · omega
        · exact (List.pairwise_cons.mp h2).1 x z
      have b : x ≤ y := by
        rcases List.mem_cons.mp hy with z | z
        · omega
        · exact (List.pairwise_cons.mp h1).1 y z
      omega
    subst e
    rw [le_uniq (List.Perm.cons_inv p) (List.pairwise_cons.mp h1).2 (List.pairwise_cons.mp h2).2]
theorem ev_sortedI {xs ys : List Int} (ha : Ev ta σ G xs) (hp : ys.Perm xs) (hs : ys.Pairwise (· ≤ ·)) : Ev (tCB (rSortedI K) (tCons ta tNil)) σ G ys := ev_B1 ha fun v G' H _ i k Q q => by
  obtain ⟨a, vs, rfl, h2, h3⟩ := k
  rw [paired_ints h3] at h2
  refine ⟨a, xs, rfl, .inl (.inl (i _ _ h2)), fun ns p pm pw np => ?_⟩
  have e : ns = ys := le_uniq (pm.trans hp.symm) pw hs
  subst e
  exact q _ (upd G' p (.lst (ns.map V.int))) _ (gr_new i np) ⟨p, _, rfl, upd_same, paired_of_ints _⟩
theorem en_lc {wi : TI} {vs : List Nat} {xs : List α} {f : α → β} (hx : EvI wi σ G xs) (hl : xs.length ≤ 100000)
    (hb : ∀ x ∈ xs, ∀ v G1, Same G G1 → rep G1 v x → GB g v (wipe σ vs) G1 fun σ2 => wipe σ2 vs = wipe σ vs ∧ Ev te σ2 G1 (f x)) : EvN (tLc wi g tYes te vs) σ G (xs.map f) := by
  have h := en_lcf (σ := σ) (G := G) (g := g) (tt := tYes) (te := te) (vs := vs) (p := fun _ => true) (f := f) hx hl fun x hx v G1 s r H i Q q => hb x hx v G1 s r H i Q fun σ2 ⟨h1, h2⟩ => q σ2 ⟨h1, et_yes, fun _ => h2⟩
  rw [List.filter_eq_self.mpr (fun _ _ => rfl)] at h
  exact h
/-- two new lists in a new pair -/
theorem pair_rep {t p1 p2 : Addr} {xs : List α} {ys : List β} (m1 : Ml G H p1 xs) (m2 : Ml G H p2 ys) (s : Same G H) (nt : G t = none) (et : H t = some (.tup [.ref p1, .ref p2])) :
    ∃ Gf, Same G Gf ∧ Same Gf H ∧ rep Gf (.ref t) (xs, ys) := by
  obtain ⟨o1, e1, s1, i1, r1⟩ := m1.rep s
  obtain ⟨o2, e2, s2, i2, r2⟩ := m2.rep s
  have iu : Same (uni (upd G p1 o1) (upd G p2 o2)) H := uni_i i1 i2
  have nt' : uni (upd G p1 o1) (upd G p2 o2) t = none := by
    cases q : uni (upd G p1 o1) (upd G p2 o2) t with
    | none => rfl
    | some o =>
      exfalso
      obtain ⟨_, vs1, z1, _⟩ := m1
      obtain ⟨_, vs2, z2, _⟩ := m2
      rcases uni_c q with z | z
      · by_cases c : t = p1
        · subst c; rw [et] at z1; cases z1
        · rw [upd_ne c, nt] at z; cases z
      · by_cases c : t = p2
        · subst c; rw [et] at z2; cases z2
        · rw [upd_ne c, nt] at z; cases z
  have su := same_new (o := .tup [.ref p1, .ref p2]) nt'
  exact ⟨upd (uni (upd G p1 o1) (upd G p2 o2)) t (.tup [.ref p1, .ref p2]), (s1.trans uni_l).trans su, same_still iu et, t, _, _, rfl, upd_same, Rep.mono (uni_l.trans su) r1, Rep.mono ((uni_r i1 i2).trans su) r2⟩
theorem at_itemT {i : Nat} {p0 : Addr} {vs : List V} {n : Nat} {v : V} (hv : σ[i]? = some (some (.ref p0))) (h0 : H p0 = some (.tup vs)) (hn : vs[n]? = some v) : ∀ Q : VK, Q v H → tOp (rIxT K) (tVar i) (tC (.int n)) σ H Q := fun Q q =>
  ⟨.ref p0, hv, p0, vs, n, v, rfl, rfl, .inl (.inl h0), atI_nat hn, q⟩
/-- two stacks -/
def spPL2 (pre : α → β → Prop) {δ ε : Type} [Rep δ] [Rep ε] (f : α → β → List δ) (h : α → β → List ε) : Sp := fun vs H Q _ => ∃ v x v2 x2 G, vs = [v, v2] ∧ Same G H ∧ rep G v x ∧ rep G v2 x2 ∧ pre x x2 ∧
  ∀ t p1 p2 G' H', Gr M0 G H G' H' → p1 ≠ p2 → Ml G' H' p1 (f x x2) → Ml G' H' p2 (h x x2) → G' t = none → H t = none → H' t = some (.tup [.ref p1, .ref p2]) → H p1 = none → H p2 = none → Q (.ref t) H'
end
theorem getLastD_snoc {α : Type} (l : List α) (x d : α) : (l ++ [x]).getLastD d = x := by rw [List.getLastD_eq_getLast?, List.getLast?_concat]; rfl
/-! ### arcs -/
def arc (n s e : Int) : List Int := (rng 0 ((e - s) % n)).map fun k => (s + k) % n
theorem arc_go {n s e : Int} (hs : 0 ≤ s ∧ s < n) (he : 0 ≤ e ∧ e < n) (ne : s ≠ e) : arc n s e = s :: goM n s e := by
  unfold arc goM
  have h : 0 < (e - s) % n := by rw [wrapN (by omega) (by omega)]; split <;> omega
  rw [rng_cons h, List.map_cons]
  congr 1
  rw [Int.add_zero, Int.emod_eq_of_lt (by omega) (by omega)]
theorem mem_arc {n s e c : Int} (hs : 0 ≤ s ∧ s < n) (he : 0 ≤ e ∧ e < n) (ne : s ≠ e) : c ∈ arc n s e ↔ 0 ≤ c ∧ c < n ∧ (c = s ∨ Cy s c e) := by
  rw [arc_go hs he ne, List.mem_cons, mem_go hs he ne]
  constructor
  · rintro (z | z)
    · exact ⟨by omega, by omega, .inl z⟩
    · exact ⟨z.1, z.2.1, .inr z.2.2⟩
  · rintro ⟨h0, h1, z | z⟩
    · exact .inl z
    · exact .inr ⟨h0, h1, z⟩
theorem arc_nodup {n s e : Int} (hs : 0 ≤ s ∧ s < n) : (arc n s e).Nodup := by
  unfold arc
  refine List.pairwise_map.mpr ((rng_nodup 0 _).imp_of_mem fun {a b} ha hb hab z => hab ?_)
  have ha := rng_mem.mp ha
  have hb := rng_mem.mp hb
  have hm := Int.emod_lt_of_pos (e - s) (show 0 < n by omega)
  rw [wrap (by omega) (by omega), wrap (by omega) (by omega)] at z
  split at z <;> split at z <;> omega
theorem arc_len {n s e : Int} : (arc n s e).length = ((e - s) % n).toNat := by unfold arc; rw [List.length_map, rng_len, Int.sub_zero]
theorem arcs_perm {n t u : Int} (ht : 0 ≤ t ∧ t < n) (hu : 0 ≤ u ∧ u < n) (ne : t ≠ u) : (rng 0 n).Perm (arc n t u ++ (arc n u t).reverse) := by
  refine (List.perm_ext_iff_of_nodup (rng_nodup _ _) (List.nodup_append.mpr ⟨arc_nodup ht, (arc n u t).reverse_perm.nodup_iff.mpr (arc_nodup hu), fun a ha b hb e => ?_⟩)).mpr fun c => ?_
  · subst e
    have h1 := (mem_arc ht hu ne).mp ha
    have h2 := (mem_arc hu ht ne.symm).mp (List.mem_reverse.mp hb)
    unfold Cy at h1 h2
    omega
  · rw [rng_mem, List.mem_append, List.mem_reverse, mem_arc ht hu ne, mem_arc hu ht ne.symm]
    unfold Cy
    constructor
    · intro h; omega
    · intro h; omega
theorem rng_rev (m : Int) : (rng 0 m).reverse = (rng 0 m).map fun s => m - 1 - s := by
  apply List.ext_getElem?
  intro k
  by_cases h : k < m.toNat
  · rw [List.getElem?_reverse (by rw [rng_len]; omega), rng_len, List.getElem?_map, rng_at (by omega), rng_at (by omega)]
    show some (0 + (((m - 0).toNat - 1 - k : Nat) : Int)) = some (m - 1 - (0 + (k : Int)))
    congr 1
    omega
  · rw [List.getElem?_eq_none (by rw [List.length_reverse, rng_len]; omega), List.getElem?_eq_none (by rw [List.length_map, rng_len]; omega)]
def oddM (n t u : Int) : List Int := (rng 0 ((t - u) % n)).map fun s => (t - 1 - s) % n
theorem odd_eq {n t u : Int} (ht : 0 ≤ t ∧ t < n) (hu : 0 ≤ u ∧ u < n) (ne : t ≠ u) : oddM n t u = (arc n u t).reverse := by
  unfold oddM arc
  rw [← List.map_reverse, rng_rev, List.map_map]
  refine List.map_congr_left fun s hs => ?_
  have hs := rng_mem.mp hs
  show (t - 1 - s) % n = (u + ((t - u) % n - 1 - s)) % n
  have e : (t - u) % n = t - u ∨ (t - u) % n = t - u + n := by rw [wrapN (by omega) (by omega)]; split <;> omega
  rcases e with e | e
  · rw [e]; congr 1; omega
  · rw [e, ← Int.add_emod_right]; congr 1; omega
theorem odd_head {n t u : Int} (ht : 0 ≤ t ∧ t < n) (hu : 0 ≤ u ∧ u < n) (ne : t ≠ u) : ix (oddM n t u) 0 = (t - 1) % n := by
  unfold oddM
  have h : 0 < (t - u) % n := by rw [wrapN (by omega) (by omega)]; split <;> omega
  rw [rng_cons h, List.map_cons]
  show (t - 1 - 0) % n = _
  rw [Int.sub_zero]
theorem odd_last {n t u : Int} (ht : 0 ≤ t ∧ t < n) (hu : 0 ≤ u ∧ u < n) (ne : t ≠ u) : (oddM n t u).getLastD default = u := by
  rw [odd_eq ht hu ne, arc_go hu ht ne.symm, List.reverse_cons, getLastD_snoc]
theorem even_last {n t u : Int} (ht : 0 ≤ t ∧ t < n) (hu : 0 ≤ u ∧ u < n) (ne : t ≠ u) : (arc n t u).getLastD default = (u - 1) % n := by
  have h : 0 < (u - t) % n := by rw [wrapN (by omega) (by omega)]; split <;> omega
  have z := rng_snoc (a := 0) (b := (u - t) % n - 1) (by omega)
  rw [show (u - t) % n - 1 + 1 = (u - t) % n by omega] at z
  unfold arc
  rw [z, List.map_append, List.map_singleton, getLastD_snoc]
  have e : (u - t) % n = u - t ∨ (u - t) % n = u - t + n := by rw [wrapN (by omega) (by omega)]; split <;> omega
  rcases e with e | e
  · rw [e]; congr 1; omega
  · rw [e, ← Int.add_emod_right (u - 1)]; congr 1; omega
theorem up_one {n t : Int} (ht : 0 ≤ t ∧ t < n) : ((t - 1) % n + 1) % n = t := by
  rw [wrapN (x := t - 1) (by omega) (by omega)]
  split
  · rw [show t - 1 + n + 1 = t + n by omega, Int.add_emod_right, Int.emod_eq_of_lt ht.1 ht.2]
  · rw [show t - 1 + 1 = t by omega, Int.emod_eq_of_lt ht.1 ht.2]
end Pf

namespace Pf
open PySem PySem.Spec PyProof.Rows L2
/-! ### how many a set has -/
def rLenP (P : Program) (w : World) : List V → Hp → VK → Prop := fun xs H Q => ∃ (a : Addr) (L : Rows), xs = [.ref a] ∧ H a = some (PstO P w a L) ∧ ((L.map fun r => r.2).Nodup → Q (.int (L.length : Nat)) H)
theorem call_lenP {X : Cx} {P : Program} {w : World} (eP : X.prog = P) (ew : X.w = w) : CallR X (.builtin "len") (rLenP P w) := by
  subst eP ew
  intro pins s σ H xs us Q I r h
  obtain ⟨a, L, rfl, ha, q⟩ := h
  rw [Vals.ref1 r]
  obtain ⟨es, ep, t, ⟨o, ho, hex, hd⟩, h2, h3, h4, h5, h6, h7, h8, h9⟩ := (I.hok a _ ha).1
  have hl : es.size = L.length := rows_len h2
  have hf : t.fits es.size = true := by
    have z1 : t.place.size = L.length := by simpa using h3.size
    unfold SetTable.fits SetTable.fill
    simp only [h3.clean, Bool.and_eq_true, beq_iff_eq, decide_eq_true_eq]
    exact ⟨by omega, show t.place.size + 0 ≤ t.mask by omega⟩
  exact call_len_set ho hex hd hf (by omega) ⟨.int (L.length : Nat), H, I.tok _, ⟨_, by rw [hl]⟩, q h4⟩
theorem ev_lenP {P : Program} {w : World} {σ : L2.St} {G : Hp} {ta : TE} {xs : List (Int × Int)} (ha : Ev ta σ G (PSet.mk xs : PSet P w)) (nd : xs.Nodup) : Ev (tCB (rLenP P w) (tCons ta tNil)) σ G (xs.length : Int) := ev_B1 ha fun v G' H _ i k Q q => by
  obtain ⟨a, L, rfl, e1, e2, e3, e4⟩ := k
  refine ⟨a, L, rfl, i _ _ e1, fun hn => ?_⟩
  have pm : (L.map fun r => r.2).Perm (xs.map fun q => [q.1, q.2]) := (List.perm_ext_iff_of_nodup hn (List.pairwise_map.mpr (nd.imp fun {x y} h e => h (by
    injection e with h1 h2
    injection h2 with h2 _
    exact Prod.ext h1 h2)))).mpr fun l => by
    constructor
    · intro hl
      obtain ⟨p, hp, rfl⟩ := List.mem_map.mp hl
      obtain ⟨y, ey⟩ := e4 p hp
      rw [ey] at hl ⊢
      exact List.mem_map.mpr ⟨y, (e3 y).mp hl, rfl⟩
    · intro hl
      obtain ⟨y, hy, rfl⟩ := List.mem_map.mp hl
      exact (e3 y).mpr hy
  have hl := pm.length_eq
  rw [List.length_map, List.length_map] at hl
  rw [hl]
  exact q _ G' H (Gr.refl i) rfl
theorem g3 {α β γ : Type} [Rep α] [Rep β] [Rep γ] {K : Fg} {σ : L2.St} {G H : Hp} {v : V} {x : Tri α β γ} {i j l : Nat} {Q : L2.St → Hp → Prop} (r : rep G v x) (s : Same G H) (h : ∀ u w z, rep G u x.a → rep G w x.b → rep G z x.c → Q (((σ.set i (some u)).set j (some w)).set l (some z)) H) : gTup K 3 (gCons (gName i) (gCons (gName j) (gCons (gName l) gNil))) v σ H Q := by
  obtain ⟨a, u, w, z, rfl, h2, h3, h4, h5⟩ := r
  exact ⟨a, [u, w, z], rfl, .inl (.inl (s _ _ h2)), rfl, u, [w, z], rfl, w, [z], rfl, z, [], rfl, rfl, h u w z h3 h4 h5⟩
/-! ### a way among texts -/
section
variable {σ : L2.St} {G H : Hp} {ta tb : TE} {K : Fg}
theorem inV_strs (x : Str) : ∀ ys : List Str, inV (.str x) (ys.map V.str) = decide (x ∈ ys)
  | [] => rfl
  | y :: ys => by
    have ih := inV_strs x ys
    unfold inV at ih ⊢
    rw [List.map_cons, List.any_cons, ih]
    show ((y == x) || decide (x ∈ ys)) = decide (x ∈ y :: ys)
    by_cases h : y = x
    · subst h
      rw [beq_self_eq_true, decide_eq_true List.mem_cons_self]; rfl
    · rw [beq_eq_false_iff_ne.mpr h, Bool.false_or]
      exact decide_eq_decide.mpr ⟨List.mem_cons_of_mem _, fun z => (List.mem_cons.mp z).resolve_left fun e => h e.symm⟩
theorem strs_flat (ys : List Str) : (ys.map V.str).all flatV = true := List.all_eq_true.mpr fun v hv => by obtain ⟨y, _, rfl⟩ := List.mem_map.mp hv; rfl
theorem ev_notInS {x : Str} {ys : List Str} {a : Addr} (ha : Ev ta σ G x) (hS : ∀ H, SqT K H a (ys.map V.str)) : Ev (tOp (rIn K true) ta (tC (.ref a))) σ G (!decide (x ∈ ys)) := fun H i Q q => ha H i _ fun v G1 H1 g1 k1 => by
  cases k1
  exact ⟨a, ys.map V.str, rfl, .inr (hS H1), rfl, strs_flat ys, q _ G1 H1 g1 (by rw [inV_strs]; rfl)⟩
theorem ev_inS {x : Str} {ys : List Str} {a : Addr} (ha : Ev ta σ G x) (hS : ∀ H, SqT K H a (ys.map V.str)) : Ev (tOp (rIn K false) ta (tC (.ref a))) σ G (decide (x ∈ ys)) := fun H i Q q => ha H i _ fun v G1 H1 g1 k1 => by
  cases k1
  exact ⟨a, ys.map V.str, rfl, .inr (hS H1), rfl, strs_flat ys, q _ G1 H1 g1 (by rw [inV_strs]; rfl)⟩
end
/-! ### pinches -/
abbrev sE : Str := "even"
abbrev sO : Str := "odd"
abbrev sP : Str := "pinch"
def cornerM (d : Dct (Int × Int) Int) (s : Int × Int) (way : Str) : Option Int := if way = sE then look d.l s else look d.l (swapP s)
def thW (p : Plan) (s : Int × Int) (way : Str) : Option Int := if way = sE then thM p s.1 s.2 else thM p s.2 s.1
theorem corner_th {p : Plan} (h : isPlanM p = true) {s : Int × Int} (j : Jn p s.1 s.2) (way : Str) : cornerM (thirdsM p) s way = thW p s way := by
  unfold cornerM thW
  split
  · exact look_th h j
  · exact look_th h j.sym
def behindM (s : Int × Int) (word : Str) (c : Int) : Int × Int := if word = sP then (c, s.1) else (s.2, c)
def goneM (p : Plan) (s : Int × Int) (word way : Str) : Int × Int := behindM s word ((thW p s way).getD 0)
def otherW (way : Str) : Str := if way = sE then sO else sE
theorem th_some {p : Plan} (h : isPlanM p = true) {s : Int × Int} {way : Str} {c : Int} (j : Jn p s.1 s.2) : thW p s way = some c ↔ (way = sE ∧ Tr p s.1 c s.2) ∨ (way ≠ sE ∧ Tr p s.2 c s.1) := by
  unfold thW
  by_cases e : way = sE
  · rw [if_pos e, th_iff h j]
    exact ⟨fun t => .inl ⟨e, t⟩, fun z => z.elim (fun z => z.2) (fun z => absurd e z.1)⟩
  · rw [if_neg e, th_iff h j.sym]
    exact ⟨fun t => .inr ⟨e, t⟩, fun z => z.elim (fun z => absurd z.1 e) (fun z => z.2)⟩
theorem other_ne {way : Str} (e : way ≠ sE) : otherW way = sE := if_neg e
theorem other_e : otherW sE = sO := if_pos rfl
/-- what a pinch and an unpinch lead to -/
structure Pin (p : Plan) (s : Int × Int) (way : Str) (c : Int) : Prop where
  j1 : Jn p c s.1
  j2 : Jn p s.2 c
  t1 : thW p (c, s.1) way = some s.2
  t2 : thW p (s.2, c) way = some s.1
  t3 : thW p (swapP s) (otherW way) = some c
  ne : c ≠ s.1 ∧ c ≠ s.2
theorem pin_of {p : Plan} (h : isPlanM p = true) {s : Int × Int} {way : Str} {c : Int} (j : Jn p s.1 s.2) (e : thW p s way = some c) : Pin p s way c := by
  rcases (th_some h j).mp e with ⟨rfl, t⟩ | ⟨hw, t⟩
  · have n1 := t.sv.ne h
    have n2 := t.ve.ne h
    exact ⟨t.sv.sym, t.ve.sym, (th_some h (s := (c, s.1)) t.sv.sym).mpr (.inl ⟨rfl, t.rot⟩), (th_some h (s := (s.2, c)) t.ve.sym).mpr (.inl ⟨rfl, t.rot.rot⟩), by rw [other_e]; exact (th_some h (s := swapP s) j.sym).mpr (.inr ⟨by decide, t⟩), by omega⟩
  · have n1 := t.sv.ne h
    have n2 := t.ve.ne h
    exact ⟨t.ve, t.sv, (th_some h (s := (c, s.1)) t.ve).mpr (.inr ⟨hw, t.rot.rot⟩), (th_some h (s := (s.2, c)) t.sv).mpr (.inr ⟨hw, t.rot⟩), by rw [other_ne hw]; exact (th_some h (s := swapP s) j.sym).mpr (.inl ⟨rfl, t⟩), by omega⟩
theorem gone_p {p : Plan} {s : Int × Int} {way : Str} {c : Int} (e : thW p s way = some c) : goneM p s sP way = (c, s.1) := by unfold goneM behindM; rw [e, if_pos rfl]; rfl
theorem gone_u {p : Plan} {s : Int × Int} {way : Str} {c : Int} (e : thW p s way = some c) : goneM p s "unpinch" way = (s.2, c) := by unfold goneM behindM; rw [e, if_neg (by decide)]; rfl
theorem lp_ne {a b c d : Int} (h : ¬ (a = c ∧ b = d)) (h2 : ¬ (a = d ∧ b = c)) : lawPair a b ≠ lawPair c d := by
  rcases lp_cases a b with ⟨e, _⟩ | ⟨e, _⟩ <;> rcases lp_cases c d with ⟨f, _⟩ | ⟨f, _⟩ <;> rw [e, f] <;> intro z <;> injection z with z1 z2 <;> omega
abbrev rNotN : R2 := fun x y H Q => y = .non ∧ Q (.bl (!decide (x = .non))) H
theorem ev_notON {σ : L2.St} {G : Hp} {ta : TE} {o : Option Int} (h : Ev ta σ G o) : Ev (tOp rNotN ta (tC .non)) σ G o.isSome := fun H i Q q => h H i _ fun v G' H' g r => ⟨rfl, q _ G' H' g (by
  cases o with
  | none => rw [rep_on r]; rfl
  | some i => rw [rep_os r]; rfl)⟩
end Pf

namespace Pf
open PySem PySem.Spec PyProof.Rows L2
theorem st_reverse {α : Type} [Rep α] {σ : L2.St} {G H : Hp} {K : Fg} {D : Ends} {i : Nat} {p : Addr} {xs : List α} (hv : σ[i]? = some (some (.ref p))) (m : Ml G H p xs) (s : Same G H)
    (k : ∀ o, Ml G (upd H p o) p xs.reverse → Same G (upd H p o) → D.nx σ (upd H p o)) : tDrop (tBM0 K "list" rReverse (tVar i)) D σ H := by
  have sq := m.sq (K := K)
  obtain ⟨n, acc, e, pa⟩ := m
  exact ⟨.ref p, hv, .inl ⟨rfl, sq⟩, p, acc, rfl, rfl, e, k _ ⟨n, _, upd_same, paired_rev pa⟩ (same_mut s n)⟩
/-! ### the strip's order -/
def ordN (p : Plan) : Nat → Int → Int → Bool → List Int
  | 0, s, _, _ => [s]
  | k + 1, s, e, b => match look (thirdsM p).l (s, e) with
    | none => [s]
    | some c => if b = true then ordN p k s c (!b) ++ ordN p k c e (!b) else ordN p k c e (!b) ++ ordN p k s c (!b)
theorem arc_w {n s e : Int} (hs : 0 ≤ s ∧ s < n) (he : 0 ≤ e ∧ e < n) : (e - s) % n = if e < s then e - s + n else e - s := by
  rw [wrapN (by omega) (by omega)]
  by_cases h : e < s
  · rw [if_pos (by omega), if_pos h]
  · rw [if_neg (by omega), if_neg h]
theorem cy_w {n s c e : Int} (hs : 0 ≤ s ∧ s < n) (hc : 0 ≤ c ∧ c < n) (he : 0 ≤ e ∧ e < n) (h : Cy s c e) : (c - s) % n + (e - c) % n = (e - s) % n ∧ 1 ≤ (c - s) % n ∧ 1 ≤ (e - c) % n := by
  rw [arc_w hs hc, arc_w hc he, arc_w hs he]
  unfold Cy at h
  split <;> split <;> split <;> omega
theorem rng_app {a b c : Int} (h1 : a ≤ b) (h2 : b ≤ c) : rng a c = rng a b ++ rng b c := by
  unfold rng
  rw [show (c - a).toNat = (b - a).toNat + (c - b).toNat by omega, List.range_add, List.map_append, List.map_map]
  congr 1
  refine List.map_congr_left fun k _ => ?_
  show a + (((b - a).toNat + k : Nat) : Int) = b + (k : Int)
  omega
theorem rng_sh (a b d : Int) : rng (a + d) (b + d) = (rng a b).map fun k => k + d := by
  unfold rng
  rw [show b + d - (a + d) = b - a by omega, List.map_map]
  refine List.map_congr_left fun k _ => ?_
  show a + d + (k : Int) = a + (k : Int) + d
  omega
theorem arc_split {n s c e : Int} (hs : 0 ≤ s ∧ s < n) (hc : 0 ≤ c ∧ c < n) (he : 0 ≤ e ∧ e < n) (h : Cy s c e) : arc n s e = arc n s c ++ arc n c e := by
  obtain ⟨w1, w2, w3⟩ := cy_w hs hc he h
  unfold arc
  rw [← w1, rng_app (a := 0) (b := (c - s) % n) (by omega) (by omega), List.map_append]
  congr 1
  have z := rng_sh 0 ((e - c) % n) ((c - s) % n)
  rw [show (0 : Int) + (c - s) % n = (c - s) % n by omega, show (e - c) % n + (c - s) % n = (c - s) % n + (e - c) % n by omega] at z
  rw [z, List.map_map]
  refine List.map_congr_left fun k _ => ?_
  show (s + (k + (c - s) % n)) % n = (c + k) % n
  have : (c - s) % n = c - s ∨ (c - s) % n = c - s + n := by rw [arc_w hs hc]; split <;> omega
  rcases this with e | e
  · rw [e]; congr 1; omega
  · rw [e, show s + (k + (c - s + n)) = c + k + n by omega, Int.add_emod_right]
theorem look_none {p : Plan} (h : isPlanM p = true) {s e : Int} (j : Jn p s e) : look (thirdsM p).l (s, e) = none ↔ (s + 1) % p.1 = e := by
  have ne := j.ne h
  constructor
  · intro z
    apply Classical.byContradiction
    intro q
    obtain ⟨c, t⟩ := tr_ex h j (fun z => q (by
      rcases z with z | z
      · rw [z, Int.emod_eq_of_lt (by omega) (by omega)]
      · rw [z.1, z.2, show p.1 - 1 + 1 = p.1 by omega, Int.emod_self]))
    rw [(look_thirds h).mpr t] at z
    cases z
  · intro q
    cases z : look (thirdsM p).l (s, e) with
    | none => rfl
    | some c =>
      exfalso
      have t := (look_thirds h).mp z
      have n1 := t.sv.ne h
      have cy := t.cy
      unfold Cy at cy
      rw [wrap (by omega) (by omega)] at q
      split at q <;> omega
theorem arc_one {n s : Int} (hs : 0 ≤ s ∧ s < n) (h2 : 2 ≤ n) : arc n s ((s + 1) % n) = [s] := by
  have e : ((s + 1) % n - s) % n = 1 := by
    rw [Int.emod_sub_emod]
    rw [show s + 1 - s = 1 by omega, Int.emod_eq_of_lt (by omega) (by omega)]
  unfold arc
  rw [e]
  show [(s + (0 + ((0 : Nat) : Int))) % n] = [s]
  rw [show s + (0 + ((0 : Nat) : Int)) = s by omega, Int.emod_eq_of_lt hs.1 hs.2]
theorem ord_perm {p : Plan} (h : isPlanM p = true) : ∀ (k : Nat) (s e : Int) (b : Bool), Jn p s e → (e - s) % p.1 ≤ k → (ordN p k s e b).Perm (arc p.1 s e) := by
  have h3 := (plan_facts h).1
  intro k
  induction k with
  | zero =>
    intro s e b j hk
    have ne := j.ne h
    rw [arc_w (by omega) (by omega)] at hk
    split at hk <;> omega
  | succ k ih =>
    intro s e b j hk
    have ne := j.ne h
    unfold ordN
    cases z : look (thirdsM p).l (s, e) with
    | none =>
      rw [← (look_none h j).mp z, arc_one (by omega) (by omega)]
    | some c =>
      have t := (look_thirds h).mp z
      have n1 := t.sv.ne h
      obtain ⟨w1, w2, w3⟩ := cy_w (n := p.1) (by omega) (by omega) (by omega) t.cy
      have i1 := ih s c (!b) t.sv (by omega)
      have i2 := ih c e (!b) t.ve (by omega)
      rw [arc_split (by omega) (by omega) (by omega) t.cy]
      show (if b = true then ordN p k s c (!b) ++ ordN p k c e (!b) else ordN p k c e (!b) ++ ordN p k s c (!b)).Perm _
      split
      · exact i1.append i2
      · exact (i2.append i1).trans List.perm_append_comm
def ordM (p : Plan) : List Int := [0] ++ ordN p 40 1 0 true
theorem jn_10 {p : Plan} (h : isPlanM p = true) : Jn p 1 0 := (jn_side h (a := 0) (b := 1) (by omega) (by have := (plan_facts h).1; omega) rfl).sym
theorem ordM_perm {p : Plan} (h : isPlanM p = true) : (ordM p).Perm (rng 0 p.1) := by
  obtain ⟨h3, h40, _⟩ := plan_facts h
  have i := ord_perm h 40 1 0 true (jn_10 h) (by rw [arc_w (by omega) (by omega)]; split <;> omega)
  unfold ordM
  refine (List.Perm.append_left [0] i).trans ?_
  have e := (arcs_perm (n := p.1) (t := 0) (u := 1) (by omega) (by omega) (by omega)).symm
  have a0 : arc p.1 0 1 = [0] := by
    have := arc_one (n := p.1) (s := 0) (by omega) (by omega)
    rw [show (0 + 1 : Int) % p.1 = 1 by rw [Int.emod_eq_of_lt (by omega) (by omega)]; rfl] at this
    exact this
  rw [a0] at e
  exact (List.Perm.append_left [0] (arc p.1 1 0).reverse_perm.symm).trans e
theorem ordN_len {p : Plan} (h : isPlanM p = true) {k : Nat} {s e : Int} {b : Bool} (j : Jn p s e) (hk : (e - s) % p.1 ≤ k) : (ordN p k s e b).length ≤ 40 := by
  obtain ⟨h3, h40, _⟩ := plan_facts h
  rw [(ord_perm h k s e b j hk).length_eq, arc_len]
  have := Int.emod_lt_of_pos (e - s) (show 0 < p.1 by omega)
  omega
/-- the third corner by the law's going round, and no other -/
theorem go_first {p : Plan} (h : isPlanM p = true) {s e : Int} (j : Jn p s e) {c : Int} (hm : c ∈ goM p.1 s e) (h1 : Jn p c s) (h2 : Jn p c e) : look (thirdsM p).l (s, e) = some c := by
  have ne := j.ne h
  exact (look_thirds h).mpr ⟨((mem_go (by omega) (by omega) (by omega)).mp hm).2.2, j, h1.sym, h2⟩
end Pf

namespace Pf
open PySem PySem.Spec PyProof.Rows L2
/-! ### the hands of the parts: a part is of the right hand where it lies beyond an even count of cuts, as seen from the side of 0 and 1 -/
/-- a corner that lies beyond a cut, or at its ends -/
def far (m : Int × Int) (c : Int) : Bool := if m.1 = 0 then decide (c = 0 ∨ m.2 ≤ c) else decide (m.1 ≤ c ∧ c ≤ m.2)
def beyT (m : Int × Int) (a b c : Int) : Bool := far m a && far m b && far m c
def dep (p : Plan) (a b c : Int) : Nat := p.2.l.countP fun m => beyT m a b c
def hnd (p : Plan) (a b c : Int) : Bool := decide (dep p a b c % 2 = 0)
theorem beyT_rot (m : Int × Int) (a b c : Int) : beyT m a b c = beyT m b c a := by
  unfold beyT
  cases far m a <;> cases far m b <;> cases far m c <;> rfl
theorem beyT_sw (m : Int × Int) (a b c : Int) : beyT m a b c = beyT m b a c := by
  unfold beyT
  cases far m a <;> cases far m b <;> cases far m c <;> rfl
theorem dep_rot (p : Plan) (a b c : Int) : dep p a b c = dep p b c a := by unfold dep; congr 1; funext m; exact beyT_rot m a b c
theorem dep_sw (p : Plan) (a b c : Int) : dep p a b c = dep p b a c := by unfold dep; congr 1; funext m; exact beyT_sw m a b c
theorem hnd_rot (p : Plan) (a b c : Int) : hnd p a b c = hnd p b c a := by unfold hnd; rw [dep_rot]
theorem hnd_sw (p : Plan) (a b c : Int) : hnd p a b c = hnd p b a c := by unfold hnd; rw [dep_sw]
theorem cut_facts {p : Plan} (h : isPlanM p = true) {m : Int × Int} (hm : m ∈ p.2.l) : 0 ≤ m.1 ∧ m.1 + 2 ≤ m.2 ∧ m.2 < p.1 ∧ ¬ (m.1 = 0 ∧ m.2 = p.1 - 1) ∧ Jn p m.1 m.2 := by
  obtain ⟨h3, h40, hl, hb, hv, _⟩ := plan_facts h
  obtain ⟨a1, a2, a3, a4⟩ := hv.cut m hm
  refine ⟨a1, by omega, a3, a4, (jn_lt h (by omega)).mpr (.inr (.inr hm))⟩
theorem far_or {p : Plan} (h : isPlanM p = true) {m : Int × Int} (hm : m ∈ p.2.l) {u v : Int} (j : Jn p u v) (hu : far m u = true) (hv : far m v = false) : u = m.1 ∨ u = m.2 := by
  obtain ⟨x, y⟩ := m
  obtain ⟨c0, c1, c2, c3, jm⟩ := cut_facts h hm
  obtain ⟨j1, j2, j3, j4, j5⟩ := j.ne h
  simp only at *
  unfold far at hu hv
  simp only at hu hv
  by_cases hx : x = 0
  · subst hx
    rw [if_pos rfl] at hu hv
    have hu := of_decide_eq_true hu
    have hv := of_decide_eq_false hv
    by_cases e : u = 0 ∨ u = y
    · exact e
    · exact (no_cross h (a := 0) (b := v) (c := y) (d := u) (by omega) (by omega) (by omega) jm j.sym).elim
  · rw [if_neg hx] at hu hv
    have hu := of_decide_eq_true hu
    have hv := of_decide_eq_false hv
    by_cases e : u = x ∨ u = y
    · exact e
    · by_cases hvx : v < x
      · exact (no_cross h (a := v) (b := x) (c := u) (d := y) (by omega) (by omega) (by omega) j.sym jm).elim
      · exact (no_cross h (a := x) (b := u) (c := y) (d := v) (by omega) (by omega) (by omega) jm j).elim
/-- the third corner of a part goes with the line, but for the line itself -/
theorem far_third {p : Plan} (h : isPlanM p = true) {m : Int × Int} (hm : m ∈ p.2.l) {a b d : Int} (ja : Jn p a d) (jb : Jn p b d) (ne : a ≠ b) (hne : m ≠ lawPair a b) (ha : far m a = true) (hb : far m b = true) : far m d = true := by
  cases hd : far m d with
  | true => rfl
  | false =>
    exfalso
    have e1 := far_or h hm ja ha hd
    have e2 := far_or h hm jb hb hd
    obtain ⟨c0, c1, _⟩ := cut_facts h hm
    apply hne
    obtain ⟨x, y⟩ := m
    simp only at *
    unfold lawPair
    rcases e1 with e1 | e1 <;> rcases e2 with e2 | e2
    · omega
    · subst e1 e2; rw [if_neg (by omega), if_pos (by omega)]
    · subst e1 e2; rw [if_pos (by omega), if_neg (by omega)]
    · omega
theorem bey_other {p : Plan} (h : isPlanM p = true) {m : Int × Int} (hm : m ∈ p.2.l) {a b c d : Int} (t : Tr p a c b) (u : Tr p b d a) (hne : m ≠ lawPair a b) : beyT m a b c = beyT m a b d := by
  have ne := (t.se.ne h).2.2.2.2
  unfold beyT
  cases ha : far m a with
  | false => simp
  | true =>
    cases hb : far m b with
    | false => simp
    | true => rw [far_third h hm t.sv t.ve.sym ne hne ha hb, far_third h hm u.ve.sym u.sv ne hne ha hb]
/-- a line with parts on both sides is a cut -/
theorem both_cut {p : Plan} (h : isPlanM p = true) {a b c d : Int} (t : Tr p a c b) (u : Tr p b d a) : lawPair a b ∈ p.2.l := by
  have j := t.se
  obtain ⟨a1, a2, a3, a4, a5⟩ := j.ne h
  obtain ⟨_, _, c1, c2, _⟩ := t.sv.ne h
  obtain ⟨_, _, d1, d2, _⟩ := u.sv.ne h
  have x := t.cy; have y := u.cy
  unfold Cy at x y
  by_cases hab : a < b
  · rw [lp_lt hab]
    rcases (jn_lt h hab).mp j with z | z | z
    · omega
    · omega
    · exact z
  · rw [lp_sym, lp_lt (by omega)]
    rcases (jn_lt h (show b < a by omega)).mp j.sym with z | z | z
    · omega
    · omega
    · exact z
theorem bey_self {p : Plan} (h : isPlanM p = true) {a b c d : Int} (t : Tr p a c b) (u : Tr p b d a) : beyT (lawPair a b) a b c = !beyT (lawPair a b) a b d := by
  have hm := both_cut h t u
  obtain ⟨m0, m1, m2, m3, _⟩ := cut_facts h hm
  obtain ⟨a1, a2, a3, a4, a5⟩ := t.se.ne h
  obtain ⟨_, _, c1, c2, _⟩ := t.sv.ne h
  obtain ⟨_, _, d1, d2, _⟩ := u.sv.ne h
  have x := t.cy; have y := u.cy
  unfold Cy at x y
  have key : ∀ {l r : Int}, l < r → ∀ e, far (l, r) e = if l = 0 then decide (e = 0 ∨ r ≤ e) else decide (l ≤ e ∧ e ≤ r) := fun _ _ => rfl
  have hT : ∀ {q : Prop} [Decidable q], q → decide q = true := fun hq => decide_eq_true hq
  have hF : ∀ {q : Prop} [Decidable q], ¬ q → decide q = false := fun hq => decide_eq_false hq
  unfold beyT
  by_cases hab : a < b
  · rw [lp_lt hab] at m0 m1 m2 m3 ⊢
    simp only at m0 m1 m2 m3
    rw [key hab, key hab, key hab, key hab]
    by_cases h0 : a = 0
    · rw [if_pos h0, if_pos h0, if_pos h0, if_pos h0, hT (show a = 0 ∨ b ≤ a by omega), hT (show b = 0 ∨ b ≤ b by omega), hF (show ¬ (c = 0 ∨ b ≤ c) by omega), hT (show d = 0 ∨ b ≤ d by omega)]; rfl
    · rw [if_neg h0, if_neg h0, if_neg h0, if_neg h0, hT (show a ≤ a ∧ a ≤ b by omega), hT (show a ≤ b ∧ b ≤ b by omega), hT (show a ≤ c ∧ c ≤ b by omega), hF (show ¬ (a ≤ d ∧ d ≤ b) by omega)]; rfl
  · have hba : b < a := by omega
    rw [lp_sym, lp_lt hba] at m0 m1 m2 m3 ⊢
    simp only at m0 m1 m2 m3
    rw [key hba, key hba, key hba, key hba]
    by_cases h0 : b = 0
    · rw [if_pos h0, if_pos h0, if_pos h0, if_pos h0, hT (show a = 0 ∨ a ≤ a by omega), hT (show b = 0 ∨ a ≤ b by omega), hT (show c = 0 ∨ a ≤ c by omega), hF (show ¬ (d = 0 ∨ a ≤ d) by omega)]; rfl
    · rw [if_neg h0, if_neg h0, if_neg h0, if_neg h0, hT (show b ≤ a ∧ a ≤ a by omega), hT (show b ≤ b ∧ b ≤ a by omega), hF (show ¬ (b ≤ c ∧ c ≤ a) by omega), hT (show b ≤ d ∧ d ≤ a by omega)]; rfl
theorem countP_diff {α : Type} [DecidableEq α] {f g : α → Bool} {x : α} : ∀ {l : List α}, l.Nodup → x ∈ l → (∀ y ∈ l, y ≠ x → f y = g y) → f x = true → g x = false → l.countP f = l.countP g + 1
  | y :: l, nd, hx, he, hf, hg => by
    rw [List.nodup_cons] at nd
    by_cases e : y = x
    · subst e
      rw [List.countP_cons_of_pos hf, List.countP_cons_of_neg (by rw [hg]; decide)]
      congr 1
      exact List.countP_congr fun z hz => by rw [he z (List.mem_cons_of_mem _ hz) (fun q => nd.1 (q ▸ hz))]
    · have hx' : x ∈ l := (List.mem_cons.mp hx).resolve_left (fun q => e q.symm)
      have ih := countP_diff nd.2 hx' (fun z hz => he z (List.mem_cons_of_mem _ hz)) hf hg
      have ey := he y (List.mem_cons_self) e
      rw [List.countP_cons, List.countP_cons, ih, ey]
      omega
theorem dep_step {p : Plan} (h : isPlanM p = true) {a b c d : Int} (t : Tr p a c b) (u : Tr p b d a) (hb : beyT (lawPair a b) a b c = true) : dep p a b c = dep p a b d + 1 := by
  obtain ⟨_, _, _, _, hv, _⟩ := plan_facts h
  refine countP_diff hv.nd (both_cut h t u) (fun m hm ne => bey_other h hm t u ne) hb ?_
  have e := bey_self h t u
  rw [hb] at e
  cases z : beyT (lawPair a b) a b d with
  | false => rfl
  | true => rw [z] at e; cases e
/-- two parts at one line are of unlike hands -/
theorem hnd_flip {p : Plan} (h : isPlanM p = true) {a b c d : Int} (t : Tr p a c b) (u : Tr p b d a) : hnd p a b c = !hnd p a b d := by
  unfold hnd
  cases e : beyT (lawPair a b) a b c with
  | true =>
    rw [dep_step h t u e]
    by_cases z : dep p a b d % 2 = 0
    · rw [decide_eq_true z, decide_eq_false (by omega)]; rfl
    · rw [decide_eq_false z, decide_eq_true (by omega)]; rfl
  | false =>
    have e2 : beyT (lawPair b a) b a d = true := by
      rw [lp_sym, beyT_sw]
      have q := bey_self h t u
      rw [e] at q
      cases z : beyT (lawPair a b) a b d with
      | true => rfl
      | false => rw [z] at q; cases q
    have q := dep_step h u t e2
    rw [dep_sw p b a d, dep_sw p b a c] at q
    rw [q]
    by_cases z : dep p a b c % 2 = 0
    · rw [decide_eq_true z, decide_eq_false (by omega)]; rfl
    · rw [decide_eq_false z, decide_eq_true (by omega)]; rfl
theorem dep_root {p : Plan} (h : isPlanM p = true) (c : Int) : dep p 0 1 c = 0 := by
  unfold dep
  rw [List.countP_eq_zero]
  intro m hm
  obtain ⟨m0, m1, m2, m3, _⟩ := cut_facts h hm
  unfold beyT far
  by_cases e : m.1 = 0
  · rw [if_pos e, if_pos e, if_pos e, decide_eq_false (p := (1 : Int) = 0 ∨ m.2 ≤ 1) (by omega)]; simp
  · rw [if_neg e, if_neg e, if_neg e, decide_eq_false (p := m.1 ≤ 0 ∧ 0 ≤ m.2) (by omega)]; simp
theorem hnd_root {p : Plan} (h : isPlanM p = true) (c : Int) : hnd p 0 1 c = true := by unfold hnd; rw [dep_root h]; rfl
theorem tr_root {p : Plan} (h : isPlanM p = true) : ∃ c, Tr p 1 c 0 := tr_ex h (jn_10 h) (by have := (plan_facts h).1; omega)
def Top (s c e : Int) : Prop := 0 < s ∧ s < c ∧ (c < e ∨ e = 0)
/-- the part that lies ahead of a part, as seen from the side of 0 and 1 -/
theorem ahead {p : Plan} (h : isPlanM p = true) {s c e : Int} (t : Tr p s c e) (tp : Top s c e) (nr : ¬ (s = 1 ∧ e = 0)) : ∃ d, Tr p e d s ∧ dep p s e c = dep p e s d + 1 := by
  obtain ⟨a1, a2, a3, a4, a5⟩ := t.se.ne h
  obtain ⟨t1, t2, t3⟩ := tp
  obtain ⟨d, u⟩ := tr_ex h t.se.sym (by omega)
  refine ⟨d, u, ?_⟩
  rw [dep_sw p e s d]
  refine dep_step h t u ?_
  unfold beyT
  by_cases e0 : e = 0
  · subst e0
    rw [lp_sym, lp_lt t1]
    unfold far
    simp only
    rw [if_pos trivial, if_pos trivial, if_pos trivial, decide_eq_true (show s = 0 ∨ s ≤ s by omega), decide_eq_true (show c = 0 ∨ s ≤ c by omega)]; rfl
  · rw [lp_lt (show s < e by omega)]
    unfold far
    simp only
    have hs : ¬ s = 0 := by omega
    rw [if_neg hs, if_neg hs, if_neg hs, decide_eq_true (show s ≤ s ∧ s ≤ e by omega), decide_eq_true (show s ≤ e ∧ e ≤ e by omega), decide_eq_true (show s ≤ c ∧ c ≤ e by omega)]; rfl
theorem top_rot {p : Plan} (h : isPlanM p = true) {s c e : Int} (t : Tr p s c e) : Top s c e ∨ Top c e s ∨ Top e s c := by
  obtain ⟨a1, a2, a3, a4, a5⟩ := t.se.ne h
  obtain ⟨_, _, c1, c2, _⟩ := t.sv.ne h
  have x := t.cy
  unfold Cy at x
  unfold Top
  omega
/-- a set of directed lines that has the first one, and goes on round each part and over each line, has all lines at which there is a part -/
theorem all_lines {p : Plan} (h : isPlanM p = true) {S : Int → Int → Prop} (s0 : S 1 0) (s1 : ∀ {s c e}, Tr p s c e → S s e → S c s) (s2 : ∀ {s c e d}, Tr p s c e → Tr p e d s → S s e → S e s) :
    ∀ (k : Nat) {s c e : Int}, Tr p s c e → dep p s e c ≤ k → S s e := by
  intro k
  induction k with
  | zero =>
    intro s c e t hd
    have one : ∀ {s c e : Int}, Tr p s c e → dep p s e c ≤ 0 → Top s c e → S s e := fun {s c e} t hd tp => by
      by_cases r : s = 1 ∧ e = 0
      · obtain ⟨rfl, rfl⟩ := r; exact s0
      · obtain ⟨d, _, q⟩ := ahead h t tp r
        omega
    rcases top_rot h t with z | z | z
    · exact one t hd z
    · exact s1 t.rot.rot (s1 t.rot (one t.rot (by rw [dep_rot]; exact hd) z))
    · exact s1 t.rot.rot (one t.rot.rot (by rw [dep_rot, dep_rot]; exact hd) z)
  | succ k ih =>
    intro s c e t hd
    have one : ∀ {s c e : Int}, Tr p s c e → dep p s e c ≤ k + 1 → Top s c e → S s e := fun {s c e} t hd tp => by
      by_cases r : s = 1 ∧ e = 0
      · obtain ⟨rfl, rfl⟩ := r; exact s0
      · obtain ⟨d, u, q⟩ := ahead h t tp r
        exact s2 u t (ih u (by omega))
    rcases top_rot h t with z | z | z
    · exact one t hd z
    · exact s1 t.rot.rot (s1 t.rot (one t.rot (by rw [dep_rot]; exact hd) z))
    · exact s1 t.rot.rot (one t.rot.rot (by rw [dep_rot, dep_rot]; exact hd) z)
/-! the hands as the program has them -/
def rlS (b : Bool) : Str := if b = true then "r" else "l"
/-- what a dict of hands has: each directed line at which there is a part, with the part's hand -/
def IsHands (p : Plan) (D : Dct (Int × Int) Str) : Prop := ∀ s e, (∀ c, Tr p s c e → look D.l (s, e) = some (rlS (hnd p s e c))) ∧ ((∀ c, ¬ Tr p s c e) → look D.l (s, e) = none)
end Pf

namespace Pf
open PySem PySem.Spec PyProof.Rows L2
/-! ### the hands, as the program finds them -/
abbrev HL := List ((Int × Int) × Str)
theorem look_snoc {κ α : Type} [DecidableEq κ] (l : List (κ × α)) (k : κ) (x : α) (k2 : κ) : look (l ++ [(k, x)]) k2 = (look l k2).or (if k = k2 then some x else none) := by
  unfold look
  rw [List.find?_append]
  cases l.find? (fun e => decide (e.1 = k2)) with
  | some y => rfl
  | none =>
    rw [Option.none_or, List.find?_singleton]
    by_cases e : k = k2
    · rw [if_pos (decide_eq_true e), if_pos e]; rfl
    · rw [if_neg (by rw [decide_eq_false e]; decide), if_neg e]; rfl
theorem put_newK {κ α : Type} [DecidableEq κ] {l : List (κ × α)} {k : κ} {x : α} (h : look l k = none) : put l k x = l ++ [(k, x)] := by
  unfold put
  rw [if_neg]
  intro z
  obtain ⟨e, he, q⟩ := List.any_eq_true.mp z
  unfold look at h
  rw [Option.map_eq_none_iff, List.find?_eq_none] at h
  exact h e he q
theorem look_keys {κ α : Type} [DecidableEq κ] {l : List (κ × α)} {k : κ} : (look l k).isSome = true ↔ k ∈ l.map (·.1) := by
  unfold look
  rw [Option.isSome_map, List.find?_isSome, List.mem_map]
  constructor
  · rintro ⟨e, he, q⟩; exact ⟨e, he, of_decide_eq_true q⟩
  · rintro ⟨e, he, q⟩; exact ⟨e, he, decide_eq_true q⟩
theorem sub_len {α : Type} [DecidableEq α] : ∀ {l m : List α}, l.Nodup → (∀ x ∈ l, x ∈ m) → l.length ≤ m.length
  | [], _, _, _ => Nat.zero_le _
  | x :: l, m, nd, hs => by
    rw [List.nodup_cons] at nd
    have hx := hs x (List.mem_cons_self)
    have ih := sub_len (l := l) (m := m.erase x) nd.2 (fun y hy => (List.mem_erase_of_ne (fun (e : y = x) => nd.1 (by rw [← e]; exact hy))).mpr (hs y (List.mem_cons_of_mem _ hy)))
    rw [List.length_erase_of_mem hx] at ih
    have : 0 < m.length := List.length_pos_of_mem hx
    rw [List.length_cons]
    omega
/-- the thirds have this line -/
abbrev Has (p : Plan) (s e : Int) : Prop := ∃ c, Tr p s c e
def Sn (l ws : HL) (s e : Int) : Prop := (look l (s, e)).isSome = true ∨ ∃ h, ((s, e), h) ∈ ws
structure HInv (p : Plan) (l ws : HL) : Prop where
  nd : (l.map (·.1)).Nodup
  ok : ∀ s e h, look l (s, e) = some h → ∃ c, Tr p s c e ∧ h = rlS (hnd p s e c)
  wk : ∀ s e h, ((s, e), h) ∈ ws → (∃ b, h = rlS b) ∧ ∀ c, Tr p s c e → h = rlS (hnd p s e c)
  b0 : Sn l ws 1 0
  b1 : ∀ {s c e}, Tr p s c e → (look l (s, e)).isSome = true → Sn l ws c s
  b2 : ∀ {s c e d}, Tr p s c e → Tr p e d s → (look l (s, e)).isSome = true → Sn l ws e s
theorem HInv.init {p : Plan} (h : isPlanM p = true) : HInv p [] [((1, 0), "r")] where
  nd := List.nodup_nil
  ok := fun s e h z => by cases z
  wk := fun s e hd z => by
    cases (List.mem_singleton.mp z)
    exact ⟨⟨true, rfl⟩, fun c t => by rw [hnd_sw, hnd_root h]; rfl⟩
  b0 := .inr ⟨_, List.mem_singleton.mpr rfl⟩
  b1 := fun _ z => by cases z
  b2 := fun _ _ z => by cases z
theorem HInv.skip {p : Plan} (h : isPlanM p = true) {l ws : HL} {s e : Int} {hd : Str} (I : HInv p l (ws ++ [((s, e), hd)])) (z : (look l (s, e)).isSome = true ∨ ¬ Has p s e) : HInv p l ws := by
  have sn : ∀ {s2 e2}, Has p s2 e2 → Sn l (ws ++ [((s, e), hd)]) s2 e2 → Sn l ws s2 e2 := fun {s2 e2} hh q => by
    rcases q with q | ⟨h2, q⟩
    · exact .inl q
    · rcases List.mem_append.mp q with q | q
      · exact .inr ⟨h2, q⟩
      · injection (List.mem_singleton.mp q) with q1 q2
        injection q1 with q1 q3
        subst q1 q3
        rcases z with z | z
        · exact .inl z
        · exact absurd hh z
  exact ⟨I.nd, I.ok, fun s2 e2 h2 q => I.wk s2 e2 h2 (List.mem_append_left _ q), sn (tr_root h) I.b0, fun t q => sn ⟨_, t.rot⟩ (I.b1 t q), fun t u q => sn ⟨_, u⟩ (I.b2 t u q)⟩
def othH (h : Str) : Str := if h = "r" then "l" else "r"
theorem oth_rl (b : Bool) : othH (rlS b) = rlS (!b) := by cases b <;> decide +kernel
theorem HInv.add {p : Plan} (h : isPlanM p = true) {l ws : HL} {s e c : Int} {hd : Str} (I : HInv p l (ws ++ [((s, e), hd)])) (t : Tr p s c e) (z : look l (s, e) = none) : hd = rlS (hnd p s e c) ∧ HInv p (l ++ [((s, e), hd)]) (ws ++ [((c, s), hd)] ++ [((e, s), othH hd)]) := by
  have hh : hd = rlS (hnd p s e c) := (I.wk s e hd (List.mem_append_right _ (List.mem_singleton.mpr rfl))).2 c t
  refine ⟨hh, ?_⟩
  have lk : ∀ k2, look (l ++ [((s, e), hd)]) k2 = (look l k2).or (if (s, e) = k2 then some hd else none) := look_snoc l (s, e) hd
  have up : ∀ {s2 e2}, Sn l (ws ++ [((s, e), hd)]) s2 e2 → Sn (l ++ [((s, e), hd)]) (ws ++ [((c, s), hd)] ++ [((e, s), othH hd)]) s2 e2 := fun {s2 e2} q => by
    rcases q with q | ⟨h2, q⟩
    · left; rw [lk, Option.isSome_or, q]; rfl
    · rcases List.mem_append.mp q with q | q
      · exact .inr ⟨h2, List.mem_append_left _ (List.mem_append_left _ q)⟩
      · injection (List.mem_singleton.mp q) with q1 q2
        left; rw [lk, q1, if_pos rfl, Option.isSome_or]; simp
  have inv : ∀ {s2 e2}, (look (l ++ [((s, e), hd)]) (s2, e2)).isSome = true → (look l (s2, e2)).isSome = true ∨ (s2 = s ∧ e2 = e) := fun {s2 e2} q => by
    rw [lk, Option.isSome_or, Bool.or_eq_true] at q
    rcases q with q | q
    · exact .inl q
    · by_cases e2' : (s, e) = (s2, e2)
      · injection e2' with a1 a2; exact .inr ⟨a1.symm, a2.symm⟩
      · rw [if_neg e2'] at q; cases q
  refine ⟨?_, ?_, ?_, up I.b0, ?_, ?_⟩
  · rw [List.map_append, List.nodup_append]
    refine ⟨I.nd, List.pairwise_singleton _ _, fun x hx y hy q => ?_⟩
    have hy : y = (s, e) := List.mem_singleton.mp hy
    subst q hy
    have := look_keys.mpr hx
    rw [z] at this
    cases this
  · intro s2 e2 h2 q
    rw [lk] at q
    cases q2 : look l (s2, e2) with
    | some h3 =>
      rw [q2] at q
      have q : some h3 = some h2 := q
      cases q
      exact I.ok s2 e2 _ q2
    | none =>
      rw [q2] at q
      by_cases e2' : (s, e) = (s2, e2)
      · injection e2' with a1 a2
        subst a1 a2
        rw [if_pos rfl] at q
        cases q
        exact ⟨c, t, hh⟩
      · rw [if_neg e2'] at q; cases q
  · intro s2 e2 h2 q
    rcases List.mem_append.mp q with q | q
    · rcases List.mem_append.mp q with q | q
      · exact I.wk s2 e2 h2 (List.mem_append_left _ q)
      · injection (List.mem_singleton.mp q) with q1 q2
        injection q1 with q1 q3
        subst q1 q2 q3
        refine ⟨⟨_, hh⟩, fun c2 t2 => ?_⟩
        have e3 := t2.uniq h t.rot
        subst e3
        rw [hnd_rot]; exact hh
    · injection (List.mem_singleton.mp q) with q1 q2
      injection q1 with q1 q3
      subst q1 q2 q3
      refine ⟨⟨_, by rw [hh, oth_rl]⟩, fun d u => ?_⟩
      rw [hh, oth_rl, hnd_flip h t u, Bool.not_not, hnd_sw]
  · intro s2 c2 e2 t2 q
    rcases inv q with q | ⟨rfl, rfl⟩
    · exact up (I.b1 t2 q)
    · have e3 := t2.uniq h t
      subst e3
      exact .inr ⟨hd, List.mem_append_left _ (List.mem_append_right _ (List.mem_singleton.mpr rfl))⟩
  · intro s2 c2 e2 d2 t2 u2 q
    rcases inv q with q | ⟨rfl, rfl⟩
    · exact up (I.b2 t2 u2 q)
    · exact .inr ⟨othH hd, List.mem_append_right _ (List.mem_singleton.mpr rfl)⟩
theorem HInv.done {p : Plan} (h : isPlanM p = true) {l : HL} (I : HInv p l []) : IsHands p ⟨l⟩ := by
  have sn : ∀ {s e}, Sn l [] s e → (look l (s, e)).isSome = true := fun q => q.elim id (fun ⟨_, z⟩ => nomatch z)
  intro s e
  refine ⟨fun c t => ?_, fun z => ?_⟩
  · have hs : (look l (s, e)).isSome = true := all_lines h (S := fun s e => (look l (s, e)).isSome = true) (sn I.b0) (fun t q => sn (I.b1 t q)) (fun t u q => sn (I.b2 t u q)) _ t (Nat.le_refl _)
    obtain ⟨x, hx⟩ := Option.isSome_iff_exists.mp hs
    obtain ⟨c2, t2, e2⟩ := I.ok s e x hx
    have e3 := t2.uniq h t
    subst e3
    show look l (s, e) = _
    rw [hx, e2]
  · cases q : look l (s, e) with
    | none => rfl
    | some x => obtain ⟨c2, t2, _⟩ := I.ok s e x q; exact absurd t2 (z c2)
theorem HInv.len {p : Plan} (h : isPlanM p = true) {l ws : HL} (I : HInv p l ws) : l.length ≤ (thirdsM p).l.length := by
  have := sub_len (l := l.map (·.1)) (m := (thirdsM p).l.map (·.1)) I.nd (fun k hk => by
    obtain ⟨s, e⟩ := k
    obtain ⟨x, hx⟩ := Option.isSome_iff_exists.mp (look_keys.mpr hk)
    obtain ⟨c, t, _⟩ := I.ok s e x hx
    exact look_keys.mp (by rw [(look_thirds h).mpr t]; rfl))
  rw [List.length_map, List.length_map] at this
  exact this
end Pf

namespace Pf
open PySem PySem.Spec PyProof.Rows L2 LamX
/-! ### lambdas without parameters, handed to a def: errors told at the very state -/
section
variable {X : Cx}
abbrev gX (X : Cx) (Mg : List Str) (nm : Str) (zg : Scope) (gf : Addr) (kg : Value) (s0 : Shared) (H0 : Hp) : Cx := cxOf C8.CX0 X.prog X.w X.K X.mg X.base Mg nm zg gf kg X.A X.stack s0 H0 C8.E0
abbrev lamQ (X : Cx) : Str := X.env.qual ++ "<lambda>"
theorem act_at {pins : List (Addr × Obj)} {σ0 : L2.St} {H0 : Hp} {s0 : Shared} {Mg : List Str} {nm ar : Str} {zg sco : Scope} {gf lf lc : Addr} {kg pv1 pv2 : Value} {ps1 : Arguments} {bd : Expr} {d j : Nat}
    {qn : List (Addr × Obj)} {xq : Value → Shared → Prop} {W : WX} {t : XK → TE} {w1 w2 : Pos} (J : Inv X pins σ0 H0 s0) (LS : LamS X.env.scope sco)
    (hob : s0.heap.get? lf = some (PySem.W.kla_obj "<lambda>" (lamQ X) ps1 bd sco (cloFrom X.env.cells sco.names []) pv1 lc pv2)) (hno : H0 lf = none) (hnf : lf ∉ frs X.stack)
    (hbi : bindArgs (PySem.W.kla_fn "<lambda>" (lamQ X) ps1 bd sco (cloFrom X.env.cells sco.names []) pv1 (.ref lc) pv2) ⟨[], []⟩ = pure [])
    (tk : Takes ((gX X Mg nm zg gf kg s0 H0).tr qn xq) W) (hro : Room (d + 1) (X.A.deeper (envOfC nm zg s0.heap.objs.size gf kg)))
    (hbo : ∀ (A1 : Around) (out1 : List Env) (s1 : Shared) (H1 : Hp) (E1 : XK), Room d (A1.deeper (lamEnv X sco s1.heap.objs.size lf lc)) → PE (lamCx X A1 out1 s1 H1 E1 sco lf lc) bd (t E1))
    (hN : Mg[j]? = some ar) (hV : Vis zg ar) (h1 : (ar == ("__debug__" : Str)) = false) (h2 : (ar == ("__classdict__" : Str)) = false) :
    PE ((gX X Mg nm zg gf kg s0 H0).tr qn xq) (.Call (.Name ar w1) [] [] w2) (fun τ HZ Q => τ[j]? = some (some (.ref lf)) ∧ HZ lc = some (CodeO lc (lamQ X)) ∧ t (WE W τ) σ0 HZ Q) := by
  refine ⟨fun pz sz τ HZ Q IZ hyp => ?_⟩
  obtain ⟨ha, hb, hc⟩ := hyp
  have vr := (pe_var (pos := w1) (i := j) hN hV h1 h2).run pz sz τ HZ (fun v K1 => v = .ref lf ∧ K1 = HZ) IZ ⟨.ref lf, ha, rfl, rfl⟩
  refine wpAny_Call_Name_kw (thn vr fun u sa hx => ?_)
  obtain ⟨v, K1, I1, rv, rfl, rfl⟩ := hx
  cases (show u = Value.ref lf from rv)
  have oa := I1.base.keep lf _ hob hno hnf (fun z => nomatch (show lf ∈ ([] : List Addr) from z))
  refine PySem.W.callWith_F0 ⟨_, _, _, _, oa⟩ ?_
  have un : Un (frs X.stack) [] H0 K1 s0.heap sa.heap := I1.base
  obtain ⟨⟨ob, us, tt, e1, e2, e3⟩, _, _⟩ := I1.hok lc _ hb
  have main : codeAny (model X.prog X.w) (X.A.deeper (envOfC nm zg s0.heap.objs.size gf kg)) (.call (.ref lf) ⟨[], []⟩)
      (CR (L2.CX X.prog X.w) (envOfC nm zg s0.heap.objs.size gf kg :: X.stack) X.prog X.w K1 sa Q (WE W τ)) sa := by
    refine PySem.W.kla_callFunE hro.depth oa rfl LS.co LS.gen rfl ⟨lc, ob, us, tt, rfl, e1, e2, e3⟩ ?_
    rw [hbi]
    refine wpAny_pure ?_
    refine wpAny_newFunctionEnv (fun y hy => (LS.own y hy).2) (fun y hy => absurd hy (by simp)) (fun hn nsn bn => ⟨I1.nolimit.fresh _ bn, ?_⟩) LS.kind
    show codeAny _ _ (.expr bd (lamEnv X sco sa.heap.objs.size lf lc)) _ _
    have kp : ∀ b o, sa.heap.get? b = some o → hn.get? b = some o := fun b o q => bn.extBut b o (Nat.ne_of_lt (Heap.lt_size q)) (Heap.get?_push_of_some _ q)
    have JJ := lam_start2 (E := WE W τ) (tk := sa.toks + ([] : List (Str × Value)).length) (f := lf) (c' := lc) (scope := sco) J LS I1.env0 hro.hd un nsn kp
    refine PySem.W.kla_codeExpr ?_
    refine wpAny_mono ((hbo _ _ sa K1 (WE W τ) (hro.deeper _)).run [] _ _ K1 Q JJ hc) (fun v s' hq => ?_) fun e s' hq => hq
    obtain ⟨w', H', J', rv, q⟩ := hq
    exact ⟨w', H', J'.os, J'.bare, J'.base, J'.hok, rv, q⟩
  refine wpAny_call (codeAny_mono main fun r s' hq => ?_)
  match r, hq with
  | .error e, hq => exact passAt tk τ pz K1 sa e s' I1 hq
  | .ok (.ret u), hq => exact I1.after hq
  | .ok .next, hq => exact False.elim hq
  | .ok .brk, hq => exact False.elim hq
  | .ok .cont, hq => exact False.elim hq
/-- the def that calls what it got -/
def Gives (X : Cx) (Mg : List Str) (nm : Str) (zg : Scope) (gf : Addr) (kg : Value) (bg : List Stmt) (ar : Str) (RR : (XK → Hp → VK → Prop) → Hp → VK → Prop) : Prop :=
  ∀ (lf lc : Addr) (s0 : Shared) (H0 : Hp) (Q : VK) (tl : XK → Hp → VK → Prop),
    (∀ (W : WX) (qn : List (Addr × Obj)) (xq : Value → Shared → Prop) (w1 w2 : Pos), Takes ((gX X Mg nm zg gf kg s0 H0).tr qn xq) W →
      PE ((gX X Mg nm zg gf kg s0 H0).tr qn xq) (.Call (.Name ar w1) [] [] w2) (fun τ HZ Q => τ[0]? = some (some (.ref lf)) ∧ HZ lc = some (CodeO lc (lamQ X)) ∧ tl (WE W τ) HZ Q)) →
    H0 lc = some (CodeO lc (lamQ X)) → RR tl H0 Q →
    ∃ t, PSs (gX X Mg nm zg gf kg s0 H0).nox bg t ∧ t { nx := fun _ H' => Q .non H', rt := Q } (L2.start Mg [.ref lf]) H0
theorem pe_lam {TT : List (Addr × Str)} {RR : (XK → Hp → VK → Prop) → Hp → VK → Prop} {nm ar : Str} {gf c P : Addr} {d : Nat} {ag : Arguments} {bg : List Stmt} {zg sco : Scope} {b1 b2 b3 b4 kg b5 b6 : Value} {b7 b8 : Option Addr} {b9 : Array (Option Value)} {Mg : List Str}
    {ps1 : Arguments} {bd : Expr} {t : XK → TE} {w1 w2 w3 : Pos} (hg : Gl X nm) (hm : X.mg nm = some (.ref gf)) (hk : PySem.W.keepIn X.K (.ref gf) = true)
    (lk : X.K.lookup gf = some ⟨b6, b8, .func (PySem.W.fnOf nm nm ag bg zg b1 b2 b3 b4 b7 kg b5), b9⟩) (hcg : PySem.W.codeIn X.K kg nm = true) (hb : L2.Binds X.K (PySem.W.fnOf nm nm ag bg zg b1 b2 b3 b4 b7 kg b5) [ar] [])
    (Sg : FnScope Mg [ar] zg) (hN : Mg[0]? = some ar) (hV : Vis zg ar) (hG : Gives X Mg nm zg gf kg bg ar RR)
    (TB : TabB X.base X.mg c P) (hcode : X.env.code = .ref c) (hmT : (P, lamQ X) ∈ TT) (hu : ∀ p ∈ TT, p.1 = P → p.2 = lamQ X) (hro : Room (d + 2) X.A) (LS : LamS X.env.scope sco) (hdef : defaultsOf ps1 X.env = ([], []))
    (hbi : ∀ (q : Str) (cl : List (Str × Addr)) (y1 y2 y3 : Value), bindArgs (PySem.W.kla_fn "<lambda>" q ps1 bd sco cl y1 y2 y3) ⟨[], []⟩ = pure [])
    (hbo : ∀ (A1 : Around) (out1 : List Env) (s1 : Shared) (H1 : Hp) (E1 : XK) (lf lc : Addr), Room d (A1.deeper (lamEnv X sco s1.heap.objs.size lf lc)) → PE (lamCx X A1 out1 s1 H1 E1 sco lf lc) bd (t E1))
    (h0 : (nm == ("__debug__" : Str)) = false := by decide) (h1 : (ar == ("__debug__" : Str)) = false := by decide) (h2 : (ar == ("__classdict__" : Str)) = false := by decide) :
    PE X (.Call (.Name nm w1) [.Lambda ps1 bd sco w2] [] w3) (tLam TT RR t) := by
  refine ⟨fun pins s σ H Q I hyp => ?_⟩
  obtain ⟨hT, hyp⟩ := hyp
  refine wpAny_Call_Name_kw (ld_glob I hg hm ?_ h0)
  refine PySem.W.callWith_K (h₀ := X.base) I.ok.mod.kin hk ?_ (by rfl) (by rfl)
  show wpAny _ _ (spliced ((false, eval (.Lambda ps1 bd sco w2) X.env) :: backTo w3 (starEach [] X.env))) _ _ s
  refine Calls.spliced_cons (lam_make2 I TB hcode hmT hu hT hdef (LS.has I.ok) fun lf lc y1 y3 H1 s' I1 eN T1 hf hfn hfr hco => ?_)
  refine Calls.spliced_nil ⟨I1.kIn, ?_⟩
  have main : codeAny (model X.prog X.w) X.A (.call (.ref gf) ⟨[.ref lf], []⟩) (CR C8.CX0 X.stack X.prog X.w H1 s' Q C8.E0) s' := by
    refine run_ofS (N := Mg) (ps := [ar]) (us := [.ref lf]) (vs := [.ref lf]) lk hcg Sg hro I1.env0 (hb s' [.ref lf] I1.kIn rfl) (.cons rfl .nil) rfl fun hr' => ?_
    obtain ⟨t', ht', hq'⟩ := hG lf lc s' H1 Q (fun E H' Q' => t E σ H' Q') (fun W qn xq p1 p2 tk => act_at (j := 0) I1 LS hf hfn hfr (hbi _ _ _ _ _) tk hr' (fun A1 out1 s1 H1 E1 hr2 => hbo A1 out1 s1 H1 E1 lf lc hr2) hN hV h1 h2) hco (hyp H1 eN T1)
    exact ⟨t', ht'.nox, hq'⟩
  refine wpAny_call (codeAny_mono main fun r s2 hq => ?_)
  match r, hq with
  | .error e, hq => exact (show False from hq).elim
  | .ok (.ret u), hq => exact I1.after hq
  | .ok .next, hq => exact False.elim hq
  | .ok .brk, hq => exact False.elim hq
  | .ok .cont, hq => exact False.elim hq
end
end Pf

namespace Pf
open PySem PySem.Spec PyProof.Rows L2 LamX
/-! ### the word for what a lambda's call ended by -/
def PickW (K : Fg) (cls : Value) : List (Addr × Str) → (Str → Prop) → Prop
  | [], _ => False
  | (C, s) :: r, k => ∃ b, PySem.W.exmOne K cls (.ref C) = some b ∧ (b = true → k s) ∧ (b = false → PickW K cls r k)
def RRw (K : Fg) (hs : List (Addr × Str)) : (XK → Hp → VK → Prop) → Hp → VK → Prop := fun tl H Q =>
  ∀ (E' : XK) (Q' : VK), (∀ cls d H', PickW K cls hs (fun s => Q (.str s) H') → E' cls d H') → (∀ v H', Q (.str "told") H' → Q' v H') → tl E' H Q'
theorem pick_no {K : Fg} {cls : Value} {C : Addr} {s : Str} {r : List (Addr × Str)} {k : Str → Prop} (e : PySem.W.exmOne K cls (.ref C) = some false) (h : PickW K cls r k) : PickW K cls ((C, s) :: r) k := ⟨false, e, (fun z => nomatch z), fun _ => h⟩
theorem pick_yes {K : Fg} {cls : Value} {C : Addr} {s : Str} {r : List (Addr × Str)} {k : Str → Prop} (e : PySem.W.exmOne K cls (.ref C) = some true) (h : k s) : PickW K cls ((C, s) :: r) k := ⟨true, e, fun _ => h, fun z => nomatch z⟩
/-! ### tables of code objects, kept along -/
def NoT (G : Hp) : Prop := ∀ a ps, G a ≠ some (.tbl ps)
theorem NoT.step {M : Addr → Prop} {G H G' H' : Hp} (n : NoT G) (g : Gr M G H G' H') : NoT G' := fun a ps e => by
  rcases g.n a _ e with z | ⟨_, nt⟩
  · exact n a ps z
  · exact nt ps rfl
structure TbAt (G H : Hp) (P : Addr) (q : Str) : Prop where
  nt : NoT G
  out : G P = none
  tab : TabS H P q
theorem codeO_lst {c : Addr} {q : Str} (xs : List V) : CodeO c q ≠ .lst xs := fun z => by unfold CodeO at z; cases z
theorem TbAt.step {M : Addr → Prop} {G H G' H' : Hp} {P : Addr} {q : Str} (t : TbAt G H P q) (g : Gr M G H G' H') (hM : ∀ a, M a → H a = none ∨ ∃ xs, H a = some (.lst xs)) : TbAt G' H' P q := by
  obtain ⟨ps, e1, e2, e3⟩ := t.tab
  have keep : ∀ a o, H a = some o → (∀ xs, o ≠ .lst xs) → H' a = some o := fun a o e no => g.h a o (fun m => by
    rcases hM a m with z | ⟨xs, z⟩
    · rw [z] at e; cases e
    · rw [z] at e; cases e; exact no xs rfl) e
  refine ⟨t.nt.step g, g.out t.out e1, ps, keep _ _ e1 (fun _ z => by cases z), e2, fun pos cv hc => ?_⟩
  obtain ⟨c, z1, z2⟩ := e3 pos cv hc
  exact ⟨c, z1, keep _ _ z2 fun xs => codeO_lst xs⟩
theorem TbAt.step0 {G H G' H' : Hp} {P : Addr} {q : Str} (t : TbAt G H P q) (g : Gr M0 G H G' H') : TbAt G' H' P q := t.step g fun _ z => z.elim
theorem TbAt.stepB {G H G' H' : Hp} {P b : Addr} {q : Str} (t : TbAt G H P q) (g : Gr (Mb b) G H G' H') (bg : Bag G H b) : TbAt G' H' P q := t.step g fun a e => by
  cases e
  obtain ⟨_, _, _, _, _, _, eb, _⟩ := bg
  exact .inr ⟨_, eb⟩
abbrev MT (H : Hp) : Addr → Prop := fun a => ∃ ps, H a = some (.tbl ps)
theorem lam_gr {G H H1 : Hp} {P : Addr} {q : Str} (t : TbAt G H P q) (s : Same G H) (x : ExtN H H1) (T1 : Tabs [(P, q)] H1) : Gr (MT H) G H G H1 ∧ TbAt G H1 P q :=
  ⟨⟨Same.refl G, fun a o e => x a o (s a o e) (fun ps z => by subst z; exact t.nt a ps e), fun a o m e => x a o e (fun ps z => by subst z; exact m ⟨ps, e⟩), fun a o e => .inl e⟩, t.nt, t.out, T1 (P, q) (List.mem_singleton.mpr rfl)⟩
theorem Bag.lam {G H H1 : Hp} {b : Addr} (bg : Bag G H b) (g : Gr (MT H) G H G H1) : Bag G H1 b := bg.step g fun ⟨ps, z⟩ => by
  obtain ⟨_, _, _, _, _, _, eb, _⟩ := bg
  rw [eb] at z; cases z
theorem Ml.lam {α : Type} [Rep α] {G H H1 : Hp} {p : Addr} {xs : List α} (m : Ml G H p xs) (g : Gr (MT H) G H G H1) : Ml G H1 p xs := m.step g fun ⟨ps, z⟩ => by
  obtain ⟨_, vs, e, _⟩ := m
  rw [e] at z; cases z
theorem rd_word {K : Fg} {hs : List (Addr × Str)} {t : XK → TE} {σ : L2.St} {G H : Hp} {P : Addr} {q : Str} {Q : VK} (tb : TbAt G H P q) (s : Same G H)
    (h : ∀ H1, Gr (MT H) G H G H1 → TbAt G H1 P q → ∀ (E' : XK) (Q' : VK), (∀ cls d H', PickW K cls hs (fun s => Q (.str s) H') → E' cls d H') → (∀ v H', Q (.str "told") H' → Q' v H') → t E' σ H1 Q') : tLam [(P, q)] (RRw K hs) t σ H Q :=
  ⟨fun p hp => by rw [List.mem_singleton.mp hp]; exact tb.tab, fun H1 x T1 E' Q' h1 h2 => by
    obtain ⟨g, tb1⟩ := lam_gr tb s x T1
    exact h H1 g tb1 E' Q' h1 h2⟩
/-- the heap without its tables -/
def less (H : Hp) : Hp := fun a => match H a with
  | some (.tbl _) => none
  | o => o
theorem less_of {H : Hp} {a : Addr} {o : HO} (e : H a = some o) (n : ∀ ps, o ≠ .tbl ps) : less H a = some o := by
  unfold less
  rw [e]
  cases o with
  | tbl ps => exact absurd rfl (n ps)
  | _ => rfl
theorem less_c {H : Hp} {a : Addr} {o : HO} (e : less H a = some o) : H a = some o ∧ ∀ ps, o ≠ .tbl ps := by
  unfold less at e
  cases q : H a with
  | none => rw [q] at e; cases e
  | some u =>
    rw [q] at e
    cases u with
    | tbl ps => cases e
    | _ => cases e; exact ⟨rfl, fun ps z => by cases z⟩
theorem less_same {H : Hp} : Same (less H) H := fun a o e => (less_c e).1
theorem less_noT {H : Hp} : NoT (less H) := fun a ps e => (less_c e).2 ps rfl
theorem less_sq {K : Fg} {H : Hp} {a : Addr} {xs : List V} (h : SqL K H a xs) : SqL K (less H) a xs := by
  rcases h with (e | ⟨o, e⟩) | h
  · exact .inl (.inl (less_of e fun ps z => by cases z))
  · exact .inl (.inr ⟨o, less_of e fun ps z => by cases z⟩)
  · exact .inr h
theorem less_tab {H : Hp} {P : Addr} {q : Str} (h : H P = some (.tbl #[])) : TbAt (less H) H P q := ⟨less_noT, by unfold less; rw [h], TabS.nil h⟩
/-! ### a def whose code object is known -/
structure FunC (K : Fg) (x : Str) (st : Stmt) (f : Addr) (fd : FuncData) (c : Addr) : Prop where
  ex : ∃ (oc : Value) (od : Option Addr) (kV doc pm : Value) (an : Option Addr) (ct : Value) (osl : Array (Option Value)),
    fd = PySem.W.fnOf x x (defArgs st) (defBody st) (defScope st) .none kV doc pm an (.ref c) ct ∧ K.lookup f = some ⟨oc, od, .func fd, osl⟩ ∧ PySem.W.codeIn K (.ref c) x = true
theorem FunC.ok {P : Program} {w : World} {K : Fg} {mg : Str → Option Value} {base : Heap} {x : Str} {st : Stmt} {f c : Addr} {fd : FuncData} {N ps : List Str} {k : Nat} {sp : Sp} (F : FunC K x st f fd c) (S : FnScope N ps (defScope st)) (len : ∀ vs H Q E, sp vs H Q E → vs.length = ps.length)
    (hbody : ∀ (A : Around) (outer : List Env) (s : Shared) (H : Hp) (vs : List V) (Q : VK) (E : XK), Room k (A.deeper (envOfC x (defScope st) s.heap.objs.size f (.ref c))) → sp vs H Q E →
      ∃ t, PSs (cxOf CX0 P w K mg base N x (defScope st) f (.ref c) A outer s H E).nox (defBody st) t ∧ t { nx := fun _ H' => Q .non H', rt := Q } (start N vs) H) : FnOk P w K mg base CX0 (k + 1) f fd ps sp := by
  obtain ⟨oc, od, kV, doc, pm, an, ct, osl, rfl, lk, hcd⟩ := F.ex
  refine fn_of lk hcd S len fun A outer s H vs Q E hr hsp => ?_
  obtain ⟨t, h, q⟩ := hbody A outer s H vs Q E hr hsp
  exact ⟨t, h.nox, q⟩
def spLawT (K : Fg) (P : Addr) : Sp := fun vs H Q _ => ∃ (a : Addr) (ns : List Int), vs = [.ref a] ∧ SqL K H a (ns.map V.int) ∧ ns.length ≤ 63 ∧ H P = some (.tbl #[]) ∧ ∀ H', Q (.bl true) H'
section
variable {α β γ δ : Type} [Rep α] [Rep β] [Rep γ] [Rep δ]
def spX3 (pre : α → β → γ → Prop) (C : Addr) : Sp := fun vs H _ E => ∃ v x v2 x2 v3 x3 G, vs = [v, v2, v3] ∧ Same G H ∧ rep G v x ∧ rep G v2 x2 ∧ rep G v3 x3 ∧ pre x x2 x3 ∧ ∀ G' H', Gr M0 G H G' H' → E (.ref C) none H'
def spX4 (pre : α → β → γ → δ → Prop) (C : Addr) : Sp := fun vs H _ E => ∃ v x v2 x2 v3 x3 v4 x4 G, vs = [v, v2, v3, v4] ∧ Same G H ∧ rep G v x ∧ rep G v2 x2 ∧ rep G v3 x3 ∧ rep G v4 x4 ∧ pre x x2 x3 x4 ∧ ∀ G' H', Gr M0 G H G' H' → E (.ref C) none H'
end
end Pf

namespace Pf
open PySem PySem.Spec PyProof.Rows L2
/-! ### a number or None as data; texts as data -/
section
variable {σ : L2.St} {G H : Hp} {te : TE}
theorem ev_some {i : Int} (h : Ev te σ G i) : Ev te σ G (some i) := fun H s Q q => h H s Q fun v G' H' g r => q v G' H' g (by cases r; rfl)
theorem ev_noneO : Ev (tC .non) σ G (none : Option Int) := ev_c rfl
def datO : Option Int → PyData
  | none => .none
  | some i => .int i
theorem ev_datO {o : Option Int} (h : Ev te σ G o) : Ev te σ G (datO o) := fun H s Q q => h H s Q fun v G' H' g r => q v G' H' g (by
  cases o with
  | none => exact (show RD G' .none v from rep_on r)
  | some i => exact (show RD G' (.int i) v from rep_os r))
theorem okN_O (n : Nat) (o : Option Int) : OkN n (datO o) := by
  cases o with
  | none => exact okN_flat n rfl rfl
  | some i => exact okN_flat n rfl rfl
end
theorem ev_neW {σ : L2.St} {G : Hp} {ta tb : TE} {K : Fg} {d e : PyData} (ha : Ev ta σ G d) (hb : Ev tb σ G e) (h1 : SeqAt.shaped d = true) (h2 : SeqAt.shaped e = true) : Ev (tOp (rNeD K) ta tb) σ G (!PyData.eqv d e) :=
  ev2 ha hb fun v u G' _ k1 k2 H i Q q => ⟨d, e, rd_dp i _ _ k1, rd_dp i _ _ k2, h1, h2, q _ G' H (Gr.refl i) rfl⟩
end Pf

namespace Pf
open PySem PySem.Spec PyProof.Rows L2
/-! ### {k: v}, k a tuple -/
section
variable {prog : Program} {w : World} {κ : Type} [DecidableEq κ] {kn : HeapKind prog w κ} {A : Around} {E : Value → Shared → Prop} {s : Shared}
theorem disp_at {env : Env} {ks : List (Option Expr)} {vs : List Expr} {pos : Pos} {prs : List (Sem Value × Sem Value)} {Q : Value → Shared → Prop} (hu : kn.room A)
    (hsh : (evalEachOpt ks env).zip ((evalEach vs env).map fun v => do let x ← v; standAt pos; pure x) = prs.map fun p => (some p.1, p.2)) (hne : prs ≠ []) (hle : prs.length ≤ 15)
    (h : wpAny (model prog w) A (evalPairs prs) (fun us s1 => ∃ ps, CarriesH kn s1.heap us ps ∧ s1.heap.DictOfH kn s.heap.objs.size [] ∧
      ∀ h2 t2, h2.DictOfH kn s.heap.objs.size (storedAllH [] ps) → Heap.SameBut s.heap.objs.size s1.heap h2 → Q (.ref s.heap.objs.size) { s1 with heap := h2, toks := t2 }) E
      { s with heap := s.heap.push { cls := .type "dict", data := .dict #[] } }) : wpAny (model prog w) A (eval (.Dict ks vs pos) env) Q E s := by
  rw [arm_eval_Dict, hsh, dictDisplay_pairs prs hne (by omega)]
  refine wpAny_bind (wpAny_standAt (wpAny_bind (wpAny_subDictH (knd := kn) hu hle ?_)))
  refine wpAny_mono h (fun us s1 z => ?_) fun _ _ e => e
  obtain ⟨ps, hc, hm, hq⟩ := z
  exact ⟨ps, hc, hm, fun h2 t2 a b => wpAny_pure (hq h2 t2 a b)⟩
end
def tDisp1 (tk tv : TE) : TE := fun σ H Q => ∀ p, H p = none → tk σ (upd H p (.dT [])) fun x H1 => tv σ H1 fun y H2 => ∃ (k : List Key) (b : Addr), x = .ref b ∧ H2 b = some (.tup (k.map kV)) ∧ H2 p = some (.dT []) ∧ Q (.ref p) (upd H2 p (.dT [(k, y)]))
theorem pe_disp1 {X : Cx} {pos : Pos} {k v : Expr} {tk tv : TE} (hu : X.A.units + 1 < cLine) (hk : PE X k tk) (hv : PE X v tv) : PE X (.Dict [some k] [v] pos) (tDisp1 tk tv) := by
  refine ⟨fun pins s σ H Q I q => ?_⟩
  have hn := I.hok.fresh (Nat.le_refl s.heap.objs.size)
  have I1 := I.laid (a := s.heap.objs.size) (o := .dT []) (h' := s.heap.push { cls := .type "dict", data := .dict #[] }) (t' := s.toks) (fun _ _ z => Heap.get?_push_of_some _ z) (Nat.le_refl _) (dt_empty s.heap I.big)
  have P1 : PPs X pos [some k] [v] [(tk, tv)] := pps_cons hk hv pps_nil
  refine disp_at (kn := tupleKind (mixKind X.prog X.w)) (prs := pairTrees [some k] [v] X.env pos) (show X.A.units < cLine by omega) (zip_pairTrees _ _ _ _ rfl rfl) (fun z => ?_) ?_ ?_
  · have := pairTrees_length [some k] [v] X.env pos rfl rfl
    rw [z] at this
    cases this
  · rw [pairTrees_length [some k] [v] X.env pos rfl rfl]; exact (show 1 ≤ 15 by decide)
  refine thn (P1.run pins _ σ _ (fun ps H2 => match ps with | [(x, y)] => ∃ (k : List Key) (b : Addr), x = .ref b ∧ H2 b = some (.tup (k.map kV)) ∧ H2 s.heap.objs.size = some (.dT []) ∧ Q (.ref s.heap.objs.size) (upd H2 s.heap.objs.size (.dT [(k, y)])) | _ => False) I1 (q _ hn)) fun ws s2 hyp => ?_
  obtain ⟨ps, H2, I2, rel, hq⟩ := hyp
  match ps, rel, hq with
  | [(x, y)], rel, hq =>
    obtain ⟨kk, b, rfl, eb, e, hq⟩ := hq
    cases rel with
    | @cons _ uv _ _ r rest =>
      cases rest
      obtain ⟨u1, v1⟩ := uv
      cases (show u1 = Value.ref b from r.1)
      obtain ⟨z, hd, xs, kt, dd⟩ := dt_of I2.hok e
      cases kt
      refine ⟨[(kk, b, v1)], ⟨rfl, rfl, key_of I2.hok eb, trivial⟩, dd, fun h2 t2 dd2 hs => ⟨.ref s.heap.objs.size, _, ?_, rfl, hq⟩⟩
      obtain ⟨o2, es, ep, g1, g2, g3, g4, _, g5⟩ := dd2
      refine d_write I2 (by rw [e]; exact True.intro) hs ⟨o2, g1⟩ ⟨show 1 ≤ sizeLine by decide, hd, [(kk, b, v1)], .cons ⟨rfl, ?_, r.2⟩ .nil, o2, es, ep, g1, g2, g3, g4, g5⟩
      rw [upd_ne (ne_of eb e (fun z => nomatch z))]
      exact eb
section
variable {κ α : Type} [Rep κ] [TK κ] [DecidableEq κ] [Rep α] {σ : L2.St} {G H : Hp} {ta tb : TE} {D : Ends} {u : TS}
/-- d = {k: e} -/
theorem sq_disp1 {i : Nat} {k : κ} {x : α} (hk : Ev ta σ G k) (hx : Ev tb σ G x) (s : Same G H) (q : ∀ d G' H' o, Gr M0 G H G' H' → H d = none → Mt G' (upd H' d o) d [(k, x)] → Same G' (upd H' d o) → u D (σ.set i (some (.ref d))) (upd H' d o)) : tSeq (tAsg (tDisp1 ta tb) (gName i)) u D σ H := fun d nd => by
  have g0 : Gr M0 G H G (upd H d (.dT [])) := (Gr.refl s).mut (.inl nd) (up_none s nd)
  refine hk _ g0.i _ fun v G1 H1 g1 r1 => (hx.mono g1.g) H1 g1.i _ fun y G2 H2 g2 r2 => ?_
  obtain ⟨b, rfl, eb⟩ := TK.of r1
  have e2 : H2 d = some (.dT []) := (g1.trans g2).same _ _ upd_same
  have n2 : G2 d = none := (g1.trans g2).out (up_none s nd) upd_same
  refine ⟨TK.ky k, b, rfl, g2.i _ _ (g2.g _ _ eb), e2, ?_⟩
  exact q d G2 H2 _ (g0.trans (g1.trans g2)) nd ⟨n2, _, upd_same, .cons ⟨rfl, r2⟩ .nil⟩ (same_mut g2.i n2)
end
end Pf

namespace Pf
open PySem PySem.Spec PyProof.Rows L2
/-! ### round tours -/
abbrev Ways : List Str := [sE, sO]
theorem other_in (way : Str) : otherW way ∈ Ways := by unfold otherW; split <;> simp
/-- how many leaves the stack of a way has -/
def wd (p : Plan) (s : Int × Int) (way : Str) : Int := if way = sE then (s.2 - s.1) % p.1 else (s.1 - s.2) % p.1
theorem wd_none {p : Plan} (h : isPlanM p = true) {s : Int × Int} {way : Str} (j : Jn p s.1 s.2) (e : thW p s way = none) : wd p s way = 1 := by
  have ne := j.ne h
  have h3 := (plan_facts h).1
  have one : ∀ {a b : Int}, 0 ≤ a → a < p.1 → (a + 1) % p.1 = b → (b - a) % p.1 = 1 := fun {a b} h0 h1 z => by
    rw [← z, Int.emod_sub_emod, show a + 1 - a = 1 by omega, Int.emod_eq_of_lt (by omega) (by omega)]
  unfold thW at e
  unfold wd
  split at e
  · rename_i hw
    rw [if_pos hw]
    rw [← look_th h j] at e
    exact one (by omega) (by omega) ((look_none h j).mp e)
  · rename_i hw
    rw [if_neg hw]
    rw [← look_th h j.sym] at e
    exact one (by omega) (by omega) ((look_none h j.sym).mp e)
theorem wd_some {p : Plan} (h : isPlanM p = true) {s : Int × Int} {way : Str} {c : Int} (j : Jn p s.1 s.2) (e : thW p s way = some c) :
    wd p (c, s.1) (otherW way) + wd p (s.2, c) (otherW way) = wd p s way ∧ 1 ≤ wd p (c, s.1) (otherW way) ∧ 1 ≤ wd p (s.2, c) (otherW way) := by
  rcases (th_some h j).mp e with ⟨rfl, t⟩ | ⟨hw, t⟩
  · have n1 := t.sv.ne h
    have n2 := t.ve.ne h
    obtain ⟨w1, w2, w3⟩ := cy_w (n := p.1) (by omega) (by omega) (by omega) t.cy
    unfold wd
    rw [other_e, if_neg (by decide), if_neg (by decide), if_pos rfl]
    exact ⟨w1, w2, w3⟩
  · have n1 := t.sv.ne h
    have n2 := t.ve.ne h
    obtain ⟨w1, w2, w3⟩ := cy_w (n := p.1) (by omega) (by omega) (by omega) t.cy
    unfold wd
    rw [other_ne hw, if_pos rfl, if_pos rfl, if_neg hw]
    show (s.1 - c) % p.1 + (c - s.2) % p.1 = (s.1 - s.2) % p.1 ∧ 1 ≤ (s.1 - c) % p.1 ∧ 1 ≤ (c - s.2) % p.1
    omega
abbrev Stp := Str × (Int × Int)
def tvN (p : Plan) : Nat → (Int × Int) → Str → List Stp
  | 0, _, _ => []
  | k + 1, s, way => match thW p s way with
    | none => []
    | some c => (way, (c, s.1)) :: (tvN p k (c, s.1) (otherW way) ++ (way, (s.2, c)) :: (tvN p k (s.2, c) (otherW way) ++ [(way, s)]))
/-- each is the place behind a pinch of its way, from the one ahead -/
def okc (p : Plan) : (Int × Int) → List Stp → Prop
  | _, [] => True
  | s, (w, q) :: r => (w ∈ Ways ∧ Jn p s.1 s.2 ∧ ∃ c, thW p s w = some c ∧ q = (c, s.1)) ∧ okc p q r
def lastP : (Int × Int) → List Stp → Int × Int
  | s, [] => s
  | _, (_, q) :: r => lastP q r
theorem lastP_app : ∀ (s : Int × Int) (l r : List Stp), lastP s (l ++ r) = lastP (lastP s l) r
  | _, [], _ => rfl
  | _, (_, q) :: l, r => lastP_app q l r
theorem okc_app {p : Plan} : ∀ {s : Int × Int} {l r : List Stp}, okc p s l → okc p (lastP s l) r → okc p s (l ++ r)
  | _, [], _, _, h => h
  | _, (_, q) :: l, r, h1, h2 => ⟨h1.1, okc_app h1.2 h2⟩
theorem tv_ok {p : Plan} (h : isPlanM p = true) : ∀ (k : Nat) (s : Int × Int) (way : Str), way ∈ Ways → Jn p s.1 s.2 → wd p s way ≤ k → okc p s (tvN p k s way) ∧ lastP s (tvN p k s way) = s ∧ ((tvN p k s way).length : Int) = 3 * (wd p s way - 1) := by
  intro k
  induction k with
  | zero =>
    intro s way hw j hk
    exfalso
    cases e : thW p s way with
    | none => rw [wd_none h j e] at hk; omega
    | some c => have := wd_some h j e; omega
  | succ k ih =>
    intro s way hw j hk
    cases e : thW p s way with
    | none =>
      have : tvN p (k + 1) s way = [] := by unfold tvN; rw [e]
      rw [this, wd_none h j e]
      exact ⟨trivial, rfl, rfl⟩
    | some c =>
      have eq : tvN p (k + 1) s way = (way, (c, s.1)) :: (tvN p k (c, s.1) (otherW way) ++ (way, (s.2, c)) :: (tvN p k (s.2, c) (otherW way) ++ [(way, s)])) := by
        conv => lhs; unfold tvN
        rw [e]
      obtain ⟨w1, w2, w3⟩ := wd_some h j e
      have pn := pin_of h j e
      obtain ⟨a1, a2, a3⟩ := ih (c, s.1) (otherW way) (other_in way) pn.j1 (by omega)
      obtain ⟨b1, b2, b3⟩ := ih (s.2, c) (otherW way) (other_in way) pn.j2 (by omega)
      rw [eq]
      refine ⟨⟨⟨hw, j, c, e, rfl⟩, okc_app a1 ?_⟩, ?_, ?_⟩
      · rw [a2]
        refine ⟨⟨hw, pn.j1, s.2, pn.t1, rfl⟩, okc_app b1 ?_⟩
        rw [b2]
        exact ⟨⟨hw, pn.j2, s.1, pn.t2, rfl⟩, trivial⟩
      · show lastP (c, s.1) (tvN p k (c, s.1) (otherW way) ++ (way, (s.2, c)) :: (tvN p k (s.2, c) (otherW way) ++ [(way, s)])) = s
        rw [lastP_app, a2]
        show lastP (s.2, c) (tvN p k (s.2, c) (otherW way) ++ [(way, s)]) = s
        rw [lastP_app]
        rfl
      · rw [List.length_cons, List.length_append, List.length_cons, List.length_append]
        show ((_ + (_ + 1 + 1) + 1 : Nat) : Int) = _
        omega
/-! all lines of an arc are met -/
theorem no_crossC {p : Plan} (h : isPlanM p = true) {x y z v : Int} (c1 : Cy x y z) (c2 : Cy x z v) (j1 : Jn p x z) (j2 : Jn p y v) : False := by
  unfold Cy at c1 c2
  by_cases d1 : x < y ∧ y < z ∧ z < v
  · exact no_cross h d1.1 d1.2.1 d1.2.2 j1 j2
  by_cases d2 : y < z ∧ z < v ∧ v < x
  · exact no_cross h d2.1 d2.2.1 d2.2.2 j2 j1.sym
  by_cases d3 : z < v ∧ v < x ∧ x < y
  · exact no_cross h d3.1 d3.2.1 d3.2.2 j1.sym j2.sym
  by_cases d4 : v < x ∧ x < y ∧ y < z
  · exact no_cross h d4.1 d4.2.1 d4.2.2 j2.sym j1
  omega
/-- x lies in the closed arc from a to b -/
def InA (a b x : Int) : Prop := x = a ∨ x = b ∨ Cy a x b
end Pf

namespace Pf
open PySem PySem.Spec PyProof.Rows L2
/-- how far x is behind a, going round -/
def dst (n a x : Int) : Int := if x < a then x - a + n else x - a
theorem dst_cy {n a x y z : Int} (ha : 0 ≤ a ∧ a < n) (hx : 0 ≤ x ∧ x < n) (hy : 0 ≤ y ∧ y < n) (hz : 0 ≤ z ∧ z < n) (h1 : dst n a x < dst n a y) (h2 : dst n a y < dst n a z) : Cy x y z := by
  unfold dst at h1 h2
  unfold Cy
  split at h1 <;> split at h1 <;> split at h2 <;> split at h2 <;> omega
theorem dst_cross {p : Plan} (h : isPlanM p = true) {a x y z v : Int} (ha : 0 ≤ a ∧ a < p.1) (h1 : dst p.1 a x < dst p.1 a y) (h2 : dst p.1 a y < dst p.1 a z) (h3 : dst p.1 a z < dst p.1 a v) (j1 : Jn p x z) (j2 : Jn p y v) : False := by
  have n1 := j1.ne h
  have n2 := j2.ne h
  exact no_crossC h (dst_cy ha (by omega) (by omega) (by omega) h1 h2) (dst_cy ha (by omega) (by omega) (by omega) (by omega) h3) j1 j2
theorem dst_eq {n a x y : Int} (ha : 0 ≤ a ∧ a < n) (hx : 0 ≤ x ∧ x < n) (hy : 0 ≤ y ∧ y < n) (h : dst n a x = dst n a y) : x = y := by
  unfold dst at h
  split at h <;> split at h <;> omega
theorem dst_self (n a : Int) : dst n a a = 0 := by unfold dst; rw [if_neg (by omega)]; omega
theorem dst_nn {n a x : Int} (ha : 0 ≤ a ∧ a < n) (hx : 0 ≤ x ∧ x < n) : 0 ≤ dst n a x ∧ dst n a x < n := by unfold dst; split <;> omega
theorem dst_of_cy {n a c b : Int} (ha : 0 ≤ a ∧ a < n) (hc : 0 ≤ c ∧ c < n) (hb : 0 ≤ b ∧ b < n) (h : Cy a c b) : 0 < dst n a c ∧ dst n a c < dst n a b := by
  unfold Cy at h
  unfold dst
  split <;> split <;> omega
theorem dst_shift {n a c x : Int} (ha : 0 ≤ a ∧ a < n) (hc : 0 ≤ c ∧ c < n) (hx : 0 ≤ x ∧ x < n) (h : dst n a c ≤ dst n a x) : dst n c x = dst n a x - dst n a c := by
  unfold dst at h ⊢
  split at h <;> split at h <;> split <;> omega
/-- within an arc with the third corner c, a line is that of the arc or lies on one side of c -/
theorem arc_line {p : Plan} (h : isPlanM p = true) {a b c x y : Int} (t : Tr p a c b) (j : Jn p x y) (hx : dst p.1 a x ≤ dst p.1 a b) (hy : dst p.1 a y ≤ dst p.1 a b) :
    lawPair x y = lawPair a b ∨ (dst p.1 a x ≤ dst p.1 a c ∧ dst p.1 a y ≤ dst p.1 a c) ∨ (dst p.1 c x ≤ dst p.1 c b ∧ dst p.1 c y ≤ dst p.1 c b) := by
  have n0 := j.ne h
  have n1 := t.sv.ne h
  have n2 := t.ve.ne h
  have ha : 0 ≤ a ∧ a < p.1 := by omega
  obtain ⟨d1, d2⟩ := dst_of_cy ha (by omega) (by omega) t.cy
  have d0 := dst_self p.1 a
  have ex := dst_nn ha (x := x) (by omega)
  have ey := dst_nn ha (x := y) (by omega)
  have key : ∀ {x y : Int}, Jn p x y → 0 ≤ dst p.1 a x → dst p.1 a y ≤ dst p.1 a b → dst p.1 a x < dst p.1 a c → dst p.1 a c < dst p.1 a y → x = a ∧ y = b := fun {x y} j k0 k1 k2 k3 => by
    have m := j.ne h
    by_cases z : dst p.1 a x = 0
    · have xa : x = a := dst_eq ha (by omega) (by omega) (by rw [z, d0])
      subst xa
      refine ⟨rfl, ?_⟩
      by_cases z2 : dst p.1 x y = dst p.1 x b
      · exact dst_eq ha (by omega) (by omega) z2
      · exact (dst_cross h ha (x := x) (y := c) (z := y) (v := b) (by omega) k3 (by omega) j t.ve).elim
    · exact (dst_cross h ha (x := a) (y := x) (z := c) (v := y) (by omega) k2 k3 t.sv j).elim
  by_cases c1 : dst p.1 a x < dst p.1 a c
  · by_cases c2 : dst p.1 a c < dst p.1 a y
    · obtain ⟨rfl, rfl⟩ := key j ex.1 hy c1 c2
      exact .inl rfl
    · exact .inr (.inl ⟨by omega, by omega⟩)
  · by_cases c2 : dst p.1 a y < dst p.1 a c
    · by_cases c3 : dst p.1 a c < dst p.1 a x
      · obtain ⟨rfl, rfl⟩ := key j.sym ey.1 hx c2 c3
        exact .inl (lp_sym _ _)
      · exact .inr (.inl ⟨by omega, by omega⟩)
    · right; right
      rw [dst_shift ha (by omega) (by omega) (show dst p.1 a c ≤ dst p.1 a x by omega), dst_shift ha (by omega) (by omega) (show dst p.1 a c ≤ dst p.1 a y by omega), dst_shift ha (by omega) (by omega) (show dst p.1 a c ≤ dst p.1 a b by omega)]
      omega
def stA (s : Int × Int) (way : Str) : Int := if way = sE then s.1 else s.2
def enA (s : Int × Int) (way : Str) : Int := if way = sE then s.2 else s.1
theorem dst_w {n a b : Int} (ha : 0 ≤ a ∧ a < n) (hb : 0 ≤ b ∧ b < n) : dst n a b = (b - a) % n := (arc_w ha hb).symm
theorem wd_dst {p : Plan} (h : isPlanM p = true) {s : Int × Int} (j : Jn p s.1 s.2) (way : Str) : wd p s way = dst p.1 (stA s way) (enA s way) := by
  have ne := j.ne h
  unfold wd stA enA
  split
  · rw [dst_w (by omega) (by omega)]
  · rw [dst_w (by omega) (by omega)]
theorem st_line (s : Int × Int) (way : Str) : lawPair (stA s way) (enA s way) = lawPair s.1 s.2 := by
  unfold stA enA
  split
  · rfl
  · exact lp_sym _ _
theorem tv_cov {p : Plan} (h : isPlanM p = true) : ∀ (k : Nat) (s : Int × Int) (way : Str), way ∈ Ways → Jn p s.1 s.2 → wd p s way ≤ k → ∀ x y, Jn p x y → dst p.1 (stA s way) x ≤ dst p.1 (stA s way) (enA s way) → dst p.1 (stA s way) y ≤ dst p.1 (stA s way) (enA s way) →
    lawPair x y = lawPair s.1 s.2 ∨ ∃ e ∈ tvN p k s way, lawPair e.2.1 e.2.2 = lawPair x y := by
  intro k
  induction k with
  | zero =>
    intro s way hw j hk
    exfalso
    cases e : thW p s way with
    | none => rw [wd_none h j e] at hk; omega
    | some c => have := wd_some h j e; omega
  | succ k ih =>
    intro s way hw j hk x y jx hx hy
    have ne := j.ne h
    have nx := jx.ne h
    have hst : 0 ≤ stA s way ∧ stA s way < p.1 := by unfold stA; split <;> omega
    have hen : 0 ≤ enA s way ∧ enA s way < p.1 := by unfold enA; split <;> omega
    cases e : thW p s way with
    | none =>
      left
      have w1 := wd_dst h j way
      rw [wd_none h j e] at w1
      have d0 := dst_self p.1 (stA s way)
      have ex := dst_nn hst (x := x) (by omega)
      have ey := dst_nn hst (x := y) (by omega)
      have nd : dst p.1 (stA s way) x ≠ dst p.1 (stA s way) y := fun z => nx.2.2.2.2 (dst_eq hst (by omega) (by omega) z)
      rw [← st_line s way]
      by_cases z : dst p.1 (stA s way) x = 0
      · have xa := dst_eq hst (by omega) hst (z.trans d0.symm)
        have yb := dst_eq hst (y := enA s way) (show 0 ≤ y ∧ y < p.1 by omega) hen (by omega)
        rw [xa, yb]
      · have xa := dst_eq hst (y := enA s way) (show 0 ≤ x ∧ x < p.1 by omega) hen (by omega)
        have yb := dst_eq hst (show 0 ≤ y ∧ y < p.1 by omega) hst (show dst p.1 (stA s way) y = dst p.1 (stA s way) (stA s way) by omega)
        rw [xa, yb, lp_sym]
    | some c =>
      have eq : tvN p (k + 1) s way = (way, (c, s.1)) :: (tvN p k (c, s.1) (otherW way) ++ (way, (s.2, c)) :: (tvN p k (s.2, c) (otherW way) ++ [(way, s)])) := by
        conv => lhs; unfold tvN
        rw [e]
      obtain ⟨w1, w2, w3⟩ := wd_some h j e
      have pn := pin_of h j e
      have t : Tr p (stA s way) c (enA s way) := by
        unfold stA enA
        rcases (th_some h j).mp e with ⟨z, t⟩ | ⟨z, t⟩
        · rw [if_pos z, if_pos z]; exact t
        · rw [if_neg z, if_neg z]; exact t
      have one : ∀ {x y : Int}, Jn p x y → dst p.1 (stA (c, s.1) (otherW way)) x ≤ dst p.1 (stA (c, s.1) (otherW way)) (enA (c, s.1) (otherW way)) → dst p.1 (stA (c, s.1) (otherW way)) y ≤ dst p.1 (stA (c, s.1) (otherW way)) (enA (c, s.1) (otherW way)) → ∃ e ∈ tvN p (k + 1) s way, lawPair e.2.1 e.2.2 = lawPair x y := fun {x y} jx h1 h2 => by
        rw [eq]
        rcases ih (c, s.1) (otherW way) (other_in way) pn.j1 (by omega) x y jx h1 h2 with z | ⟨e, he, z⟩
        · exact ⟨_, List.mem_cons_self, z.symm⟩
        · exact ⟨e, List.mem_cons_of_mem _ (List.mem_append_left _ he), z⟩
      have two : ∀ {x y : Int}, Jn p x y → dst p.1 (stA (s.2, c) (otherW way)) x ≤ dst p.1 (stA (s.2, c) (otherW way)) (enA (s.2, c) (otherW way)) → dst p.1 (stA (s.2, c) (otherW way)) y ≤ dst p.1 (stA (s.2, c) (otherW way)) (enA (s.2, c) (otherW way)) → ∃ e ∈ tvN p (k + 1) s way, lawPair e.2.1 e.2.2 = lawPair x y := fun {x y} jx h1 h2 => by
        rw [eq]
        rcases ih (s.2, c) (otherW way) (other_in way) pn.j2 (by omega) x y jx h1 h2 with z | ⟨e, he, z⟩
        · exact ⟨_, List.mem_cons_of_mem _ (List.mem_append_right _ List.mem_cons_self), z.symm⟩
        · exact ⟨e, List.mem_cons_of_mem _ (List.mem_append_right _ (List.mem_cons_of_mem _ (List.mem_append_left _ he))), z⟩
      rcases arc_line h t jx hx hy with z | z | z
      · left; rw [z, st_line]
      · right
        by_cases hw' : way = sE
        · subst hw'
          refine one jx ?_ ?_ <;> rw [other_e]
          · exact z.1
          · exact z.2
        · have eo := other_ne hw'
          unfold stA at z
          rw [if_neg hw'] at z
          refine two jx ?_ ?_ <;> rw [eo]
          · exact z.1
          · exact z.2
      · right
        by_cases hw' : way = sE
        · subst hw'
          refine two jx ?_ ?_ <;> rw [other_e]
          · exact z.1
          · exact z.2
        · have eo := other_ne hw'
          unfold enA at z
          rw [if_neg hw'] at z
          refine one jx ?_ ?_ <;> rw [eo]
          · exact z.1
          · exact z.2
/-- a line lies on one side of another one -/
theorem two_sides {p : Plan} (h : isPlanM p = true) {s : Int × Int} (j : Jn p s.1 s.2) {x y : Int} (jx : Jn p x y) :
    (dst p.1 s.1 x ≤ dst p.1 s.1 s.2 ∧ dst p.1 s.1 y ≤ dst p.1 s.1 s.2) ∨ (dst p.1 s.2 x ≤ dst p.1 s.2 s.1 ∧ dst p.1 s.2 y ≤ dst p.1 s.2 s.1) := by
  have ne := j.ne h
  have nx := jx.ne h
  have conv : ∀ {z : Int}, 0 ≤ z ∧ z < p.1 → (dst p.1 s.1 s.2 ≤ dst p.1 s.1 z ∨ dst p.1 s.1 z = 0) → dst p.1 s.2 z ≤ dst p.1 s.2 s.1 := fun {z} hz hh => by
    unfold dst at hh ⊢
    split at hh <;> split at hh <;> split <;> split <;> omega
  have d0 := dst_self p.1 s.1
  have ex := dst_nn (n := p.1) (a := s.1) (x := x) (by omega) (by omega)
  have ey := dst_nn (n := p.1) (a := s.1) (x := y) (by omega) (by omega)
  have key : ∀ {x y : Int}, Jn p x y → 0 < dst p.1 s.1 x → dst p.1 s.1 x < dst p.1 s.1 s.2 → dst p.1 s.1 s.2 < dst p.1 s.1 y → False := fun {x y} jx k1 k2 k3 => dst_cross h (a := s.1) (by omega) (x := s.1) (y := x) (z := s.2) (v := y) (by omega) k2 k3 j jx
  by_cases c1 : dst p.1 s.1 x ≤ dst p.1 s.1 s.2 ∧ dst p.1 s.1 y ≤ dst p.1 s.1 s.2
  · exact .inl c1
  right
  have a1 : dst p.1 s.1 s.2 ≤ dst p.1 s.1 x ∨ dst p.1 s.1 x = 0 := by
    apply Classical.byContradiction
    intro z
    exact key jx (by omega) (by omega) (by omega)
  have a2 : dst p.1 s.1 s.2 ≤ dst p.1 s.1 y ∨ dst p.1 s.1 y = 0 := by
    apply Classical.byContradiction
    intro z
    exact key jx.sym (by omega) (by omega) (by omega)
  exact ⟨conv (by omega) a1, conv (by omega) a2⟩
/-- all lines are met by a tour -/
theorem tour_cov {p : Plan} (h : isPlanM p = true) {s : Int × Int} (j : Jn p s.1 s.2) {x y : Int} (jx : Jn p x y) : lawPair x y = lawPair s.1 s.2 ∨ ∃ e ∈ tvN p 40 s sE ++ tvN p 40 s sO, lawPair e.2.1 e.2.2 = lawPair x y := by
  obtain ⟨h3, h40, _⟩ := plan_facts h
  have ne := j.ne h
  have wl : ∀ way, wd p s way ≤ (40 : Nat) := fun way => by
    unfold wd
    split
    · have := Int.emod_lt_of_pos (s.2 - s.1) (show 0 < p.1 by omega); omega
    · have := Int.emod_lt_of_pos (s.1 - s.2) (show 0 < p.1 by omega); omega
  rcases two_sides h j jx with z | z
  · rcases tv_cov h 40 s sE (by simp) j (wl _) x y jx z.1 z.2 with q | ⟨e, he, q⟩
    · exact .inl q
    · exact .inr ⟨e, List.mem_append_left _ he, q⟩
  · rcases tv_cov h 40 s sO (by simp) j (wl _) x y jx z.1 z.2 with q | ⟨e, he, q⟩
    · exact .inl q
    · exact .inr ⟨e, List.mem_append_right _ he, q⟩
end Pf

namespace Pf
open PySem PySem.Spec PyProof.Rows L2
section
variable {α β γ δ : Type} [Rep α] [Rep β] [Rep γ] [Rep δ] {σ : L2.St} {G H : Hp} {ta tb tc : TE} {K : Fg} {x : α} {x2 : β} {x3 : γ}
def spL3 (pre : α → β → γ → Prop) (f : α → β → γ → List δ) : Sp := fun vs H Q _ => ∃ v x v2 x2 v3 x3 G, vs = [v, v2, v3] ∧ Same G H ∧ rep G v x ∧ rep G v2 x2 ∧ rep G v3 x3 ∧ pre x x2 x3 ∧ ∀ p G' H', Gr M0 G H G' H' → H p = none → Ml G' H' p (f x x2 x3) → Q (.ref p) H'
theorem en_call3 {pre : α → β → γ → Prop} {f : α → β → γ → List δ} (ha : Ev ta σ G x) (hb : Ev tb σ G x2) (hc : Ev tc σ G x3) (hp : pre x x2 x3) : EvN (tCall (spL3 pre f) [] E0 (tCons ta (tCons tb (tCons tc tNil)))) σ G (f x x2 x3) := fun H i Q q =>
  ha H i _ fun v G1 H1 g1 k1 => (hb.mono g1.g) H1 g1.i _ fun v2 G2 H2 g2 k2 => (hc.mono (g1.g.trans g2.g)) H2 g2.i _ fun v3 G3 H3 g3 k3 =>
    ⟨v, x, v2, x2, v3, x3, G3, rfl, g3.i, Rep.mono (g2.g.trans g3.g) k1, Rep.mono g3.g k2, k3, hp, fun p G' H' g np m => q p G' H' (((g1.trans g2).trans g3).trans g) (up_none ((g1.trans g2).trans g3).same np) m⟩
/-- OTHER_WAY[way] -/
def OthW (w : World) (K : Fg) (mg : Str → Option Value) : Prop := ∃ a, mg "OTHER_WAY" = some (.ref a) ∧ KDct K w a "even" (.str "odd") ∧ KDct K w a "odd" (.str "even")
theorem ev_other {w : World} {a : Addr} {way : Str} (hb : Ev tb σ G way) (hw : way ∈ Ways) (h1 : KDct K w a "even" (.str "odd")) (h2 : KDct K w a "odd" (.str "even")) : Ev (tOp (rIxD K w) (tC (.ref a)) tb) σ G (otherW way) := fun H i Q q => hb H i _ fun v G1 H1 g1 k1 => by
  cases k1
  simp only [List.mem_cons, List.not_mem_nil, or_false] at hw
  rcases hw with rfl | rfl
  · exact ⟨a, _, _, rfl, rfl, h1, q _ G1 H1 g1 (by rw [other_e]; rfl)⟩
  · exact ⟨a, _, _, rfl, rfl, h2, q _ G1 H1 g1 (by rw [other_ne (by decide)]; rfl)⟩
end
abbrev SS := Str × Str
def rpM (p : Plan) (k : Nat) (s : Int × Int) (way : Str) : List SS := (tvN p k s way).map fun e => (sP, e.1)
theorem rp_len {p : Plan} (h : isPlanM p = true) {k : Nat} {s : Int × Int} {way : Str} (hw : way ∈ Ways) (j : Jn p s.1 s.2) (hk : wd p s way ≤ k) : (rpM p k s way).length ≤ 120 := by
  obtain ⟨h3, h40, _⟩ := plan_facts h
  have ne := j.ne h
  have l := (tv_ok h k s way hw j hk).2.2
  have w := wd_dst h j way
  have d := dst_nn (n := p.1) (a := stA s way) (x := enA s way) (by unfold stA; split <;> omega) (by unfold enA; split <;> omega)
  unfold rpM
  rw [List.length_map]
  omega
theorem rp_none {p : Plan} {k : Nat} {s : Int × Int} {way : Str} (e : thW p s way = none) : rpM p (k + 1) s way = [] := by unfold rpM tvN; rw [e]; rfl
theorem rp_some {p : Plan} {k : Nat} {s : Int × Int} {way : Str} {c : Int} (e : thW p s way = some c) : rpM p (k + 1) s way = [(sP, way)] ++ rpM p k (c, s.1) (otherW way) ++ [(sP, way)] ++ rpM p k (s.2, c) (otherW way) ++ [(sP, way)] := by
  unfold rpM
  conv => lhs; unfold tvN
  rw [e]
  simp [List.map_append]
end Pf

namespace Pf
open PySem PySem.Spec PyProof.Rows L2
section
variable {α β γ : Type} [Rep α] [Rep β] [Rep γ] {σ : L2.St} {G H : Hp} {te ta tb : TE} {tt : TT} {K : Fg} {D : Ends} {ts u : TS}
/-- while xs: .., the test by the very heap -/
theorem sq_whileR (W : Nat → L2.St → Hp → Hp → Prop) {m0 : Nat} (h0 : W m0 σ G H) (hs : Same G H)
    (turn : ∀ m σ' G' H', Same G G' → Same G' H' → W m σ' G' H' → ∃ b, (∀ Q : Bool → Hp → Prop, Q b H' → tt σ' H' Q) ∧
      (b = true → ts { D with nx := fun σ2 H2 => ∃ m' G2, m' < m ∧ Same G' G2 ∧ Same G2 H2 ∧ W m' σ2 G2 H2, ct := fun σ2 H2 => ∃ m' G2, m' < m ∧ Same G' G2 ∧ Same G2 H2 ∧ W m' σ2 G2 H2, bk := u D } σ' H') ∧
      (b = false → u D σ' H')) : tSeq (tWhile tt ts) u D σ H := by
  refine ⟨fun m σ' H' => ∃ G', Same G G' ∧ Same G' H' ∧ W m σ' G' H', ⟨m0, G, Same.refl G, hs, h0⟩, ?_⟩
  rintro m σ' H' ⟨G', s1, s2, w⟩
  obtain ⟨b, hb, k1, k2⟩ := turn m σ' G' H' s1 s2 w
  refine hb _ (ite2 (fun e => ?_) (fun e => ?_))
  · refine ⟨fun σ2 H2 => ∃ m' G2, m' < m ∧ Same G' G2 ∧ Same G2 H2 ∧ W m' σ2 G2 H2, fun σ2 H2 h => ?_, k1 e⟩
    obtain ⟨m', G2, lt, a, b, c⟩ := h
    exact ⟨m', lt, G2, s1.trans a, b, c⟩
  · exact k2 (by simpa using e)
theorem paired_snoc {α β : Type} {R : α → β → Prop} : ∀ {us : List α} {ws : List β} {x : β}, Paired R us (ws ++ [x]) → ∃ vs y, us = vs ++ [y] ∧ R y x ∧ Paired R vs ws
  | _, [], _, .cons r .nil => ⟨[], _, rfl, r, .nil⟩
  | _, _ :: ws, x, .cons r t => by
    obtain ⟨vs, y, e, r2, t2⟩ := paired_snoc (ws := ws) t
    subst e
    exact ⟨_ :: vs, y, rfl, r2, .cons r t2⟩
theorem snoc_of {α : Type} : ∀ {l : List α}, l ≠ [] → ∃ m x, l = m ++ [x]
  | [x], _ => ⟨[], x, rfl⟩
  | x :: y :: l, _ => by
    obtain ⟨m, z, e⟩ := snoc_of (l := y :: l) (by simp)
    exact ⟨x :: m, z, by rw [e]; rfl⟩
theorem ml_pop {wl : Addr} {ws : List α} {x : α} (m : Ml G H wl (ws ++ [x])) : ∃ us y, H wl = some (.lst us) ∧ us[us.length - 1]? = some y ∧ rep G y x ∧ Ml G (upd H wl (.lst us.dropLast)) wl ws := by
  obtain ⟨n, us, e, pr⟩ := m
  obtain ⟨vs, y, rfl, r, t⟩ := paired_snoc pr
  refine ⟨vs ++ [y], y, e, ?_, r, n, vs, ?_, t⟩
  · rw [List.length_append]
    show (vs ++ [y])[vs.length + 1 - 1]? = some y
    rw [Nat.add_sub_cancel, List.getElem?_append_right (Nat.le_refl _), Nat.sub_self]
    rfl
  · rw [upd_same, List.dropLast_concat]
/-- (a, b), c = .. -/
theorem gp21 {v : V} {x : (α × β) × γ} {i j k : Nat} {Q : L2.St → Hp → Prop} (r : rep G v x) (s : Same G H) (h : ∀ u w z, rep G u x.1.1 → rep G w x.1.2 → rep G z x.2 → Q (((σ.set i (some u)).set j (some w)).set k (some z)) H) :
    gTup K 2 (gCons (gTup K 2 (gCons (gName i) (gCons (gName j) gNil))) (gCons (gName k) gNil)) v σ H Q := by
  obtain ⟨a1, u, w, rfl, h2, ⟨a2, x1, x2, rfl, h5, r1, r2⟩, h4⟩ := r
  exact ⟨a1, [.ref a2, w], rfl, .inl (.inl (s _ _ h2)), rfl, .ref a2, [w], rfl, a2, [x1, x2], rfl, .inl (.inl (s _ _ h5)), rfl, x1, [x2], rfl, x2, [], rfl, rfl, w, [], rfl, rfl, h x1 x2 w r1 r2 h4⟩
end
section
variable {κ α : Type} [Rep κ] [TK κ] [DecidableEq κ] [Rep α] {G H : Hp}
theorem Mt.rep {d : Addr} {l : List (κ × α)} (m : Mt G H d l) (i : Same G H) : ∃ o, H d = some o ∧ Same G (upd G d o) ∧ Same (upd G d o) H ∧ Pf.rep (upd G d o) (.ref d) (Dct.mk l) := by
  obtain ⟨h1, kvs, h2, h4⟩ := m
  exact ⟨_, h2, same_new h1, same_still i h2, d, kvs, rfl, upd_same, enr_mono (same_new h1) h4⟩
end
/-- OTHER_HAND[hand] -/
def OthHd (w : World) (K : Fg) (mg : Str → Option Value) : Prop := ∃ a, mg "OTHER_HAND" = some (.ref a) ∧ KDct K w a "r" (.str "l") ∧ KDct K w a "l" (.str "r")
theorem ev_othH {σ : L2.St} {G : Hp} {tb : TE} {K : Fg} {w : World} {a : Addr} {b : Bool} (hb : Ev tb σ G (rlS b)) (h1 : KDct K w a "r" (.str "l")) (h2 : KDct K w a "l" (.str "r")) : Ev (tOp (rIxD K w) (tC (.ref a)) tb) σ G (othH (rlS b)) := fun H i Q q => hb H i _ fun v G1 H1 g1 k1 => by
  cases k1
  cases b with
  | true => exact ⟨a, _, _, rfl, rfl, h1, q _ G1 H1 g1 (by rw [oth_rl]; rfl)⟩
  | false => exact ⟨a, _, _, rfl, rfl, h2, q _ G1 H1 g1 (by rw [oth_rl]; rfl)⟩
def spHands : Sp := fun vs H Q _ => ∃ (v : V) (p : Plan) (G : Hp), vs = [v] ∧ Same G H ∧ rep G v (thirdsM p) ∧ isPlanM p = true ∧ ∀ (w : V) (D : Dct (Int × Int) Str) (G' H' : Hp), IsHands p D → Gr M0 G H G' H' → rep G' w D → Q w H'
theorem thirds_len {p : Plan} (h : isPlanM p = true) : (thirdsM p).l.length ≤ 114 := by
  have h1 := putAll_len (putsM p) []
  have h2 : (putsM p).length = 3 * (partsM p).length := fm_len (fun x _ => rfl)
  have h3 := parts_len h
  have h4 := (plan_facts h).2.1
  show (putAll (putsM p) []).length ≤ 114
  have : ([] : List ((Int × Int) × Int)).length = 0 := rfl
  omega
end Pf

namespace Pf
open PySem PySem.Spec PyProof.Rows L2
/-! ### upright places -/
def upM (p : Plan) (t u : Int) : Bool := match thM p u t with
  | some c => hnd p u t c
  | none => match thM p t u with
    | some c => !hnd p t u c
    | none => false
theorem up_a {p : Plan} (h : isPlanM p = true) {t u c : Int} (x : Tr p u c t) : upM p t u = hnd p u t c := by
  unfold upM
  rw [(th_iff h x.se).mpr x]
theorem up_b {p : Plan} (h : isPlanM p = true) {t u c : Int} (x : Tr p t c u) : upM p t u = !hnd p t u c := by
  unfold upM
  cases e : thM p u t with
  | some d =>
    have y := (th_iff h x.se.sym).mp e
    show hnd p u t d = _
    rw [hnd_flip h x y, Bool.not_not, hnd_sw]
  | none =>
    show (match thM p t u with | some c => !hnd p t u c | none => false) = _
    rw [(th_iff h x.se).mpr x]
theorem some_part {p : Plan} (h : isPlanM p = true) {t u : Int} (j : Jn p t u) : (∃ c, Tr p u c t) ∨ ∃ c, Tr p t c u := by
  obtain ⟨a1, a2, a3, a4, a5⟩ := j.ne h
  have h3 := (plan_facts h).1
  by_cases hs : u = t + 1 ∨ (t = p.1 - 1 ∧ u = 0)
  · exact .inl (tr_ex h j.sym (by omega))
  · exact .inr (tr_ex h j hs)
theorem up_sw {p : Plan} (h : isPlanM p = true) {t u : Int} (j : Jn p t u) : upM p u t = !upM p t u := by
  rcases some_part h j with ⟨c, x⟩ | ⟨c, x⟩
  · rw [up_a h x, up_b h x]
  · rw [up_b h x, up_a h x, Bool.not_not]
theorem up_01 {p : Plan} (h : isPlanM p = true) : upM p 0 1 = true := by
  obtain ⟨c, x⟩ := tr_root h
  rw [up_a h x, hnd_sw, hnd_root h]
/-- pinched and unpinched a paper stays upright, or not -/
theorem up_pinch {p : Plan} (h : isPlanM p = true) {t u c : Int} (way : Str) (j : Jn p t u) (e : thW p (t, u) way = some c) : upM p c t = upM p t u ∧ upM p u c = upM p t u := by
  rcases (th_some h j).mp e with ⟨_, x⟩ | ⟨_, x⟩
  · have x : Tr p t c u := x
    rw [up_b h x, up_b h x.rot, up_b h x.rot.rot, hnd_rot p c t u, hnd_rot p u c t, hnd_rot p c t u]
    exact ⟨rfl, rfl⟩
  · have x : Tr p u c t := x
    rw [up_a h x, up_a h x.rot, up_a h x.rot.rot]
    refine ⟨?_, ?_⟩
    · rw [hnd_rot p t c u, hnd_rot p c u t]
    · rw [hnd_rot p c u t]
theorem hnd_sw2 (p : Plan) (a b c : Int) : hnd p a b c = hnd p a c b := (hnd_rot p a b c).trans ((hnd_sw p b c a).trans ((hnd_rot p c b a).trans (hnd_rot p b a c)))
theorem dep_sw2 (p : Plan) (a b c : Int) : dep p a b c = dep p a c b := (dep_rot p a b c).trans ((dep_sw p b c a).trans ((dep_rot p c b a).trans (dep_rot p b a c)))
/-! ### parts as triples -/
abbrev hT (p : Plan) (t : T3) : Bool := hnd p t.a t.b t.c
abbrev dT3 (p : Plan) (t : T3) : Nat := dep p t.a t.b t.c
def el (t : T3) : List Int := [t.a, t.b, t.c]
theorem part_tr {p : Plan} (h : isPlanM p = true) {t : T3} (m : t ∈ partsM p) : t.a < t.b ∧ t.b < t.c ∧ Tr p t.a t.b t.c := by
  obtain ⟨m1, m2, m3, m4, m5⟩ := (mem_parts h).mp m
  exact ⟨m1, m2, .inl ⟨m1, m2⟩, m4, m3, m5⟩
theorem tr_part {p : Plan} (h : isPlanM p = true) {s c e : Int} (x : Tr p s c e) : ∃ t ∈ partsM p, hT p t = hnd p s e c ∧ dT3 p t = dep p s e c ∧ ∀ y, y ∈ el t ↔ y = s ∨ y = c ∨ y = e := by
  have cy := x.cy
  unfold Cy at cy
  rcases cy with cy | cy | cy
  · refine ⟨⟨s, c, e⟩, (mem_parts h).mpr ⟨cy.1, cy.2, x.sv, x.se, x.ve⟩, ?_, ?_, fun y => by simp [el]⟩
    · show hnd p s c e = hnd p s e c
      exact hnd_sw2 p s c e
    · show dep p s c e = dep p s e c
      exact dep_sw2 p s c e
  · refine ⟨⟨c, e, s⟩, (mem_parts h).mpr ⟨cy.1, cy.2, x.ve, x.sv.sym, x.se.sym⟩, ?_, ?_, fun y => by simp [el]; omega⟩
    · show hnd p c e s = hnd p s e c
      rw [hnd_sw p c e s, hnd_rot p e c s, hnd_rot p c s e]
    · show dep p c e s = dep p s e c
      rw [dep_sw p c e s, dep_rot p e c s, dep_rot p c s e]
  · refine ⟨⟨e, s, c⟩, (mem_parts h).mpr ⟨cy.1, cy.2, x.se.sym, x.ve.sym, x.sv⟩, ?_, ?_, fun y => by simp [el]; omega⟩
    · show hnd p e s c = hnd p s e c
      rw [hnd_sw]
    · show dep p e s c = dep p s e c
      rw [dep_sw]
/-- two corners of a part, and its third one -/
theorem pick2 {p : Plan} (h : isPlanM p = true) {t : T3} (m : t ∈ partsM p) {u v : Int} (hu : u ∈ el t) (hv : v ∈ el t) (ne : u ≠ v) : ∃ d, (Tr p u d v ∨ Tr p v d u) ∧ hT p t = hnd p u v d ∧ d ≠ u ∧ d ≠ v ∧ ∀ y, y ∈ el t ↔ y = u ∨ y = v ∨ y = d := by
  obtain ⟨m1, m2, x⟩ := part_tr h m
  obtain ⟨a, b, c⟩ := t
  simp only at m1 m2 x
  unfold el at hu hv ⊢
  simp only [List.mem_cons, List.not_mem_nil, or_false] at hu hv
  rcases hu with rfl | rfl | rfl <;> rcases hv with rfl | rfl | rfl
  · exact absurd rfl ne
  · exact ⟨c, .inr x.rot, rfl, by omega, by omega, fun y => by simp⟩
  · refine ⟨b, .inl x, ?_, by omega, by omega, fun y => by simp; omega⟩
    show hnd p u b v = hnd p u v b
    exact hnd_sw2 p u b v
  · refine ⟨c, .inl x.rot, ?_, by omega, by omega, fun y => by simp; omega⟩
    show hnd p v u c = hnd p u v c
    rw [hnd_sw]
  · exact absurd rfl ne
  · refine ⟨a, .inr x.rot.rot, ?_, by omega, by omega, fun y => by simp; omega⟩
    show hnd p a u v = hnd p u v a
    rw [hnd_rot]
  · refine ⟨b, .inr x, ?_, by omega, by omega, fun y => by simp; omega⟩
    show hnd p v b u = hnd p u v b
    exact (hnd_sw2 p v b u).trans (hnd_sw p v u b)
  · refine ⟨a, .inl x.rot.rot, ?_, by omega, by omega, fun y => by simp; omega⟩
    show hnd p a v u = hnd p u v a
    rw [hnd_rot p a v u, hnd_sw p v u a]
  · exact absurd rfl ne
def com (one other : T3) : Nat := ((el one).filter fun y => decide (y ∈ el other)).length
theorem com_flip {p : Plan} (h : isPlanM p = true) {one other : T3} (m1 : one ∈ partsM p) (m2 : other ∈ partsM p) (hc : com one other = 2) : hT p other = !hT p one := by
  have key : ∀ {u v : Int}, u ∈ el one → v ∈ el one → u ≠ v → u ∈ el other → v ∈ el other → (∀ y ∈ el one, y ≠ u → y ≠ v → y ∉ el other) → hT p other = !hT p one := fun {u v} hu hv ne hu2 hv2 hn => by
    obtain ⟨c, t1, e1, cu, cv, q1⟩ := pick2 h m1 hu hv ne
    obtain ⟨d, t2, e2, du, dv, q2⟩ := pick2 h m2 hu2 hv2 ne
    have cd : c ≠ d := fun z => hn c ((q1 c).mpr (.inr (.inr rfl))) cu cv ((q2 c).mpr (.inr (.inr z)))
    rw [e1, e2]
    rcases t1 with t1 | t1 <;> rcases t2 with t2 | t2
    · exact absurd (t1.uniq h t2) cd
    · rw [hnd_flip h t1 t2, Bool.not_not]
    · rw [hnd_flip h t2 t1]
    · exact absurd (t1.uniq h t2) cd
  obtain ⟨o1, o2, _⟩ := part_tr h m1
  obtain ⟨a, b, c⟩ := one
  simp only at o1 o2
  unfold com el at hc
  simp only [List.filter_cons, List.filter_nil] at hc
  have el1 : ∀ y, y ∈ el (⟨a, b, c⟩ : T3) ↔ y = a ∨ y = b ∨ y = c := fun y => by simp [el]
  by_cases ha : a ∈ [other.a, other.b, other.c] <;> by_cases hb : b ∈ [other.a, other.b, other.c] <;> by_cases hcc : c ∈ [other.a, other.b, other.c] <;> simp [ha, hb, hcc] at hc
  · exact key ((el1 a).mpr (by omega)) ((el1 b).mpr (by omega)) (by omega) ha hb (fun y hy h1 h2 => by rcases (el1 y).mp hy with z | z | z; exact absurd z h1; exact absurd z h2; rw [z]; exact hcc)
  · exact key ((el1 a).mpr (by omega)) ((el1 c).mpr (by omega)) (by omega) ha hcc (fun y hy h1 h2 => by rcases (el1 y).mp hy with z | z | z; exact absurd z h1; rw [z]; exact hb; exact absurd z h2)
  · exact key ((el1 b).mpr (by omega)) ((el1 c).mpr (by omega)) (by omega) hb hcc (fun y hy h1 h2 => by rcases (el1 y).mp hy with z | z | z; rw [z]; exact ha; exact absurd z h1; exact absurd z h2)
/-- a part that is not the first one has one ahead of it -/
theorem part_ahead {p : Plan} (h : isPlanM p = true) {t : T3} (m : t ∈ partsM p) : (0 ∈ el t ∧ 1 ∈ el t) ∨ ∃ o ∈ partsM p, com o t = 2 ∧ dT3 p t = dT3 p o + 1 := by
  obtain ⟨m1, m2, x⟩ := part_tr h m
  have main : ∀ {s c e : Int}, Tr p s c e → dep p s e c = dT3 p t → (∀ y, y ∈ el t ↔ y = s ∨ y = c ∨ y = e) → Top s c e → (0 ∈ el t ∧ 1 ∈ el t) ∨ ∃ o ∈ partsM p, com o t = 2 ∧ dT3 p t = dT3 p o + 1 := fun {s c e} x hd q tp => by
    by_cases r : s = 1 ∧ e = 0
    · left
      obtain ⟨rfl, rfl⟩ := r
      exact ⟨(q 0).mpr (by omega), (q 1).mpr (by omega)⟩
    · right
      obtain ⟨d, u, hd2⟩ := ahead h x tp r
      obtain ⟨o, mo, _, ho, qo⟩ := tr_part h u
      refine ⟨o, mo, ?_, by rw [← hd, hd2, ho]⟩
      obtain ⟨o1, o2, _⟩ := part_tr h mo
      have cy1 := x.cy; have cy2 := u.cy
      unfold Cy at cy1 cy2
      have hdn : d ∉ el t := fun z => by have := (q d).mp z; omega
      have hs : s ∈ el t := (q s).mpr (.inl rfl)
      have he : e ∈ el t := (q e).mpr (.inr (.inr rfl))
      have oa := (qo o.a).mp (by simp [el])
      have ob := (qo o.b).mp (by simp [el])
      have oc := (qo o.c).mp (by simp [el])
      have dec : ∀ y, y ∈ el t ∨ y = d → (decide (y ∈ el t) = !decide (y = d)) := fun y hy => by
        by_cases z : y = d
        · rw [decide_eq_true z, decide_eq_false (by rw [z]; exact hdn)]; rfl
        · rw [decide_eq_false z, decide_eq_true (hy.resolve_right z)]; rfl
      have mem : ∀ y, y = e ∨ y = d ∨ y = s → y ∈ el t ∨ y = d := fun y hy => by
        rcases hy with rfl | rfl | rfl
        · exact .inl he
        · exact .inr rfl
        · exact .inl hs
      unfold com
      show ((([o.a, o.b, o.c] : List Int)).filter fun y => decide (y ∈ el t)).length = 2
      rw [List.filter_cons, List.filter_cons, List.filter_cons, List.filter_nil, dec _ (mem _ oa), dec _ (mem _ ob), dec _ (mem _ oc)]
      by_cases za : o.a = d
      · rw [decide_eq_true za, decide_eq_false (show ¬ o.b = d by omega), decide_eq_false (show ¬ o.c = d by omega)]; rfl
      · by_cases zb : o.b = d
        · rw [decide_eq_false za, decide_eq_true zb, decide_eq_false (show ¬ o.c = d by omega)]; rfl
        · have zc : o.c = d := by
            have hd3 := (qo d).mpr (.inr (.inl rfl))
            simp only [el, List.mem_cons, List.not_mem_nil, or_false] at hd3
            omega
          rw [decide_eq_false za, decide_eq_false zb, decide_eq_true zc]; rfl
  have q0 : ∀ y, y ∈ el t ↔ y = t.a ∨ y = t.b ∨ y = t.c := fun y => by simp [el]
  have d0 : dep p t.a t.c t.b = dT3 p t := by
    show dep p t.a t.c t.b = dep p t.a t.b t.c
    exact dep_sw2 p t.a t.c t.b
  rcases top_rot h x with z | z | z
  · exact main x d0 q0 z
  · exact main x.rot (by rw [dep_rot]; exact d0) (fun y => by rw [q0]; omega) z
  · exact main x.rot.rot (by rw [dep_rot, dep_rot]; exact d0) (fun y => by rw [q0]; omega) z
theorem dep_small {p : Plan} (h : isPlanM p = true) (a b c : Int) : dep p a b c ≤ 37 := Nat.le_trans (List.countP_le_length) (plan_facts h).2.2.1
end Pf

namespace Pf
open PySem PySem.Spec PyProof.Rows L2
section
variable {α β : Type} [Rep α] [Rep β] {σ : L2.St} {G H : Hp} {ta tb : TE} {K : Fg}
theorem ev_isNP {x : α × β} (h : Ev ta σ G x) : Ev (tOp rIsN ta (tC .non)) σ G false := fun H i Q q => h H i _ fun v G' H' g r => by
  obtain ⟨a, u, w, rfl, _⟩ := r
  exact ⟨rfl, q _ G' H' g rfl⟩
theorem ev_pairT {x : α × α} (h : Ev ta σ G x) : Ev ta σ G (Tup.mk [x.1, x.2]) := fun H i Q q => h H i Q fun v G' H' g r => q v G' H' g (by
  obtain ⟨a, u, w, rfl, h2, h3, h4⟩ := r
  exact ⟨a, [u, w], rfl, h2, .cons h3 (.cons h4 .nil)⟩)
theorem paired_strs {G : Hp} : ∀ {vs : List V} {xs : List Str}, Paired (rep G) vs xs → vs = xs.map V.str
  | _, _, .nil => rfl
  | _, _, .cons r t => by rw [rep_str r, paired_strs t]; rfl
theorem ev_notInT {x : Str} {ys : Tup Str} (ha : Ev ta σ G x) (hb : Ev tb σ G ys) : Ev (tOp (rIn K true) ta tb) σ G (!decide (x ∈ ys.l)) :=
  ev2 ha hb fun v u G' _ k1 k2 H i Q q => by
    cases k1
    obtain ⟨a, vs, rfl, h2, h3⟩ := k2
    rw [paired_strs h3] at h2
    exact ⟨a, _, rfl, .inr (.inl (.inl (i _ _ h2))), rfl, strs_flat _, q _ G' H (Gr.refl i) (by rw [inV_strs]; rfl)⟩
theorem Bag.same {H' : Hp} {b : Addr} (x : Bag G H b) (s : Same H H') : Bag G H' b := by
  obtain ⟨n, cv, c1, c2, c3, cells, e, r⟩ := x
  exact ⟨n, cv, c1, c2, c3, cells, s _ _ e, r⟩
end
end Pf

namespace Pf
open PySem PySem.Spec PyProof.Rows L2
section
variable {σ : L2.St} {G H : Hp} {ta tb : TE} {K : Fg}
theorem op_in_seqK {X : Cx} (h : X.K = K) : OpR X (compareOp .In) (rIn K false) := h ▸ op_in_seq
theorem op_notIn_seqK {X : Cx} (h : X.K = K) : OpR X (compareOp .NotIn) (rIn K true) := h ▸ op_notIn_seq
theorem inV_ints (x : Int) : ∀ ys : List Int, inV (.int x) (ys.map V.int) = decide (x ∈ ys)
  | [] => rfl
  | y :: ys => by
    have ih := inV_ints x ys
    unfold inV at ih ⊢
    rw [List.map_cons, List.any_cons, ih]
    show ((y == x) || decide (x ∈ ys)) = decide (x ∈ y :: ys)
    by_cases h : y = x
    · subst h
      rw [beq_self_eq_true, decide_eq_true List.mem_cons_self]; rfl
    · rw [beq_eq_false_iff_ne.mpr h, Bool.false_or]
      exact decide_eq_decide.mpr ⟨List.mem_cons_of_mem _, fun z => (List.mem_cons.mp z).resolve_left fun e => h e.symm⟩
theorem ints_flat (ys : List Int) : (ys.map V.int).all flatV = true := List.all_eq_true.mpr fun v hv => by obtain ⟨y, _, rfl⟩ := List.mem_map.mp hv; rfl
theorem ev_inTI {x : Int} {ys : Tup Int} (ha : Ev ta σ G x) (hb : Ev tb σ G ys) : Ev (tOp (rIn K false) ta tb) σ G (decide (x ∈ ys.l)) :=
  ev2 ha hb fun v u G' _ k1 k2 H i Q q => by
    cases k1
    obtain ⟨a, vs, rfl, h2, h3⟩ := k2
    rw [paired_ints h3] at h2
    exact ⟨a, _, rfl, .inr (.inl (.inl (i _ _ h2))), rfl, ints_flat _, q _ G' H (Gr.refl i) (by rw [inV_ints]; rfl)⟩
theorem ev_notInTI {x : Int} {ys : Tup Int} (ha : Ev ta σ G x) (hb : Ev tb σ G ys) : Ev (tOp (rIn K true) ta tb) σ G (!decide (x ∈ ys.l)) :=
  ev2 ha hb fun v u G' _ k1 k2 H i Q q => by
    cases k1
    obtain ⟨a, vs, rfl, h2, h3⟩ := k2
    rw [paired_ints h3] at h2
    exact ⟨a, _, rfl, .inr (.inl (.inl (i _ _ h2))), rfl, ints_flat _, q _ G' H (Gr.refl i) (by rw [inV_ints]; rfl)⟩
theorem ev_inLI {x : Int} {ys : List Int} (ha : Ev ta σ G x) (hb : Ev tb σ G ys) : Ev (tOp (rIn K false) ta tb) σ G (decide (x ∈ ys)) :=
  ev2 ha hb fun v u G' _ k1 k2 H i Q q => by
    cases k1
    obtain ⟨a, vs, rfl, h2, h3⟩ := k2
    rw [paired_ints h3] at h2
    exact ⟨a, _, rfl, .inl (.inl (.inl (i _ _ h2))), rfl, ints_flat _, q _ G' H (Gr.refl i) (by rw [inV_ints]; rfl)⟩
theorem ev_triT {t : T3} (h : Ev ta σ G t) : Ev ta σ G (Tup.mk (el t)) := fun H i Q q => h H i Q fun v G' H' g r => q v G' H' g (by
  obtain ⟨a, u, w, z, rfl, h2, h3, h4, h5⟩ := r
  exact ⟨a, [u, w, z], rfl, h2, .cons h3 (.cons h4 (.cons h5 .nil))⟩)
end
/-! ### the hands as the law finds them -/
structure IsHL (p : Plan) (l : List (T3 × Bool)) : Prop where
  ok : ∀ t b, look l t = some b → t ∈ partsM p ∧ b = hT p t
structure HasTo (p : Plan) (l : List (T3 × Bool)) (r : Nat) : Prop where
  ok : ∀ t ∈ partsM p, dT3 p t ≤ r → (look l t).isSome = true
theorem IsHL.put {p : Plan} {l : List (T3 × Bool)} (I : IsHL p l) {t : T3} (m : t ∈ partsM p) : IsHL p (put l t (hT p t)) := ⟨fun t2 b h => by
  rw [look_put] at h
  by_cases e : t2 = t
  · subst e
    rw [if_pos rfl] at h
    cases h
    exact ⟨m, rfl⟩
  · rw [if_neg e] at h
    exact I.ok t2 b h⟩
theorem look_mono {κ α : Type} [DecidableEq κ] {l : List (κ × α)} {k q : κ} {x : α} (h : (look l q).isSome = true) : (look (put l k x) q).isSome = true := by
  rw [look_put]
  split
  · rfl
  · exact h
def spHandsL : Sp := fun vs H Q _ => ∃ (v : V) (p : Plan) (G : Hp), vs = [v] ∧ Same G H ∧ rep G v p ∧ isPlanM p = true ∧ ∀ (w : V) (l : List (T3 × Bool)) (G' H' : Hp), IsHL p l → (∀ t ∈ partsM p, (look l t).isSome = true) → l.length ≤ 100000 → Gr M0 G H G' H' → rep G' w (Dct.mk l) → Q w H'
end Pf

namespace Pf
open PySem PySem.Spec PyProof.Rows L2 LamX
/-! ### lambdas without parameters that are kept (in a list), and called by a name of the same def -/
def LamO (a : Addr) (u : Obj) : HO := .ext fun hp => hp.get? a = some u
structure LamP where
  ps : Arguments
  bd : Expr
  sc : Scope
abbrev lamObj (X : Env) (m : LamP) (lc : Addr) (y1 y2 : Value) : Obj := PySem.W.kla_obj "<lambda>" (X.qual ++ "<lambda>") m.ps m.bd m.sc (cloFrom X.cells m.sc.names []) y1 lc y2
def IsLam (X : Env) (m : LamP) (lf : Addr) (H : Hp) : Prop := ∃ (lc : Addr) (y1 y2 : Value), H lc = some (CodeO lc (X.qual ++ "<lambda>")) ∧ H lf = some (LamO lf (lamObj X m lc y1 y2))
/-- all but the table stays -/
def StP (PT : Addr) (H H' : Hp) : Prop := ∀ b o, b ≠ PT → H b = some o → H' b = some o
theorem StP.refl {PT : Addr} {H : Hp} : StP PT H H := fun _ _ _ h => h
theorem StP.trans {PT : Addr} {H H1 H2 : Hp} (a : StP PT H H1) (b : StP PT H1 H2) : StP PT H H2 := fun c o n h => b c o n (a c o n h)
def tLamE (X : Cx) (PT : Addr) (m : LamP) : TE := fun _ H Q => TabS H PT (lamQ X) ∧ ∀ lf H2, StP PT H H2 → TabS H2 PT (lamQ X) → H lf = none → IsLam X.env m lf H2 → Q (.ref lf) H2
section
variable {X : Cx}
theorem lamO_tbl {a : Addr} {u : Obj} (ps : Array Value) : LamO a u ≠ .tbl ps := fun z => by unfold LamO at z; cases z
theorem pe_lamE {m : LamP} {c PT : Addr} {pos : Pos} (TB : TabB X.base X.mg c PT) (hcode : X.env.code = .ref c) (LS : LamS X.env.scope m.sc) (hdef : defaultsOf m.ps X.env = ([], [])) :
    PE X (.Lambda m.ps m.bd m.sc pos) (tLamE X PT m) := by
  refine ⟨fun pins s σ H Q I hyp => ?_⟩
  obtain ⟨⟨ps, hP, tr, am⟩, go⟩ := hyp
  have oP : s.heap.get? PT = some { cls := .none, data := .fields ps } := I.hok PT _ hP
  have cl := closure_ok (env := X.env) (LS.has I.ok)
  refine PySem.W.kla_eval hdef ?_
  cases ha : codeAmong pos ps.toList with
  | none =>
    refine PySem.W.kla_makeFunction (mg := X.mg) (c := c) (P := PT) (ps := ps) cl I.ok.glob (I.mod.glob.keeps I.bk) hcode (TB.code.keeps I.bk) oP tr ha TB.gP (TB.bm.keeps I.bk) (fun lc ct h1 tk hx hge hlt hrec htb => ?_)
    obtain ⟨lc2, oc, us, t, e2, g1, g2, g3⟩ := hrec
    cases e2
    have nC : H lc = none := I.hok.fresh hge
    have nPC : PT ≠ lc := ne_of_none hP nC
    have J := inv_table (t' := tk) (more := #[rawInt pos.line, rawInt pos.col, .ref lc]) (h' := h1) I hP hx htb hge ⟨oc, us, t, g1, g2, g3⟩
    have hL : H h1.objs.size = none := I.hok.fresh (Nat.le_trans hge (Nat.le_of_lt hlt))
    have J2 := J.laid (a := h1.objs.size) (o := LamO h1.objs.size (lamObj X.env m lc ((X.mg "__name__").getD .none) ct)) (t' := tk) (h' := h1.push (lamObj X.env m lc ((X.mg "__name__").getD .none) ct)) (fun b u e => Heap.get?_push_of_some _ e) (Nat.le_refl _) ⟨Heap.get?_push_size _ rfl, ⟨_, Heap.get?_push_size _ rfl⟩, fun _ _ x y => y _ x⟩
    have nLC : h1.objs.size ≠ lc := Nat.ne_of_gt hlt
    have nLP : PT ≠ h1.objs.size := ne_of_none hP hL
    have at2 : ∀ b o, b ≠ PT → H b = some o → upd (upd (upd H PT (.tbl (ps ++ #[rawInt pos.line, rawInt pos.col, .ref lc]))) lc (CodeO lc (lamQ X))) h1.objs.size (LamO h1.objs.size (lamObj X.env m lc ((X.mg "__name__").getD .none) ct)) b = some o := fun b o nb e => by
      rw [upd_ne (ne_of_none e hL), upd_ne (ne_of_none e nC), upd_ne nb]; exact e
    have eL : (ps ++ #[rawInt pos.line, rawInt pos.col, .ref lc]).toList = ps.toList ++ [rawInt pos.line, rawInt pos.col, .ref lc] := by simp
    refine ⟨.ref h1.objs.size, _, J2, rfl, go h1.objs.size _ at2 ⟨_, by rw [upd_ne nLP, upd_ne nPC, upd_same], ?_, ?_⟩ hL ⟨lc, _, _, ?_, upd_same⟩⟩
    · rw [eL]; exact PySem.TriplesOk_snoc _ _ _ _ tr
    · intro p2 cv hc
      rw [eL] at hc
      rcases among_app _ tr hc with z | z
      · obtain ⟨c0, z1, z2⟩ := am p2 cv z
        exact ⟨c0, z1, at2 _ _ (fun q => by rw [q, hP] at z2; cases z2) z2⟩
      · exact ⟨lc, z, by rw [upd_ne (fun q => nLC q.symm), upd_same]⟩
    · rw [upd_ne (fun q => nLC q.symm), upd_same]
  | some cv =>
    obtain ⟨lc, e, hco⟩ := am pos cv ha
    subst e
    refine PySem.W.kla_makeFunctionHit (mg := X.mg) (c := c) (P := PT) (ps := ps) cl I.ok.glob (I.mod.glob.keeps I.bk) hcode (TB.code.keeps I.bk) oP tr ha (TB.bm.keeps I.bk) (fun ct h1 tk hx hsz => ?_)
    have hL : H h1.objs.size = none := I.hok.fresh hsz
    have J2 := I.laid (a := h1.objs.size) (o := LamO h1.objs.size (lamObj X.env m lc ((X.mg "__name__").getD .none) ct)) (t' := tk) (h' := h1.push (lamObj X.env m lc ((X.mg "__name__").getD .none) ct)) (fun b u e => Heap.get?_push_of_some _ (hx b u e)) hsz ⟨Heap.get?_push_size _ rfl, ⟨_, Heap.get?_push_size _ rfl⟩, fun _ _ x y => y _ x⟩
    have at2 : ∀ b o, H b = some o → upd H h1.objs.size (LamO h1.objs.size (lamObj X.env m lc ((X.mg "__name__").getD .none) ct)) b = some o := fun b o e => by rw [upd_ne (ne_of_none e hL)]; exact e
    refine ⟨.ref h1.objs.size, _, J2, rfl, go h1.objs.size _ (fun b o _ e => at2 b o e) ⟨ps, at2 _ _ hP, tr, fun p2 cv hc => ?_⟩ hL ⟨lc, _, _, at2 _ _ hco, upd_same⟩⟩
    obtain ⟨c0, z1, z2⟩ := am p2 cv hc
    exact ⟨c0, z1, at2 _ _ z2⟩
/-- what a lambda comes to, when it is called -/
structure LamT where
  m : LamP
  t : XK → TE
theorem act_here {Ls : List LamT} {W : WX} {d j : Nat} {ar : Str} {w1 w2 : Pos} (tk : Takes X W) (hro : Room (d + 1) X.A)
    (hL : ∀ l ∈ Ls, LamS X.env.scope l.m.sc ∧ (∀ (q : Str) (cl : List (Str × Addr)) (y1 y2 y3 : Value), bindArgs (PySem.W.kla_fn "<lambda>" q l.m.ps l.m.bd l.m.sc cl y1 y2 y3) ⟨[], []⟩ = pure []) ∧
      ∀ (A1 : Around) (out1 : List Env) (s1 : Shared) (H1 : Hp) (E1 : XK) (lf lc : Addr), Room d (A1.deeper (lamEnv X l.m.sc s1.heap.objs.size lf lc)) → PE (lamCx X A1 out1 s1 H1 E1 l.m.sc lf lc) l.m.bd (l.t E1))
    (hN : X.N[j]? = some ar) (hV : Vis X.env.scope ar) (h1 : (ar == ("__debug__" : Str)) = false := by decide) (h2 : (ar == ("__classdict__" : Str)) = false := by decide) :
    PE X (.Call (.Name ar w1) [] [] w2) (fun τ HZ Q => ∃ l ∈ Ls, ∃ lf, τ[j]? = some (some (.ref lf)) ∧ IsLam X.env l.m lf HZ ∧ l.t (WE W τ) τ HZ Q) := by
  refine ⟨fun pz sz τ HZ Q IZ hyp => ?_⟩
  obtain ⟨l, hl, lf, ha, ⟨lc, y1, y2, hb, hf⟩, hc⟩ := hyp
  obtain ⟨LS, hbi, hbo⟩ := hL l hl
  have vr := (pe_var (pos := w1) (i := j) hN hV h1 h2).run pz sz τ HZ (fun v K1 => v = .ref lf ∧ K1 = HZ) IZ ⟨.ref lf, ha, rfl, rfl⟩
  refine wpAny_Call_Name_kw (thn vr fun u sa hx => ?_)
  obtain ⟨v, K1, I1, rv, rfl, rfl⟩ := hx
  cases (show u = Value.ref lf from rv)
  obtain ⟨oa, _, _⟩ := I1.hok lf _ hf
  refine PySem.W.callWith_F0 ⟨_, _, _, _, oa⟩ ?_
  obtain ⟨⟨ob, us, tt, e1, e2, e3⟩, _, _⟩ := I1.hok lc _ hb
  have main : codeAny (model X.prog X.w) X.A (.call (.ref lf) ⟨[], []⟩) (CR (L2.CX X.prog X.w) X.stack X.prog X.w K1 sa Q (WE W τ)) sa := by
    refine PySem.W.kla_callFunE hro.depth oa rfl LS.co LS.gen rfl ⟨lc, ob, us, tt, rfl, e1, e2, e3⟩ ?_
    rw [hbi]
    refine wpAny_pure ?_
    refine wpAny_newFunctionEnv (fun y hy => (LS.own y hy).2) (fun y hy => absurd hy (by simp)) (fun hn nsn bn => ⟨I1.nolimit.fresh _ bn, ?_⟩) LS.kind
    show codeAny _ _ (.expr l.m.bd (lamEnv X l.m.sc sa.heap.objs.size lf lc)) _ _
    have kp : ∀ b o, sa.heap.get? b = some o → hn.get? b = some o := fun b o q => bn.extBut b o (Nat.ne_of_lt (Heap.lt_size q)) (Heap.get?_push_of_some _ q)
    have JJ := lam_start2 (E := WE W τ) (tk := sa.toks + ([] : List (Str × Value)).length) (f := lf) (c' := lc) (scope := l.m.sc) I1 LS I1.env0 hro.hd Un.refl nsn kp
    refine PySem.W.kla_codeExpr ?_
    refine wpAny_mono ((hbo _ _ sa K1 (WE W τ) lf lc (hro.deeper _)).run [] _ _ K1 Q JJ hc) (fun v s' hq => ?_) fun e s' hq => hq
    obtain ⟨w', H', J', rv, q⟩ := hq
    exact ⟨w', H', J'.os, J'.bare, J'.base, J'.hok, rv, q⟩
  refine wpAny_call (codeAny_mono main fun r s' hq => ?_)
  match r, hq with
  | .error e, hq => exact passAt tk τ pz K1 sa e s' I1 hq
  | .ok (.ret u), hq => exact I1.after hq
  | .ok .next, hq => exact False.elim hq
  | .ok .brk, hq => exact False.elim hq
  | .ok .cont, hq => exact False.elim hq
end
/-! lists of lambdas -/
def lamP : Expr → LamP
  | .Lambda ps bd sc _ => ⟨ps, bd, sc⟩
  | e => ⟨default, e, default⟩
def LamsOk (X : Cx) : List Expr → Prop
  | [] => True
  | .Lambda ps _ sc _ :: r => (LamS X.env.scope sc ∧ defaultsOf ps X.env = ([], [])) ∧ LamsOk X r
  | _ :: _ => False
def ActsOk (X : Cx) (d : Nat) : List Expr → List (XK → TE) → Prop
  | [], [] => True
  | .Lambda ps bd sc _ :: r, t :: ts => (LamS X.env.scope sc ∧ (∀ (q : Str) (cl : List (Str × Addr)) (y1 y2 y3 : Value), bindArgs (PySem.W.kla_fn "<lambda>" q ps bd sc cl y1 y2 y3) ⟨[], []⟩ = pure []) ∧
      ∀ (A1 : Around) (out1 : List Env) (s1 : Shared) (H1 : Hp) (E1 : XK) (lf lc : Addr), Room d (A1.deeper (lamEnv X sc s1.heap.objs.size lf lc)) → PE (lamCx X A1 out1 s1 H1 E1 sc lf lc) bd (t E1)) ∧ ActsOk X d r ts
  | _, _ => False
def tLams (X : Cx) (PT : Addr) (ms : List LamP) : TA := fun _ H Q => TabS H PT (lamQ X) ∧ ∀ vs H2, StP PT H H2 → TabS H2 PT (lamQ X) → Paired (fun v m => ∃ lf, v = V.ref lf ∧ IsLam X.env m lf H2) vs ms → Q vs H2
section
variable {X : Cx}
theorem IsLam.st {X : Env} {m : LamP} {lf PT : Addr} {q : Str} {H H' : Hp} (h : IsLam X m lf H) (t : TabS H PT q) (x : StP PT H H') : IsLam X m lf H' := by
  obtain ⟨lc, y1, y2, h1, h2⟩ := h
  obtain ⟨ps, e, _⟩ := t
  exact ⟨lc, y1, y2, x _ _ (fun z => by rw [z, e] at h1; exact codeO_ne ps (Option.some.inj h1).symm) h1, x _ _ (fun z => by rw [z, e] at h2; exact lamO_tbl ps (Option.some.inj h2).symm) h2⟩
theorem IsLam.same {X : Env} {m : LamP} {lf : Addr} {H H' : Hp} (h : IsLam X m lf H) (x : Same H H') : IsLam X m lf H' := by
  obtain ⟨lc, y1, y2, h1, h2⟩ := h
  exact ⟨lc, y1, y2, x _ _ h1, x _ _ h2⟩
theorem pa_lams {c PT : Addr} (TB : TabB X.base X.mg c PT) (hcode : X.env.code = .ref c) : ∀ {es : List Expr}, LamsOk X es → PA X es (tLams X PT (es.map lamP))
  | [], _ => ⟨fun pos pins s σ H Q I h => (pa_nil (X := X)).run pos pins s σ H Q I (h.2 [] H StP.refl h.1 .nil)⟩
  | e :: r, ok => by
    cases e with
    | Lambda ps bd sc pos =>
      obtain ⟨⟨LS, hd⟩, ok⟩ := ok
      have hr := pa_lams TB hcode ok
      refine ⟨fun pos pins s σ H Q I h => (pa_cons (pe_lamE (m := ⟨ps, bd, sc⟩) TB hcode LS hd) hr).run pos pins s σ H Q I ?_⟩
      refine ⟨h.1, fun lf H1 s1 t1 _ l1 => ⟨t1, fun vs H2 s2 t2 p2 => ?_⟩⟩
      exact h.2 (.ref lf :: vs) H2 (s1.trans s2) t2 (.cons ⟨lf, rfl, l1.st t1 s2⟩ p2)
    | _ => exact False.elim ok
theorem acts_at {d : Nat} : ∀ {es : List Expr} {ts : List (XK → TE)} {k : Nat} {m : LamP} {t : XK → TE}, ActsOk X d es ts → (es.map lamP)[k]? = some m → ts[k]? = some t →
    LamS X.env.scope m.sc ∧ (∀ (q : Str) (cl : List (Str × Addr)) (y1 y2 y3 : Value), bindArgs (PySem.W.kla_fn "<lambda>" q m.ps m.bd m.sc cl y1 y2 y3) ⟨[], []⟩ = pure []) ∧
      ∀ (A1 : Around) (out1 : List Env) (s1 : Shared) (H1 : Hp) (E1 : XK) (lf lc : Addr), Room d (A1.deeper (lamEnv X m.sc s1.heap.objs.size lf lc)) → PE (lamCx X A1 out1 s1 H1 E1 m.sc lf lc) m.bd (t E1)
  | [], _, _, _, _, _, h, _ => by cases h
  | e :: r, [], k, _, _, _, _, h => by cases h
  | e :: r, u :: us, k, m, t, ok, h1, h2 => by
    cases e with
    | Lambda ps bd sc pos =>
      obtain ⟨ok1, ok2⟩ := ok
      cases k with
      | zero =>
        cases h1; cases h2
        exact ok1
      | succ k => exact acts_at (k := k) ok2 h1 h2
    | _ => exact False.elim ok
theorem pe_acts {env : Env} {es : List Expr} {ts : List (XK → TE)} {W : WX} {d j : Nat} {ar : Str} {w1 w2 : Pos} (henv : X.env = env) (tk : Takes X W) (hro : Room (d + 1) X.A) (ok : ActsOk X d es ts)
    (hN : X.N[j]? = some ar) (hV : Vis X.env.scope ar) (h1 : (ar == ("__debug__" : Str)) = false := by decide) (h2 : (ar == ("__classdict__" : Str)) = false := by decide) :
    PE X (.Call (.Name ar w1) [] [] w2) (fun τ HZ Q => ∃ (k : Nat) (m : LamP) (t : XK → TE), (es.map lamP)[k]? = some m ∧ ts[k]? = some t ∧ ∃ lf, τ[j]? = some (some (.ref lf)) ∧ IsLam env m lf HZ ∧ t (WE W τ) τ HZ Q) := by
  subst henv
  refine ⟨fun pz sz τ HZ Q IZ hyp => ?_⟩
  obtain ⟨k, m, t, e1, e2, lf, e3, e4, e5⟩ := hyp
  exact (act_here (Ls := [⟨m, t⟩]) tk hro (fun l hl => by rw [List.mem_singleton.mp hl]; exact acts_at ok e1 e2) hN hV h1 h2).run pz sz τ HZ Q IZ ⟨_, List.mem_singleton.mpr rfl, lf, e3, e4, e5⟩
end
/-! ### the table kept along, by its own address -/
abbrev Mp (PT : Addr) : Addr → Prop := fun a => a = PT
theorem StP.gr {PT : Addr} {q : Str} {G H H1 : Hp} (x : StP PT H H1) (t : TbAt G H PT q) (s : Same G H) : Gr (Mp PT) G H G H1 :=
  ⟨Same.refl G, fun a o e => x a o (fun z => by rw [z, t.out] at e; cases e) (s a o e), fun a o m e => x a o m e, fun a o e => .inl e⟩
theorem TbAt.lam {PT : Addr} {q : Str} {G H H1 : Hp} (t : TbAt G H PT q) (T1 : TabS H1 PT q) : TbAt G H1 PT q := ⟨t.nt, t.out, T1⟩
/-- Gr's that leave but the table -/
theorem Gr.transP {PT : Addr} {q : Str} {G H G1 H1 G2 H2 : Hp} (x : Gr (Mp PT) G H G1 H1) (y : Gr (Mp PT) G1 H1 G2 H2) (t : TbAt G2 H2 PT q) : Gr (Mp PT) G H G2 H2 := x.trans y fun a e => .inl (by rw [e]; exact t.out)
section
variable {α β : Type} [Rep α] [Rep β] {σ : L2.St} {G H : Hp} {te : TE} {g : TG}
/-- a comprehension whose items change a table -/
theorem lc_tab {wi : TI} {vs : List Nat} {xs : List α} {f : α → β} {PT : Addr} {q : Str} {Q : VK} (hx : EvI wi σ G xs) (s : Same G H) (tb : TbAt G H PT q) (hl : xs.length ≤ 100000)
    (hb : ∀ x ∈ xs, ∀ v G1, Same G G1 → rep G1 v x → GB g v (wipe σ vs) G1 fun σ2 => wipe σ2 vs = wipe σ vs ∧ ∀ H Q', Same G1 H → TbAt G1 H PT q → (∀ v' G' H', Gr (Mp PT) G1 H G' H' → TbAt G' H' PT q → rep G' v' (f x) → Q' v' H') → te σ2 H Q')
    (k : ∀ v G' H', Gr (Mp PT) G H G' H' → TbAt G' H' PT q → rep G' v (xs.map f) → Q v H') : tLc wi g tYes te vs σ H Q := by
  refine hx H s _ fun J G1 H1 g1 ok D nD => ?_
  have tb1 := tb.step0 g1
  have nG : G1 D = none := up_none g1.i nD
  have hne : PT ≠ D := by
    obtain ⟨ps, e, _⟩ := tb1.tab
    exact ne_of_none e nD
  have oth : ∀ {G' H' : Hp} {o : HO}, TbAt G' H' PT q → H1 D = none → TbAt G' (upd H' D o) PT q → TbAt G' (upd H' D o) PT q := fun _ _ h => h
  refine ⟨fun k m H => m = xs.length - k ∧ k ≤ xs.length ∧ ∃ (Gk : Hp), Gr (Mp PT) G1 H1 Gk H ∧ TbAt Gk H PT q ∧ Ml Gk H D ((xs.take k).map f), ⟨_, rfl, Nat.zero_le _, G1, (Gr.refl g1.i).mut (.inl nD) nG, tb1.step0 ((Gr.refl g1.i).mut (.inl nD) nG), ⟨nG, [], upd_same, .nil⟩⟩, ?_⟩
  rintro n m H2 ⟨rfl, hk, Gk, gk, bk, ml⟩
  by_cases hlt : n < xs.length
  · refine .inr ⟨ok.go n H2 (gk.g.trans gk.i) hlt, fun H' => ∃ (Gk : Hp), Gr (Mp PT) G1 H1 Gk H' ∧ TbAt Gk H' PT q ∧ Ml Gk H' D ((xs.take (n + 1)).map f), fun H' h' => ⟨xs.length - (n + 1), by omega, rfl, hlt, h'⟩, fun v H3 yl => ?_⟩
    have hxk : xs[n]? = some xs[n] := List.getElem?_eq_getElem hlt
    obtain ⟨G3, g3, r3⟩ := ok.yld n H2 v H3 Gk xs[n] gk.g gk.i yl hxk
    have bk3 := bk.step0 g3
    have g13 : Gr (Mp PT) G1 H1 G3 H3 := gk.transP g3.wk bk3
    refine hb xs[n] (List.getElem_mem hlt) v G3 (g1.g.trans g13.g) r3 H3 g3.i _ fun σ2 ⟨hw, he⟩ => ⟨hw, ?_⟩
    show te σ2 H3 _
    refine he H3 _ g3.i bk3 fun v' G5 H5 g5 b5 r5 => ?_
    have ml5 := (ml.step0 g3).step g5 (fun e => hne e.symm)
    obtain ⟨n5, acc, e5, p5⟩ := ml5
    have g15 : Gr (Mp PT) G1 H1 G5 H5 := g13.transP g5 b5
    have gm : Gr (fun x => x = D) G5 H5 G5 (upd H5 D (.lst (acc ++ [v']))) := (Gr.refl g5.i).mut (.inr rfl) n5
    have b6 : TbAt G5 (upd H5 D (.lst (acc ++ [v']))) PT q := b5.step gm (fun x e => by cases e; exact .inr ⟨_, e5⟩)
    refine ⟨acc, e5, sl_lt (by rw [paired_len p5, List.length_map, List.length_take]; omega), G5, g15.mut (.inl nD) n5, b6, n5, acc ++ [v'], upd_same, ?_⟩
    rw [List.take_add_one, hxk, List.map_append]
    exact paired_app p5 (.cons r5 .nil)
  · have e : xs.take n = xs := List.take_of_length_le (by omega)
    rw [e] at ml
    obtain ⟨n5, acc, e5, p5⟩ := ml
    have sn := same_new (o := HO.lst acc) n5
    have gs := gk.still nD n5 e5
    have bk' : TbAt (upd Gk D (.lst acc)) H2 PT q := ⟨fun a ps z => by
      by_cases ha : a = D
      · rw [ha, upd_same] at z; cases z
      · rw [upd_ne ha] at z; exact bk.nt a ps z, by rw [upd_ne hne]; exact bk.out, bk.tab⟩
    refine .inl ⟨ok.stop n H2 (gk.g.trans gk.i) (by omega), k _ (upd Gk D (.lst acc)) H2 (g1.wk.transP gs bk') bk' ⟨D, acc, rfl, upd_same, paired_mono sn p5⟩⟩
/-- if not all([..]): leave, where all are true -/
theorem st_ifAllT {K : Fg} {wi : TI} {vs : List Nat} {xs : List α} {PT : Addr} {q : Str} {ts : TS} {D : Ends} (hx : EvI wi σ G xs) (s : Same G H) (tb : TbAt G H PT q) (hl : xs.length ≤ 100000)
    (hb : ∀ x ∈ xs, ∀ v G1, Same G G1 → rep G1 v x → GB g v (wipe σ vs) G1 fun σ2 => wipe σ2 vs = wipe σ vs ∧ ∀ H Q', Same G1 H → TbAt G1 H PT q → (∀ v' G' H', Gr (Mp PT) G1 H G' H' → TbAt G' H' PT q → rep G' v' true → Q' v' H') → te σ2 H Q')
    (k : ∀ G' H', Gr (Mp PT) G H G' H' → TbAt G' H' PT q → D.nx σ H') : tIfS (tNot (tB (tCB (rAll K) (tCons (tLc wi g tYes te vs) tNil)))) ts tNext D σ H := by
  refine lc_tab (f := fun _ => true) (Q := fun x H1 => rAll K [x] H1 fun y H2 => ∃ c, y = .bl c ∧ (if (!c) = true then ts D σ H2 else tNext D σ H2)) hx s tb hl hb (fun v G' H' g' tb' rv => ?_)
  obtain ⟨pa, us, rfl, ea, pr⟩ := rv
  refine ⟨pa, xs.map (fun _ => true), rfl, .inl (.inl (by rw [← paired_bls pr]; exact g'.i _ _ ea)), _, rfl, ?_⟩
  have e : (xs.map (fun _ => true)).all id = true := by simp
  rw [e]
  exact k G' H' g' tb'
/-- return all([..]), where all are true -/
theorem st_retAllT {K : Fg} {wi : TI} {vs : List Nat} {xs : List α} {PT : Addr} {q : Str} {D : Ends} (hx : EvI wi σ G xs) (s : Same G H) (tb : TbAt G H PT q) (hl : xs.length ≤ 100000)
    (hb : ∀ x ∈ xs, ∀ v G1, Same G G1 → rep G1 v x → GB g v (wipe σ vs) G1 fun σ2 => wipe σ2 vs = wipe σ vs ∧ ∀ H Q', Same G1 H → TbAt G1 H PT q → (∀ v' G' H', Gr (Mp PT) G1 H G' H' → TbAt G' H' PT q → rep G' v' true → Q' v' H') → te σ2 H Q')
    (k : ∀ G' H', Gr (Mp PT) G H G' H' → TbAt G' H' PT q → D.rt (.bl true) H') : tRet (tCB (rAll K) (tCons (tLc wi g tYes te vs) tNil)) D σ H := by
  refine lc_tab (f := fun _ => true) (Q := fun x H1 => rAll K [x] H1 D.rt) hx s tb hl hb (fun v G' H' g' tb' rv => ?_)
  obtain ⟨pa, us, rfl, ea, pr⟩ := rv
  refine ⟨pa, xs.map (fun _ => true), rfl, .inl (.inl (by rw [← paired_bls pr]; exact g'.i _ _ ea)), ?_⟩
  have e : (xs.map (fun _ => true)).all id = true := by simp
  rw [e]
  exact k G' H' g' tb'
end
end Pf

namespace Pf
open PySem PySem.Spec PyProof.Rows L2
/-! ### texts -/
/-- a text of these signs -/
abbrev tx (l : List Nat) : Str := ⟨l.toArray⟩
theorem tx_cps (z : Str) : tx z.cps.toList = z := by cases z; rfl
theorem tx_len (l : List Nat) : (tx l).length = l.length := List.size_toArray
theorem tx_add (a b : List Nat) : (tx a ++ tx b : Str) = tx (a ++ b) := by
  show (⟨a.toArray ++ b.toArray⟩ : Str) = ⟨(a ++ b).toArray⟩
  rw [List.append_toArray]
theorem fold_size (a : Array Nat) : ∀ (n : Nat) (acc : Array Nat), ((List.replicate n a).foldl (· ++ ·) acc).size = acc.size + n * a.size
  | 0, acc => by simp
  | n + 1, acc => by
    rw [List.replicate_succ, List.foldl_cons, fold_size a n, Array.size_append, Nat.succ_mul]
    omega
abbrev rMulS : R2 := fun x y H Q => ∃ (z : Str) (n : Int), x = .str z ∧ y = .int n ∧ 2 ≤ n ∧ n ≤ 1000 ∧ 1 ≤ z.length ∧ z.length ≤ 10 ∧ Q (.str ⟨(List.replicate n.toNat z.cps).foldl (· ++ ·) #[]⟩) H
theorem op_mulS {X : Cx} : OpR X (binaryOp .Mult) rMulS := by
  intro pins s σ H x y v u Q I rx ry h
  obtain ⟨z, n, rfl, rfl, n2, n3, z1, z2, q⟩ := h
  obtain ⟨t, rfl⟩ := rx
  obtain ⟨t', rfl⟩ := ry
  have c1 : ¬ n < 1 := by omega
  have c2 : (n == 1 || z.length == 0) = false := by
    rw [Bool.or_eq_false_iff]
    exact ⟨beq_eq_false_iff_ne.mpr (by omega), beq_eq_false_iff_ne.mpr (by omega)⟩
  have hm : z.length * n.toNat ≤ 10000 := Nat.le_trans (Nat.mul_le_mul z2 (show n.toNat ≤ 1000 by omega)) (by decide)
  have sl : (10000 : Nat) ≤ sizeLine := by decide
  refine PySem.P.mul_str (by rw [decide_eq_false (by omega), decide_eq_false (by omega)]; rfl) (fun _ _ => ?_) (fun _ _ => ?_) ?_
  · have e : (1000 : Int) ≤ (2 ^ 63 - 1) / n := (Int.le_ediv_iff_mul_le (by omega)).mpr (by omega)
    omega
  · exact decide_eq_false (by omega)
  · rw [if_neg c1, if_neg (by rw [c2]; decide)]
    refine ⟨?_, ⟨.str _, H, I.tok _, ⟨_, rfl⟩, q⟩⟩
    show ((List.replicate n.toNat z.cps).foldl (· ++ ·) #[]).size ≤ sizeLine
    rw [fold_size]
    have : n.toNat * z.cps.size = z.length * n.toNat := Nat.mul_comm _ _
    show 0 + n.toNat * z.cps.size ≤ sizeLine
    omega
section
variable {σ : L2.St} {G : Hp} {ta tb te : TE} {K : Fg}
theorem ev_mulS {z : Str} {n : Int} (ha : Ev ta σ G z) (hb : Ev tb σ G n) (h : 2 ≤ n ∧ n ≤ 1000 ∧ 1 ≤ z.length ∧ z.length ≤ 10) : Ev (tOp rMulS ta tb) σ G (⟨(List.replicate n.toNat z.cps).foldl (· ++ ·) #[]⟩ : Str) :=
  ev2 ha hb fun v u G' _ k1 k2 H i Q q => ⟨z, n, k1, k2, h.1, h.2.1, h.2.2.1, h.2.2.2, q _ G' H (Gr.refl i) rfl⟩
abbrev rCatS : R2 := fun x y H Q => ∃ i j, x = .str i ∧ y = .str j ∧ i.length + j.length ≤ sizeLine ∧ Q (.str (i ++ j)) H
theorem ev_addS {x y : Str} (ha : Ev ta σ G x) (hb : Ev tb σ G y) (h : x.length + y.length ≤ 100000) : Ev (tOp rCatS ta tb) σ G (x ++ y) :=
  ev2 ha hb fun v u G' _ k1 k2 H i Q q => ⟨x, y, k1, k2, sl_small h, q _ G' H (Gr.refl i) rfl⟩
abbrev rLenS : List V → Hp → VK → Prop := fun xs H Q => ∃ z, xs = [.str z] ∧ z.length ≤ sizeLine ∧ Q (.int z.length) H
theorem ev_lenS {z : Str} (ha : Ev ta σ G z) (h : z.length ≤ 100000) : Ev (tCB rLenS (tCons ta tNil)) σ G (z.length : Int) := ev_B1 ha fun v G' H _ i k Q q => ⟨z, by rw [rep_str k], sl_small h, q _ G' H (Gr.refl i) rfl⟩
theorem ev_ixS {z : Str} {n : Int} {c : Nat} (ha : Ev ta σ G z) (hb : Ev tb σ G n) (hz : z.length ≤ 100000) (h : atI z.cps.toList n = some c) : Ev (tOp rIxS ta tb) σ G (⟨#[c]⟩ : Str) :=
  ev2 ha hb fun v u G' _ k1 k2 H i Q q => ⟨z, n, c, k1, k2, sl_small hz, h, q _ G' H (Gr.refl i) rfl⟩
abbrev rCntS : V → List V → Hp → VK → Prop := fun x xs H Q => ∃ a b, x = .str a ∧ xs = [.str b] ∧ Q (.int (Txt.count a b)) H
theorem ev_cntS {a b : Str} (ha : Ev ta σ G a) (hb : Ev tb σ G b) : Ev (tBM K "str" rCntS ta (tCons tb tNil)) σ G (Txt.count a b) := fun H i Q q =>
  ha H i _ fun v G1 H1 g1 k1 => by
    cases (rep_str k1)
    exact ⟨rfl, (hb.mono g1.g) H1 g1.i _ fun u G2 H2 g2 k2 => ⟨a, b, rfl, by rw [rep_str k2], q _ G2 H2 (g1.trans g2) rfl⟩⟩
theorem ev_slS {z : Str} {tl th : TO} {lo hi : Option Int} (ha : Ev ta σ G z) (hl : EvO tl σ G lo) (hh : EvO th σ G hi) (hz : z.length ≤ 100000) : Ev (tSl rSlS ta tl th) σ G (cutS z lo hi) := fun H i Q q =>
  ha H i _ fun v G1 H1 g1 k1 => (hl.mono g1.g) H1 g1.i _ fun G2 H2 g2 => (hh.mono (g1.g.trans g2.g)) H2 g2.i _ fun G3 H3 g3 =>
    ⟨z, rep_str k1, sl_small hz, q _ G3 H3 ((g1.trans g2).trans g3) rfl⟩
end
/-! ### rows -/
def nOf (c : Nat) (l : List Nat) : Nat := (l.filter (· == c)).length
def badRow (z : Str) : Bool := decide (z.length < 3) || decide (40 < z.length) || !decide (z.cps.toList[0]? = some 114) || !decide (Txt.count z "r" + Txt.count z "l" = (z.length : Int))
/-! ### a def whose code object is known, and what is bound -/
structure TxC (K : Fg) (mg : Str → Option Value) (x : Str) (ps : List Str) (st : Stmt) (c : Addr) : Prop where
  ex : ∃ f fd, FunC K x st f fd c ∧ Binds K fd ps [] ∧ PySem.W.keepIn K (.ref f) = true ∧ mg x = some (.ref f)
theorem TxC.ok {P : Program} {w : World} {K : Fg} {mg : Str → Option Value} {base : Heap} {x : Str} {st : Stmt} {c : Addr} {N ps : List Str} {k : Nat} {sp : Sp} (T : TxC K mg x ps st c) (S : FnScope N ps (defScope st)) (len : ∀ vs H Q E, sp vs H Q E → vs.length = ps.length)
    (hbody : ∀ (f : Addr) (A : Around) (outer : List Env) (s : Shared) (H : Hp) (vs : List V) (Q : VK) (E : XK), Room k (A.deeper (envOfC x (defScope st) s.heap.objs.size f (.ref c))) → sp vs H Q E →
      ∃ t, PSs (cxOf CX0 P w K mg base N x (defScope st) f (.ref c) A outer s H E).nox (defBody st) t ∧ t { nx := fun _ H' => Q .non H', rt := Q } (start N vs) H) : Df P w K mg base (k + 1) x ps sp := by
  obtain ⟨f, fd, F, b, kp, m⟩ := T.ex
  exact ⟨f, fd, F.ok S len fun A outer s H vs Q E hr h => hbody f A outer s H vs Q E hr h, b, kp, m⟩
end Pf

namespace Pf
open PySem PySem.Spec PyProof.Rows L2
/-! ### rows of plans -/
/-- the hand of a leaf: that of the part at its side -/
def leafH (p : Plan) (k : Int) : Bool := match thM p ((k + 1) % p.1) k with
  | some c => hnd p ((k + 1) % p.1) k c
  | none => true
theorem leaf_part {p : Plan} (h : isPlanM p = true) {k : Int} (hk : 0 ≤ k ∧ k < p.1) : ∃ c, Tr p ((k + 1) % p.1) c k ∧ leafH p k = hnd p ((k + 1) % p.1) k c := by
  have h3 := (plan_facts h).1
  have j := jn_next h hk
  have hm : (k + 1) % p.1 = if k + 1 < p.1 then k + 1 else k + 1 - p.1 := wrap (by omega) (by omega)
  obtain ⟨c, x⟩ := tr_ex h j.sym (by rw [hm]; split <;> omega)
  refine ⟨c, x, ?_⟩
  unfold leafH
  rw [(th_iff h x.se).mpr x]
def sg (b : Bool) : Int := if b = true then 1 else -1
def sgs (p : Plan) (l : List Int) : Int := (l.map fun k => sg (leafH p k)).sum
theorem sgs_app (p : Plan) (a b : List Int) : sgs p (a ++ b) = sgs p a + sgs p b := by unfold sgs; rw [List.map_append, List.sum_append]
theorem sg_not (b : Bool) : sg (!b) = -sg b := by cases b <;> rfl
theorem ord_sum {p : Plan} (h : isPlanM p = true) : ∀ (k : Nat) {s e d : Int} (b : Bool), Tr p e d s → (e - s) % p.1 ≤ k → (sgs p (ordN p k s e b) - sg (hnd p e s d)) % 3 = 0
  | 0, s, e, d, b, x, hk => by
    exfalso
    obtain ⟨a1, a2, a3, a4, a5⟩ := x.se.ne h
    rw [arc_w (by omega) (by omega)] at hk
    split at hk <;> omega
  | k + 1, s, e, d, b, x, hk => by
    obtain ⟨a1, a2, a3, a4, a5⟩ := x.se.ne h
    have j : Jn p s e := x.se.sym
    unfold ordN
    cases z : look (thirdsM p).l (s, e) with
    | none =>
      have hz := (look_none h j).mp z
      obtain ⟨c, y, hl⟩ := leaf_part h (k := s) ⟨a3, a4⟩
      rw [hz] at y hl
      have e1 := y.uniq h x
      subst e1
      show (sgs p [s] - _) % 3 = 0
      unfold sgs
      rw [List.map_cons, List.map_nil, List.sum_cons, List.sum_nil, hl]
      have : sg (hnd p e s c) + 0 - sg (hnd p e s c) = 0 := by omega
      rw [this]; rfl
    | some c =>
      have t := (look_thirds h).mp z
      have w := cy_w (n := p.1) (s := s) (c := c) (e := e) (by omega) (by have := t.sv.ne h; omega) (by omega) t.cy
      have i1 := ord_sum h k (s := s) (e := c) (d := e) (!b) t.rot (by omega)
      have i2 := ord_sum h k (s := c) (e := e) (d := s) (!b) t.rot.rot (by omega)
      have hf := hnd_flip h t x
      rw [hnd_rot p c s e] at i1
      rw [hnd_rot p e c s, hnd_rot p c s e] at i2
      rw [hnd_sw p e s d]
      have e2 : sg (hnd p s e c) = - sg (hnd p s e d) := by rw [hf, sg_not]
      show (sgs p (if b = true then _ else _) - _) % 3 = 0
      split
      · rw [sgs_app]; omega
      · rw [sgs_app]; omega
theorem row_sum {p : Plan} (h : isPlanM p = true) : sgs p (ordM p) % 3 = 0 := by
  have h3 := (plan_facts h).1
  have h40 := (plan_facts h).2.1
  obtain ⟨c, t⟩ := tr_root h
  obtain ⟨c0, y, hl⟩ := leaf_part h (k := 0) ⟨by omega, by omega⟩
  have m1 : (0 + 1 : Int) % p.1 = 1 := by rw [wrap (by omega) (by omega)]; split <;> omega
  rw [m1] at y hl
  have hr : hnd p 1 0 c = true := by rw [hnd_sw]; exact hnd_root h c
  have hr0 : hnd p 1 0 c0 = true := by rw [hnd_sw]; exact hnd_root h c0
  unfold ordM
  rw [sgs_app]
  have e0 : sgs p [0] = 1 := by unfold sgs; rw [List.map_cons, List.map_nil, List.sum_cons, List.sum_nil, hl, hr0]; rfl
  have z : look (thirdsM p).l (1, 0) = some c := (look_thirds h).mpr t
  have w := cy_w (n := p.1) (s := 1) (c := c) (e := 0) (by omega) (by have := t.sv.ne h; omega) (by omega) t.cy
  have hw : (0 - 1 : Int) % p.1 ≤ 40 := by rw [arc_w (by omega) (by omega)]; split <;> omega
  have i1 := ord_sum h 39 (s := 1) (e := c) (d := 0) (!true) t.rot (by omega)
  have i2 := ord_sum h 39 (s := c) (e := 0) (d := 1) (!true) t.rot.rot (by omega)
  rw [hnd_rot p c 1 0, hr] at i1
  rw [hnd_rot p 0 c 1, hnd_rot p c 1 0, hr] at i2
  have e1 : ordN p 40 1 0 true = ordN p 39 1 c (!true) ++ ordN p 39 c 0 (!true) := by
    show (match look (thirdsM p).l (1, 0) with | none => [1] | some c => if true = true then ordN p 39 1 c (!true) ++ ordN p 39 c 0 (!true) else ordN p 39 c 0 (!true) ++ ordN p 39 1 c (!true)) = _
    rw [z]; rfl
  rw [e0, e1, sgs_app]
  have s1 : sg true = 1 := rfl
  rw [s1] at i1 i2
  omega
def rl (b : Bool) : Nat := if b = true then 114 else 108
theorem rlS_tx (b : Bool) : rlS b = tx [rl b] := by cases b <;> decide +kernel
def rowL (p : Plan) : List Nat := (ordM p).map fun k => rl (leafH p k)
def rowM (p : Plan) : Str := tx (rowL p)
theorem cnt_sgs (p : Plan) : ∀ l : List Int, PyProof.Rows.cnt 114 (l.map fun k => rl (leafH p k)) - PyProof.Rows.cnt 108 (l.map fun k => rl (leafH p k)) = sgs p l
  | [] => rfl
  | k :: l => by
    have ih := cnt_sgs p l
    rw [List.map_cons, PyProof.Rows.cnt_cons, PyProof.Rows.cnt_cons]
    show _ = (((k :: l).map fun k => sg (leafH p k)).sum)
    rw [List.map_cons, List.sum_cons]
    unfold sgs at ih
    cases leafH p k
    · show (0 + PyProof.Rows.cnt 114 _) - (1 + PyProof.Rows.cnt 108 _) = -1 + _
      omega
    · show (1 + PyProof.Rows.cnt 114 _) - (0 + PyProof.Rows.cnt 108 _) = 1 + _
      omega
theorem row_len {p : Plan} (h : isPlanM p = true) : (rowL p).length = p.1.toNat := by
  unfold rowL
  rw [List.length_map, (ordM_perm h).length_eq, rng_len, Int.sub_zero]
theorem fold_tx : ∀ (l : List Nat) (acc : List Nat), (l.map fun n => tx [n]).foldl (fun (a : Array Nat) (p : Str) => a ++ (("" : Str)).cps ++ p.cps) acc.toArray = (acc ++ l).toArray
  | [], acc => by rw [List.map_nil, List.foldl_nil, List.append_nil]
  | x :: l, acc => by
    rw [List.map_cons, List.foldl_cons]
    have e0 : (("" : Str)).cps = #[] := by decide +kernel
    have e : acc.toArray ++ (("" : Str)).cps ++ (tx [x]).cps = (acc ++ [x]).toArray := by
      rw [e0, Array.append_empty]
      show acc.toArray ++ [x].toArray = _
      rw [List.append_toArray]
    rw [e, fold_tx l (acc ++ [x]), List.append_assoc]
    rfl
theorem join_tx (l : List Nat) : Txt.join "" (l.map fun n => tx [n]) = tx l := by
  cases l with
  | nil => decide +kernel
  | cons x l =>
    show (⟨((((x :: l).map fun n => tx [n])).drop 1).foldl _ ((((x :: l).map fun n => tx [n])).headD Str.empty).cps⟩ : Str) = _
    rw [List.map_cons, List.drop_one, List.tail_cons, List.headD_cons]
    have := fold_tx l [x]
    show (⟨List.foldl _ (#[x] : Array Nat) _⟩ : Str) = _
    rw [show (#[x] : Array Nat) = [x].toArray from rfl, this]
    rfl
section
variable {σ : L2.St} {G H : Hp} {ta tb : TE} {K : Fg}
abbrev rJoin (K : Fg) : V → List V → Hp → VK → Prop := fun x xs H Q => ∃ a p, ∃ ys : List Str, x = .str a ∧ xs = [.ref p] ∧ (SqL K H p (ys.map V.str) ∨ SqT K H p (ys.map V.str)) ∧ (ys.map (·.length)).sum + ys.length * a.length ≤ 16777216 ∧ Q (.str (Txt.join a ys)) H
theorem mt_joinK {X : Cx} (h : X.K = K) : MtR X "str.join" (rJoin K) := h ▸ mt_join
theorem sum_ones : ∀ l : List Nat, ((l.map fun n => tx [n]).map (·.length)).sum = l.length
  | [] => rfl
  | x :: l => by rw [List.map_cons, List.map_cons, List.sum_cons, sum_ones l, List.length_cons, tx_len]; show 1 + l.length = l.length + 1; omega
theorem ev_joinT {l : List Nat} (hl : l.length ≤ 1000) (hb : Ev tb σ G (l.map fun n => tx [n])) : Ev (tBM K "str" (rJoin K) (tC (.str "")) (tCons tb tNil)) σ G (tx l) := fun H i Q q =>
  ⟨rfl, hb H i _ fun u G2 H2 g2 k2 => by
    obtain ⟨a, vs, rfl, h2, h3⟩ := k2
    have e := paired_strs h3
    rw [e] at h2
    have e0 : (("" : Str)).length = 0 := by decide +kernel
    refine ⟨"", a, l.map fun n => tx [n], rfl, rfl, .inl (.inl (.inl (g2.i _ _ h2))), by rw [sum_ones, List.length_map, e0]; omega, q _ G2 H2 g2 ?_⟩
    rw [join_tx]
    rfl⟩
end
end Pf

namespace Pf
open PySem PySem.Spec PyProof.Rows L2
/-! ### defs that refuse what is no plan -/
theorem TxD.okX {P : Program} {w : World} {K : Fg} {mg : Str → Option Value} {base : Heap} {x y : Str} {st : Stmt} {N ps : List Str} {k n : Nat} {dv : V} {sp : Sp} (T : TxD K mg x ps y st n dv) (S : FnScope N ps (defScope st)) (len : ∀ vs H Q E, sp vs H Q E → vs.length = ps.length)
    (hbody : ∀ (cdv : Value) (f : Addr) (A : Around) (outer : List Env) (s : Shared) (H : Hp) (vs : List V) (Q : VK) (E : XK), Room k (A.deeper (envOfC x (defScope st) s.heap.objs.size f cdv)) → sp vs H Q E →
      ∃ t, PSs (cxOf (L2.CX P w) P w K mg base N x (defScope st) f cdv A outer s H E) (defBody st) t ∧ t { nx := fun _ H' => Q .non H', rt := Q } (start N vs) H) : DfX P w K mg base (k + 1) x ps sp := by
  obtain ⟨f, fd, F, b, b1, b2, m⟩ := T.ex
  exact ⟨f, fd, F.ok S len fun cdv A outer s H vs Q E hr h => hbody cdv f A outer s H vs Q E hr h, b, F.kp, m⟩
theorem len_two {α : Type} : ∀ {l : List α}, l.length = 2 → ∃ a b, l = [a, b]
  | [a, b], _ => ⟨a, b, rfl⟩
/-- a def that is never called -/
def spNo : Sp := fun _ _ _ _ => False
theorem Tx.no {P : Program} {w : World} {K : Fg} {mg : Str → Option Value} {base : Heap} {x : Str} {st : Stmt} {N ps : List Str} (T : Tx K mg x ps st) (S : FnScope N ps (defScope st)) : DfX P w K mg base 1 x ps spNo := T.okX S (fun _ _ _ _ h => h.elim) (fun _ _ _ _ _ _ _ _ _ _ h => h.elim)
def spBP (n : Nat) (C : Addr) : Sp := fun vs H _ E => ∃ (v : V) (rest : List V) (p : Plan) (G : Hp), vs = v :: rest ∧ rest.length = n ∧ Same G H ∧ rep G v p ∧ isPlanM p = false ∧ ∀ G' H', Gr M0 G H G' H' → E (.ref C) none H'
def spBL (C : Addr) : Sp := fun vs H _ E => ∃ (v v2 : V) (p : Plan) (l : Tri Int Int Int) (G : Hp), vs = [v, v2] ∧ Same G H ∧ rep G v p ∧ rep G v2 l ∧ isPlanM p = false ∧ ∀ G' H', Gr M0 G H G' H' → E (.ref C) none H'
section
variable {α : Type} [Rep α] {σ : L2.St} {G H : Hp} {te ta tb : TE} {tr : TA} {W : WX} {Q : VK}
theorem sq_tri {α β γ : Type} [Rep α] [Rep β] [Rep γ] {K : Fg} {x : Tri α β γ} {i j l : Nat} {u : TS} {D : Ends} (h : Ev te σ G x) (s : Same G H) (k : ∀ v w z G' H', Gr M0 G H G' H' → rep G' v x.a → rep G' w x.b → rep G' z x.c → u D (((σ.set i (some v)).set j (some w)).set l (some z)) H') :
    tSeq (tAsg te (gTup K 3 (gCons (gName i) (gCons (gName j) (gCons (gName l) gNil))))) u D σ H := h H s _ fun v G' H' g r => by
  obtain ⟨a, u1, w, z, rfl, h2, h3, h4, h5⟩ := r
  exact ⟨a, [u1, w, z], rfl, .inl (.inl (g.i _ _ h2)), rfl, u1, [w, z], rfl, w, [z], rfl, z, [], rfl, rfl, k u1 w z G' H' g h3 h4 h5⟩
/-- n values, whatever they are -/
def EvV (tr : TA) (n : Nat) (σ : L2.St) (G : Hp) : Prop := ∀ H, Same G H → ∀ Q : List V → Hp → Prop, (∀ vs G' H', Gr M0 G H G' H' → vs.length = n → Q vs H') → tr σ H Q
theorem evv_nil : EvV tNil 0 σ G := fun H i Q q => q [] G H (Gr.refl i) rfl
theorem EvV.mono {G1 : Hp} {n : Nat} (h : EvV tr n σ G) (e : Same G G1) : EvV tr n σ G1 := fun H i Q q => h H (e.trans i) Q fun vs G' H' g k => q vs (uni G' G1) H' (gr_up e i g) k
theorem evv_cons {x : α} {n : Nat} (h : Ev te σ G x) (hr : EvV tr n σ G) : EvV (tCons te tr) (n + 1) σ G := fun H i Q q => h H i _ fun v G1 H1 g1 _ => (hr.mono g1.g) H1 g1.i _ fun vs G2 H2 g2 hl => q (v :: vs) G2 H2 (g1.trans g2) (by rw [List.length_cons, hl])
theorem bp_call {n : Nat} {C : Addr} {p : Plan} (ha : Ev ta σ G p) (hr : EvV tr n σ G) (s : Same G H) (hb : isPlanM p = false) (k : ∀ G' H', Gr M0 G H G' H' → W (.ref C) none σ H') : tCallS (spBP n C) (WE W) (tCons ta tr) σ H Q :=
  ha H s _ fun v G1 H1 g1 r1 => (hr.mono g1.g) H1 g1.i _ fun vs G2 H2 g2 hl => ⟨v, vs, p, G2, rfl, hl, g2.i, Rep.mono g2.g r1, hb, fun G' H' g => k G' H' ((g1.trans g2).trans g)⟩
theorem bl_call {C : Addr} {p : Plan} {l : Tri Int Int Int} (ha : Ev ta σ G p) (hr : Ev tb σ G l) (s : Same G H) (hb : isPlanM p = false) (k : ∀ G' H', Gr M0 G H G' H' → W (.ref C) none σ H') : tCallS (spBL C) (WE W) (tCons ta (tCons tb tNil)) σ H Q :=
  ha H s _ fun v G1 H1 g1 r1 => (hr.mono g1.g) H1 g1.i _ fun v2 G2 H2 g2 r2 => ⟨v, v2, p, l, G2, rfl, g2.i, Rep.mono g2.g r1, r2, hb, fun G' H' g => k G' H' ((g1.trans g2).trans g)⟩
end
end Pf

namespace Pf
open PySem PySem.Spec PySem.W PyProof.Rows L2
/-! ### first, *rest = a list -/
section
variable {prog : Program} {w : World} {A : Around} {E : Value → Shared → Prop} {s : Shared}
theorem iter_known {l : Addr} {items : Array Value} (hL : s.heap.IsList l items) : wpAny (model prog w) A (notIterableAtAll (.ref l)) (fun b s1 => b = false ∧ s1 = s) E s := by
  unfold notIterableAtAll
  exact wpAny_bind (wpAny_specialOf hL.typeIs slot_list_iter.lookup (wpAny_pure ⟨rfl, rfl⟩))
theorem unp_star {l : Addr} {items : Array Value} {Q : List Value → Shared → Prop} (hL : s.heap.IsList l items) (hA : A.handled = none) (h1 : 1 ≤ items.size) (hz : items.size ≤ 16384)
    (fin : ∀ (h' : Heap) (tk : Nat), (∀ b o, s.heap.get? b = some o → h'.get? b = some o) → s.heap.get? h'.objs.size = none → Q (items.toList.take 1 ++ [.ref h'.objs.size]) { s with heap := h'.push { cls := .type "list", data := .seq (items.toList.drop 1).toArray }, toks := tk }) :
    wpAny (model prog w) A (unpackItems (.ref l) 2 (some 1)) Q E s := by
  have hlo : ∃ o, s.heap.get? l = some o := by obtain ⟨o, ho, _⟩ := hL; exact ⟨o, ho⟩
  obtain ⟨o0, ho0⟩ := hlo
  have il : l < s.heap.objs.size := Heap.lt_size ho0
  have ne : l ≠ s.heap.objs.size := Nat.ne_of_lt il
  unfold unpackItems
  refine wpAny_bind (wpAny_mono (iter_known hL) (fun b s1 hb => ?_) fun _ _ e => e)
  obtain ⟨rfl, rfl⟩ := hb
  simp only [Bool.false_eq_true, if_false]
  refine wpAny_bind (wpAny_holding (wpAny_pyIter_list hL ?_))
  refine wpAny_bind (wpAny_holding (kun_draw ne 1 0 _ _ ⟨_, Heap.get?_push_size _ rfl, rfl, rfl⟩ (hL.push _) (by omega) fun ha ita sba => ?_))
  have la : ha.IsList l items := (hL.push _).extBut sba.extBut ne
  rw [Nat.zero_add] at ita
  have ita' := ita
  obtain ⟨oi, hoi, _⟩ := ita'
  have la' := la
  obtain ⟨ol, hol, _⟩ := la'
  rw [List.drop_zero]
  have fl : (items.toList.take 1).length = 1 := by rw [List.length_take, Array.length_toList]; omega
  rw [if_neg (show ¬ ((items.toList.take 1).length < 1) by omega)]
  refine wpAny_bind (wpAny_holding (kun_collect (s := { s1 with heap := ha }) (T := "list_iterator") (.inr (.inr (.inl rfl))) (Walks.list (A := A.in1) hA s1.heap.objs.size l ne items) (fun j u st => st.1.typeIs) (k := 1) (by omega) ⟨ita, la⟩ (Heap.lt_size hoi) (Heap.lt_size hol) (fun hb tk hk => ?_) (by rw [sizeLine_eq]; omega)))
  have rl : (items.toList.drop 1).length = items.size - 1 := by rw [List.length_drop, Array.length_toList]
  show wpAny _ _ (if (items.toList.drop 1).length < 0 then _ else _) _ _ _
  rw [if_neg (Nat.not_lt_zero _)]
  show wpAny _ _ (newList ((items.toList.drop 1).take ((items.toList.drop 1).length - 0)) >>= fun d => pure (items.toList.take 1 ++ [d] ++ (items.toList.drop 1).drop ((items.toList.drop 1).length - 0))) _ _ _
  rw [Nat.sub_zero, List.take_length, List.drop_length, ]
  have keep : ∀ b o, s1.heap.get? b = some o → hb.get? b = some o := fun b o e => hk b o (Nat.ne_of_lt (Heap.lt_size e)) (sba.extBut b o (Nat.ne_of_lt (Heap.lt_size e)) (Heap.get?_push_of_some _ e))
  have grow : s1.heap.get? hb.objs.size = none := by
    cases e : s1.heap.get? hb.objs.size with
    | none => rfl
    | some o => exact absurd (Heap.lt_size (keep _ _ e)) (Nat.lt_irrefl _)
  refine wpAny_bind (wpAny_newList (wpAny_pure ?_) (by rw [rl, sizeLine_eq]; omega))
  rw [List.append_nil]
  exact fin hb tk keep grow
end

section
variable {X : Cx} {pos p2 : Pos} {e1 e2 : Expr}
theorem pgs_starred {e : Expr} {es : List Expr} {t : TG} {u : TGs} (g1 : PG X e t) (g2 : PGs X es u) : PGs X (.Starred e p2 :: es) (gCons t u) := by
  refine ⟨fun pins s σ H vs us Q I r hh => ?_⟩
  obtain ⟨v, vr, rfl, hh⟩ := hh
  cases r with
  | cons ra rb => exact assignInOrder_cons (thn (g1.run pins s σ H _ _ _ I ra hh) fun _ s1 ⟨σ1, H1, I1, q1⟩ => g2.run pins s1 σ1 H1 _ _ Q I1 rb q1)
/-- first, *rest = a list that isn't empty -/
def gStarL (K : Fg) (t : TGs) : TG := fun v σ H Q => ∃ a x xs, v = .ref a ∧ SqL K H a (x :: xs) ∧ xs.length ≤ 10000 ∧ ∀ p, H p = none → t [x, .ref p] σ (upd H p (.lst xs)) Q
theorem pg_starL {K : Fg} {k : Nat} {t : TGs} (hK : X.K = K) (hc : X.calm = true) (h : PGs X [e1, .Starred e2 p2] t) (hn : (assignEach [e1, .Starred e2 p2] X.env).length = 2 := by rfl) (hst : (assignEach [e1, .Starred e2 p2] X.env).findIdx? (·.1) = some 1 := by rfl) : PG X (.Tuple [e1, .Starred e2 p2] k pos) (gStarL K t) := by
  subst hK
  refine ⟨fun pins s σ H v u Q I r hw => ?_⟩
  obtain ⟨a, x, xs, rfl, hq, hl, hw⟩ := hw
  cases r
  obtain ⟨its, rv, ht, hz⟩ := I.list hq
  cases rv with
  | @cons _ u0 _ us r0 r1 =>
    have lus := r1.length
    rw [assign_Tuple]
    refine wpAny_bind (wpAny_standAt ?_)
    unfold unpack
    rw [hn, hst]
    refine wpAny_bind (wpAny_holding (unp_star ht.isList (I.ok.hd hc) (by simp) (by simp; omega) fun h' tk kp fr => ?_))
    have hn0 := I.hok.gone fr
    have I1 := I.laidN (h' := h'.push { cls := .type "list", data := .seq us.toArray }) (a := h'.objs.size) (o := .lst xs) (t' := tk) (fun b o e => Heap.get?_push_of_some _ (kp b o e)) fr hn0 ⟨sl_small (by omega), us, 0, r1, Heap.get?_push_size _ rfl⟩
    exact h.run pins _ σ _ [x, .ref h'.objs.size] _ Q I1 (.cons r0 (.cons rfl .nil)) (hw _ hn0)
end
/-! ### x in a dict of the module -/
def rInKD (K : Fg) (w : World) (neg : Bool) : R2 := fun x y H Q => ∃ p z, x = .str z ∧ y = .ref p ∧ (p == sysModules) = false ∧ (((∃ v, KDct K w p z v) ∧ Q (.bl (!neg)) H) ∨ (KMiss K w p z ∧ Q (.bl neg) H))
section
variable {X : Cx} {K : Fg} {w : World}
theorem op_inKD (hK : X.K = K) (hw : X.w = w) : OpR X (compareOp .In) (rInKD K w false) := by
  subst hK hw
  intro pins s σ H x y v u Q I rx ry h
  obtain ⟨p, z, rfl, rfl, hp, h⟩ := h
  obtain ⟨t, rfl⟩ := rx
  obtain rfl : u = Value.ref p := ry
  rcases h with ⟨⟨v0, es, n, u0, hl, hk, e, _⟩, q⟩ | ⟨⟨es, n, hl, hk, _, e⟩, q⟩
  · have hm := PySem.W.mapOf_K (prog := X.prog) (w := X.w) I.kIn hl hk
    refine wpAny_in_of (strKind_is X.prog X.w z t) hp hm ⟨.bl true, H, I.tok _, ?_, q⟩
    rw [PySem.W.find_K hl e]; rfl
  · have hm := PySem.W.mapOf_K (prog := X.prog) (w := X.w) I.kIn hl hk
    refine wpAny_in_of (strKind_is X.prog X.w z t) hp hm ⟨.bl false, H, I.tok _, ?_, q⟩
    rw [PySem.W.find_K hl e]; rfl
theorem op_notInKD (hK : X.K = K) (hw : X.w = w) : OpR X (compareOp .NotIn) (rInKD K w true) := by
  subst hK hw
  intro pins s σ H x y v u Q I rx ry h
  obtain ⟨p, z, rfl, rfl, hp, h⟩ := h
  obtain ⟨t, rfl⟩ := rx
  obtain rfl : u = Value.ref p := ry
  rcases h with ⟨⟨v0, es, n, u0, hl, hk, e, _⟩, q⟩ | ⟨⟨es, n, hl, hk, _, e⟩, q⟩
  · have hm := PySem.W.mapOf_K (prog := X.prog) (w := X.w) I.kIn hl hk
    refine wpAny_notIn_of (strKind_is X.prog X.w z t) hp hm ⟨.bl false, H, I.tok _, ?_, q⟩
    rw [PySem.W.find_K hl e]; rfl
  · have hm := PySem.W.mapOf_K (prog := X.prog) (w := X.w) I.kIn hl hk
    refine wpAny_notIn_of (strKind_is X.prog X.w z t) hp hm ⟨.bl true, H, I.tok _, ?_, q⟩
    rw [PySem.W.find_K hl e]; rfl
theorem pa_starK {e : Expr} {p : Pos} {es : List Expr} {te : TE} {t : TA} (hK : X.K = K) (he : PE X e te) (hr : PA X es t) (hs : starEach (.Starred e p :: es) X.env = (true, eval e X.env) :: starEach es X.env := by rfl) : PA X (.Starred e p :: es) (StX.tStar K te t) := hK ▸ StX.pa_star he hr hs
/-! ### str(x) of a text or a whole number; int(text) -/
def rStrT : List V → Hp → VK → Prop := fun xs H Q => (∃ i : Int, xs = [.int i] ∧ i.natAbs.log2 < 1920 ∧ Q (.str (toString i)) H) ∨ ∃ a, xs = [.str a] ∧ Q (.str a) H
theorem call_strT : CallR X (.type "str") rStrT := by
  intro pins s σ H vs us Q I r h
  rcases h with h | h
  · exact call_str_int pins s σ H vs us Q I r h
  · exact SkE.call_str_str pins s σ H vs us Q I r h
abbrev rIntT : List V → Hp → VK → Prop := fun xs H Q => ∃ a n, xs = [.str a] ∧ PySem.intText? a = some n ∧ a.length ≤ 640 ∧ Q (.int n) H
/-! ### a def that stands in a name of the def: the promise comes with the value -/
def tCallD (P : Program) (w : World) (K : Fg) (mg : Str → Option Value) (base : Heap) (k i : Nat) (t : TA) : TE := fun σ H Q => ∃ f sp, σ[i]? = some (some (.ref f)) ∧ Held P w K mg base k f sp ∧ t σ H fun vs H1 => sp vs H1 Q E0
theorem pe_callD {P : Program} {mg : Str → Option Value} {base : Heap} {k i : Nat} {x : Str} {p pos : Pos} {e : Expr} {es : List Expr} {t : TA} (hP : X.prog = P) (hw : X.w = w) (hK : X.K = K) (hm : X.mg = mg) (hB : X.base = base) (hr : Room k X.A) (hN : X.N[i]? = some x) (hv : Vis X.env.scope x) (ha : PA X (e :: es) t)
    (hdb : (x == ("__debug__" : Str)) = false := by decide) (hcd : (x == ("__classdict__" : Str)) = false := by decide)
    (he : starEach (e :: es) X.env = (false, eval e X.env) :: starEach es X.env := by rfl) (hpl : (backTo pos (starEach es X.env)).any (·.1) = false := by rfl) : PE X (.Call (.Name x p) (e :: es) [] pos) (tCallD P w K mg base k i t) := by
  subst hP hw hK hm hB
  refine ⟨fun pins s σ H Q I h => ?_⟩
  obtain ⟨f, sp, hs, hh, ht⟩ := h
  obtain ⟨fd, ps, F, hk, hb⟩ := hh.ex
  refine (pe_callL (i := i) (f := f) (sp := sp) (dvs := []) (E := E0) F hr hN hv hk hb .nil pass0 ha hdb hcd he hpl).run pins s σ H Q I ⟨hs, ?_⟩
  have e0 : (fun (vs : List V) (H1 : Hp) => sp (vs ++ []) H1 Q E0) = fun vs H1 => sp vs H1 Q E0 := by
    funext vs H1
    rw [List.append_nil]
  show t σ H (fun vs H1 => sp (vs ++ []) H1 Q E0)
  rw [e0]
  exact ht
theorem Df.held {P : Program} {mg : Str → Option Value} {base : Heap} {k : Nat} {x : Str} {ps : List Str} {sp : Sp} {f : Addr} (D : Df P w K mg base k x ps sp) (e : mg x = some (.ref f)) : Held P w K mg base k f sp := by
  obtain ⟨f2, fd, F, b, kp, m⟩ := D.ex
  rw [e] at m
  cases m
  exact ⟨fd, ps, F, kp, b⟩
end
end Pf

namespace Pf
open PySem PySem.Spec PyProof.Rows L2
open TL (tl numL)
/-! ### texts of numbers, split and joined -/
def numS (i : Int) : Str := Str.ofString (toString i)
theorem tl_numS {n : Int} (h : 0 ≤ n) : tl (numS n) = numL n.toNat := by
  obtain ⟨k, rfl⟩ : ∃ k : Nat, n = (k : Int) := ⟨n.toNat, by omega⟩
  exact TL.tl_num k
theorem log_ok {n : Int} (h0 : 0 ≤ n) (h1 : n ≤ 99999) : n.natAbs.log2 < 1920 := by
  by_cases e : n.natAbs = 0
  · rw [e]; decide
  · have : n.natAbs < 2 ^ 17 := by omega
    exact Nat.lt_of_lt_of_le ((Nat.log2_lt e).mpr this) (by decide)
theorem paired_strs2 {G : Hp} : ∀ ys : List Str, Paired (rep G) (ys.map V.str) ys
  | [] => .nil
  | y :: ys => .cons rfl (paired_strs2 ys)
section
variable {σ : L2.St} {G H : Hp} {ta tb te tc : TE} {K : Fg} {D : Ends} {u : TS} {ts : List TE}
theorem ev_numS {i : Int} (h : Ev ta σ G i) (hz : i.natAbs.log2 < 1920) : Ev (tCB rStrT (tCons ta tNil)) σ G (numS i) := ev_B1 h fun v G' H _ j k Q q => .inl ⟨i, by rw [rep_int k], hz, q _ G' H (Gr.refl j) rfl⟩
theorem ev_strS {z : Str} (h : Ev ta σ G z) : Ev (tCB rStrT (tCons ta tNil)) σ G z := ev_B1 h fun v G' H _ j k Q q => .inr ⟨z, by rw [rep_str k], q _ G' H (Gr.refl j) rfl⟩
theorem ev_intS {z : Str} {n : Int} (h : Ev ta σ G z) (e : PySem.intText? z = some n) (hl : z.length ≤ 640) : Ev (tCB rIntT (tCons ta tNil)) σ G n := ev_B1 h fun v G' H _ j k Q q => ⟨z, n, by rw [rep_str k], e, hl, q _ G' H (Gr.refl j) rfl⟩
theorem ev_fmtI {i : Int} (h : Ev te σ G i) (hz : i.natAbs.log2 < 1920) : Ev (tFmt te) σ G (numS i) := fun H j Q q => h H j _ fun v G' H' g r => .inr ⟨i, rep_int r, hz, q _ G' H' g rfl⟩
theorem ev_fmtS {z : Str} (h : Ev te σ G z) (hz : z.length ≤ 100000) : Ev (tFmt te) σ G z := fun H j Q q => h H j _ fun v G' H' g r => .inl ⟨z, rep_str r, sl_small hz, q _ G' H' g rfl⟩
def lenSum (ys : List Str) : Nat := (ys.map (·.length)).sum
def EvJ (ts : List TE) (σ : L2.St) (G : Hp) (ys : List Str) : Prop := ∀ H, Same G H → ∀ (acc : Str) (Q : Str → Hp → Prop), acc.length + lenSum ys ≤ 100000 → (∀ G' H', Gr M0 G H G' H' → Q (ys.foldl (fun a y => a ++ y) acc) H') → tJs ts acc σ H Q
theorem EvJ.mono {G1 : Hp} {ys : List Str} (h : EvJ ts σ G ys) (e : Same G G1) : EvJ ts σ G1 ys := fun H i acc Q hl q => h H (e.trans i) acc Q hl fun G' H' g => q (uni G' G1) H' (gr_up e i g)
theorem app_len (a b : Str) : (a ++ b).length = a.length + b.length := by rw [TL.len_tl, TL.tl_append, List.length_append, ← TL.len_tl, ← TL.len_tl]
theorem ej_nil : EvJ [] σ G [] := fun H i acc Q _ q => q G H (Gr.refl i)
theorem ej_cons {y : Str} {ys : List Str} (h : Ev te σ G y) (r : EvJ ts σ G ys) : EvJ (te :: ts) σ G (y :: ys) := fun H i acc Q hl q => by
  have hl2 : acc.length + (y.length + lenSum ys) ≤ 100000 := hl
  have e := app_len acc y
  refine h H i _ fun v G1 H1 g1 k1 => ⟨y, rep_str k1, sl_small (by omega), ?_⟩
  exact (r.mono g1.g) H1 g1.i _ Q (by omega) fun G' H' g => q G' H' (g1.trans g)
theorem ev_js {ys : List Str} (h : EvJ ts σ G ys) (hl : lenSum ys ≤ 100000) : Ev (fun σ H Q => tJs ts Str.empty σ H fun out H1 => Q (.str out) H1) σ G (ys.foldl (fun a y => a ++ y) Str.empty) := fun H i Q q =>
  h H i Str.empty _ (by show 0 + lenSum ys ≤ 100000; omega) fun G' H' g => q _ G' H' g rfl
abbrev rSplitS : V → List V → Hp → VK → Prop := fun x xs H Q => ∃ a b, x = .str a ∧ xs = [.str b] ∧ (b.length == 0) = false ∧ a.length + 2 ≤ sizeLine ∧ rNewStrs (Txt.split a b) H Q
theorem ev_splitS {a b : Str} (ha : Ev ta σ G a) (hb : Ev tb σ G b) (hne : (b.length == 0) = false) (hl : a.length ≤ 90000) : Ev (tM1 rSplitS ta tb) σ G (Txt.split a b) := fun H i Q q =>
  ha H i _ fun v G1 H1 g1 k1 => ⟨⟨a, rep_str k1⟩, (hb.mono g1.g) H1 g1.i _ fun w G2 H2 g2 k2 => ⟨a, b, rep_str k1, by rw [rep_str k2], hne, sl_small (by omega), fun p np => q _ (upd G2 p (.lst ((Txt.split a b).map V.str))) _ ((g1.trans g2).trans (gr_new g2.i np)) ⟨p, _, rfl, upd_same, paired_strs2 _⟩⟩⟩
abbrev rPartS : V → List V → Hp → VK → Prop := fun x xs H Q => ∃ a b, x = .str a ∧ xs = [.str b] ∧ (b.length == 0) = false ∧ a.length ≤ sizeLine ∧ ∀ p, H p = none → Q (.ref p) (upd H p (.tup [.str (Txt.partition a b).1, .str (Txt.partition a b).2.1, .str (Txt.partition a b).2.2]))
theorem ev_partS {a b : Str} (ha : Ev ta σ G a) (hb : Ev tb σ G b) (hne : (b.length == 0) = false) (hl : a.length ≤ 90000) : Ev (tM1 rPartS ta tb) σ G (Tri.mk (Txt.partition a b).1 (Txt.partition a b).2.1 (Txt.partition a b).2.2 : Tri Str Str Str) := fun H i Q q =>
  ha H i _ fun v G1 H1 g1 k1 => ⟨⟨a, rep_str k1⟩, (hb.mono g1.g) H1 g1.i _ fun w G2 H2 g2 k2 => ⟨a, b, rep_str k1, by rw [rep_str k2], hne, sl_small (by omega), fun p np => q _ (upd G2 p _) _ ((g1.trans g2).trans (gr_new g2.i np)) ⟨p, _, _, _, rfl, upd_same, rfl, rfl, rfl⟩⟩⟩
theorem ev_joinS {a : Str} {ys : List Str} (hb : Ev tb σ G ys) (hz : lenSum ys + ys.length * a.length ≤ 100000) : Ev (tBM K "str" (rJoin K) (tC (.str a)) (tCons tb tNil)) σ G (Txt.join a ys) := fun H i Q q =>
  ⟨rfl, hb H i _ fun v G2 H2 g2 k2 => by
    obtain ⟨p, vs, rfl, h2, h3⟩ := k2
    rw [paired_strs h3] at h2
    exact ⟨a, p, ys, rfl, rfl, .inl (.inl (.inl (g2.i _ _ h2))), by unfold lenSum at hz; omega, q _ G2 H2 g2 rfl⟩⟩
theorem sq_starL {α : Type} [Rep α] {i j : Nat} {x : α} {xs : List α} (h : Ev te σ G (x :: xs)) (s : Same G H) (hl : xs.length ≤ 10000) (k : ∀ v p G' H', Gr M0 G H G' H' → rep G' v x → rep G' (.ref p) xs → u D ((σ.set i (some v)).set j (some (.ref p))) H') :
    tSeq (tAsg te (gStarL K (gCons (gName i) (gCons (gName j) gNil)))) u D σ H := h H s _ fun v G' H' g r => by
  obtain ⟨a, vs, rfl, e, pr⟩ := r
  cases pr with
  | cons r1 r2 => exact ⟨a, _, _, rfl, .inl (.inl (g.i _ _ e)), by rw [paired_len r2]; exact hl, fun p np => ⟨_, _, rfl, _, _, rfl, rfl, k _ p (upd G' p (.lst _)) _ (g.trans (gr_new g.i np)) (Rep.mono (gr_new (o := .lst _) g.i np).g r1) ⟨p, _, rfl, upd_same, paired_mono (gr_new (o := .lst _) g.i np).g r2⟩⟩⟩
/-- (x, *xs) -/
theorem ev_tupStar {α : Type} [Rep α] {x : α} {xs : List α} (ha : Ev ta σ G x) (hb : Ev tb σ G xs) (hl : xs.length ≤ 10000) : Ev (tTup (tCons ta (StX.tStar K tb tNil))) σ G (Tup.mk (x :: xs)) := fun H i Q q =>
  ha H i _ fun v G1 H1 g1 k1 => (hb.mono g1.g) H1 g1.i _ fun w G2 H2 g2 k2 => by
    obtain ⟨p, vs, rfl, e, pr⟩ := k2
    have lv := paired_len pr
    refine ⟨p, vs, rfl, .inr (.inl (.inl (g2.i _ _ e))), ?_⟩
    show (v :: (vs ++ [])).length ≤ sizeLine ∧ ∀ t, H2 t = none → Q (.ref t) (upd H2 t (.tup (v :: (vs ++ []))))
    rw [List.append_nil]
    refine ⟨sl_small (by rw [List.length_cons]; omega), fun t nt => ?_⟩
    have gn := gr_new (o := .tup (v :: vs)) g2.i nt
    exact q _ (upd G2 t (.tup (v :: vs))) _ ((g1.trans g2).trans gn) ⟨t, _, rfl, upd_same, .cons (Rep.mono (g2.g.trans gn.g) k1) (paired_mono gn.g pr)⟩
abbrev rInC : R2 := fun x y H Q => ∃ (c : Nat) (z : Str), x = .str ⟨#[c]⟩ ∧ y = .str z ∧ Q (.bl (decide (c ∈ z.cps.toList))) H
theorem op_inC {X : Cx} : OpR X (compareOp .In) rInC := op_in_sign
/-- c in a text -/
theorem ev_inC {c : Nat} {z : Str} (ha : Ev ta σ G (⟨#[c]⟩ : Str)) (hb : Ev tb σ G z) : Ev (tOp rInC ta tb) σ G (decide (c ∈ z.cps.toList)) := ev2 ha hb fun v w G' _ k1 k2 H i Q q => ⟨c, z, rep_str k1, rep_str k2, q _ G' H (Gr.refl i) rfl⟩
theorem EvI.via {α β : Type} [Rep α] [Rep β] {wi : TI} {xs : List α} {g : α → β} (h : EvI wi σ G (xs.map g)) (hv : ∀ (G' : Hp) (v : V) (x : α), rep G' v (g x) → rep G' v x) : EvI wi σ G xs := fun H i R q => h H i R fun J G' H' gg ok => q J G' H' gg ⟨fun k H s l => ok.go k H s (by rw [List.length_map]; exact l), fun k H s l => ok.stop k H s (by rw [List.length_map]; exact l), fun k H v H' G1 x s1 s2 y e => by
  obtain ⟨G2, g2, r⟩ := ok.yld k H v H' G1 (g x) s1 s2 y (by rw [List.getElem?_map, e]; rfl)
  exact ⟨G2, g2, hv _ _ _ r⟩⟩
end
end Pf

namespace Pf
open PySem PySem.Spec PyProof.Rows L2
/-! ### zip of a tuple and a list, of lengths that stay -/
def ItzM (K : Fg) (a b : Addr) (n1 n2 : Nat) : It :=
  ⟨fun i H => i < n1 ∧ i < n2 ∧ ∃ xs ys : List V, SqT K H a xs ∧ SqL K H b ys ∧ xs.length = n1 ∧ ys.length = n2,
    fun i H v H' => ∃ T x y, v = .ref T ∧ H T = none ∧ H' = upd H T (.tup [x, y]) ∧ (∀ xs, SqT K H a xs → xs[i]? = some x) ∧ ∀ ys, SqL K H b ys → ys[i]? = some y,
    fun i H => (n1 ≤ i ∨ n2 ≤ i) ∧ ∃ xs ys : List V, SqT K H a xs ∧ SqL K H b ys ∧ xs.length = n1 ∧ ys.length = n2⟩
theorem turn_zipM {P : Program} {w : World} {K : Fg} {elts : List Expr} {kk : Nat} {tpos : Pos} {z TI TO i1 i2 a b : Addr} {n1 n2 : Nat} (S : ZipSep2 z TI TO i1 i2 [i1, a] [i2, b]) (na : a ≠ i1) (nb : b ≠ i2) :
    Turn P w K (.Tuple elts kk tpos) (ItzM K a b n1 n2) [z, TI, TO, i1, i2] z (fun i h => IsZip h z TI TO .none ∧ IsTupOf2 h TI (.ref i1) (.ref i2) ∧ (∃ p q, IsTupOf2 h TO p q) ∧ h.IsTupleIter i1 a i ∧ h.IsListIter i2 b i ∧ i ≤ n1 ∧ i ≤ n2) where
  mem := by simp
  obj := fun i h st c hc => by
    obtain ⟨hz, hTI, ⟨p, q, hTO⟩, ⟨o1, e1, _, d1⟩, ⟨o2, e2, _, d2⟩, _⟩ := st
    rcases (show c = z ∨ c = TI ∨ c = TO ∨ c = i1 ∨ c = i2 by simpa using hc) with rfl | rfl | rfl | rfl | rfl
    · exact ⟨_, hz, nofun⟩
    · exact ⟨_, hTI, nofun⟩
    · exact ⟨_, hTO, nofun⟩
    · exact ⟨o1, e1, fun v y => by rw [d1] at y; cases y⟩
    · exact ⟨o2, e2, fun v y => by rw [d2] at y; cases y⟩
  keep := fun i h h' st k => by
    obtain ⟨hz, hTI, ⟨p, q, hTO⟩, t1, t2, le⟩ := st
    exact ⟨k z (by simp) _ hz, k TI (by simp) _ hTI, ⟨p, q, k TO (by simp) _ hTO⟩, t1.at fun o y => k i1 (by simp) o y, t2.at fun o y => k i2 (by simp) o y, le⟩
  item := by
    intro X hP hw hK hc i pins s σ H E I hf st hg
    subst hP hw hK
    obtain ⟨hz, hTI, ⟨x0, y0, hTO⟩, t1, t2, l1, l2⟩ := st
    obtain ⟨g1, g2, xs, ys, hqx, hqy, lx, ly⟩ := hg
    obtain ⟨its, rv, pt, _⟩ := I.tuple hqx
    obtain ⟨its2, rv2, pl, _⟩ := I.list hqy
    have e1 := rv.length
    have e2 := rv2.length
    have hh : X.A.in1.handled = none := I.ok.hd hc
    have hzl : z < s.heap.objs.size := Heap.lt_size hz
    obtain ⟨x, hx⟩ : ∃ x, xs[i]? = some x := ⟨_, List.getElem?_eq_getElem (by omega)⟩
    obtain ⟨y, hy⟩ : ∃ y, ys[i]? = some y := ⟨_, List.getElem?_eq_getElem (by omega)⟩
    obtain ⟨u, hu, ru⟩ := rv.get hx
    obtain ⟨u2, hu2, ru2⟩ := rv2.get hy
    refine wpAny_pyNext_zipD2_item S (Draws.tuple hh i1 a na its.toArray) (Draws.list hh i2 b nb its2.toArray) hz hTI hTO ⟨t1, pt⟩ ⟨t2, pl.isList⟩ (by simp; omega) (by simp; omega) fun v1 v2 h' tk p1 p2 z' TO' t1' t2' hT hsz hk => ?_
    have ev1 : v1 = u := by have p1 : its.toArray[i]? = some v1 := p1; rw [List.getElem?_toArray, hu] at p1; exact (Option.some.inj p1).symm
    have ev2 : v2 = u2 := by have p2 : its2.toArray[i]? = some v2 := p2; rw [List.getElem?_toArray, hu2] at p2; exact (Option.some.inj p2).symm
    subst ev1 ev2
    refine ⟨_, rfl, wpAny_letOwnedTupleGo_zip (s := { s with heap := h', toks := tk }) z' fun h'' z'' sb => ?_⟩
    have hT2 : h''.get? s.heap.objs.size = some { cls := .type "tuple", data := .seq #[v1, v2] } := (sb.2 _ (Nat.ne_of_gt hzl)).trans hT
    have new : ObjOk X.prog X.w (upd H s.heap.objs.size (.tup [x, y])) h'' s.heap.objs.size (.tup [x, y]) := ⟨by show 2 ≤ sizeLine; decide, [v1, v2], .cons ru (.cons ru2 .nil), ⟨_, hT2, rfl, _, rfl⟩⟩
    have kp : ∀ c o, c ∉ [z, TI, TO, i1, i2] → s.heap.get? c = some o → h''.get? c = some o := fun c o hb q => by
      simp only [List.mem_cons, List.not_mem_nil, or_false, not_or] at hb
      exact (sb.2 c hb.1).trans (hk c o hb.1 hb.2.2.1 hb.2.2.2.1 hb.2.2.2.2 q)
    have I1 := I.turnedNew (t' := tk) (ch := [z, TI, TO, i1, i2]) kp hf (Nat.le_refl _) new
    refine ⟨.ref s.heap.objs.size, _, I1, rfl, ⟨_, x, y, rfl, I.hok.fresh (Nat.le_refl _), rfl, fun l hl => by rw [I.tuple_inj hl hqx]; exact hx, fun l hl => by rw [I.list_inj hl hqy]; exact hy⟩, ⟨z'', ?_, ⟨v1, v2, ?_⟩, ?_, ?_, by omega, by omega⟩, fun c hcm => ?_⟩
    · exact (sb.2 _ S.TIz).trans (hk _ _ S.TIz S.TITO S.TIi1 S.TIi2 hTI)
    · exact (sb.2 _ S.TOz).trans TO'
    · exact t1'.1.at fun o q => (sb.2 _ (Ne.symm S.zi1)).trans q
    · exact t2'.1.at fun o q => (sb.2 _ (Ne.symm S.zi2)).trans q
    · have hlt : c < s.heap.objs.size := by
        rcases (show c = z ∨ c = TI ∨ c = TO ∨ c = i1 ∨ c = i2 by simpa using hcm) with rfl | rfl | rfl | rfl | rfl
        · exact hzl
        · exact Heap.lt_size hTI
        · exact Heap.lt_size hTO
        · obtain ⟨_, y1, _⟩ := t1; exact Heap.lt_size y1
        · obtain ⟨_, y1, _⟩ := t2; exact Heap.lt_size y1
      rw [upd_ne (Nat.ne_of_lt hlt)]
      exact (hf c hcm).1
  done := by
    intro X hP hw hK hc i pins s σ H E I hf st hg
    subst hP hw hK
    obtain ⟨hz, hTI, ⟨x0, y0, hTO⟩, t1, t2, l1, l2⟩ := st
    obtain ⟨hend, xs, ys, hqx, hqy, lx, ly⟩ := hg
    obtain ⟨its, rv, pt, _⟩ := I.tuple hqx
    obtain ⟨its2, rv2, pl, _⟩ := I.list hqy
    have e1 := rv.length
    have e2 := rv2.length
    have hh : X.A.in1.handled = none := I.ok.hd hc
    refine wpAny_pyNext_zipD2_end S (Draws.tuple hh i1 a na its.toArray) (Draws.list hh i2 b nb its2.toArray) hz hTI hTO ⟨t1, pt⟩ ⟨t2, pl.isList⟩ (by simp; omega) (by simp; omega) (by simp; omega) fun h' tk hk => ⟨rfl, ?_⟩
    refine I.turnedL (t' := tk) (ch := [z, TI, TO, i1, i2]) (fun c o hb q => ?_) hf
    simp only [List.mem_cons, List.not_mem_nil, or_false, not_or] at hb
    exact hk c o hb.1 hb.2.2.1 hb.2.2.2.1 hb.2.2.2.2 q
  self := fun A i s Q E st h => wpAny_pyIter_zip st.1 h
def iZipM (K : Fg) (ta : TA) : TI := fun σ H R => ta σ H fun vs H1 => ∃ a b xs ys, vs = [.ref a, .ref b] ∧ SqT K H1 a xs ∧ SqL K H1 b ys ∧ R (ItzM K a b xs.length ys.length) H1
theorem pi_zipM {K : Fg} {X : Cx} {e e2 : Expr} {ta : TA} {p pos tpos : Pos} {elts : List Expr} {kk : Nat} (hK : X.K = K) (hg : Gl X "zip") (hm : X.mg "zip" = none) (ha : PA X [e, e2] ta)
    (hs : starEach [e, e2] X.env = (false, eval e X.env) :: starEach [e2] X.env := by rfl) (hpl : (backTo pos (starEach [e2] X.env)).any (·.1) = false := by rfl) :
    PI X (.Tuple elts kk tpos) (.Call (.Name "zip" p) [e, e2] [] pos) (iZipM K ta) := by
  subst hK
  refine ⟨fun pins s σ H R I h => ?_⟩
  refine Call_ (ld_blt I hg hm PyProof.Rows.boot_zip (PyProof.Rows.callWith_type1 (thn (ha.run pos pins s σ H _ I h) fun us s1 ⟨vs, H1, I1, r1, q1⟩ => ?_) hs hpl))
  obtain ⟨a, b, xs, ys, ex, hqx, hqy, q⟩ := q1
  subst ex
  cases r1 with
  | cons r rr =>
    cases rr with
    | cons r' rr =>
      cases rr
      cases r; cases r'
      obtain ⟨its, rv, pt, _⟩ := I1.tuple hqx
      obtain ⟨its2, rv2, pl, _⟩ := I1.list hqy
      obtain ⟨oa, ha1, _⟩ := id pt
      have la : a < s1.heap.objs.size := Heap.lt_size ha1
      have lb : b < s1.heap.objs.size := pl.lt
      refine zip_begins2 (begins_tuple a its.toArray) (begins_list b its2.toArray) pt pl.isList fun h' hz hTI hTO t1 t2 hsz hk => wpAny_pyIter_zip hz ?_
      have I2 : Inv X pins σ H1 { s1 with heap := h' } := I1.kept (t' := s1.toks) hk
      refine ⟨s1.heap.objs.size + 4, [s1.heap.objs.size + 4, s1.heap.objs.size + 2, s1.heap.objs.size + 3, s1.heap.objs.size, s1.heap.objs.size + 1], _, _, H1, rfl, I2, turn_zipM (n1 := xs.length) (n2 := ys.length) (zip_sep2 (fp1 := [a]) (fp2 := [b]) (by simpa using la) (by simpa using lb)) (Nat.ne_of_lt la) (Nat.ne_of_lt (Nat.lt_succ_of_lt lb)), ⟨hz, hTI, ⟨_, _, hTO⟩, ⟨_, t1, rfl, rfl⟩, ⟨_, t2, rfl, rfl⟩, Nat.zero_le _, Nat.zero_le _⟩, fun c hcm => ?_, q⟩
      have hle : s1.heap.objs.size ≤ c := by
        rcases (show c = s1.heap.objs.size + 4 ∨ c = s1.heap.objs.size + 2 ∨ c = s1.heap.objs.size + 3 ∨ c = s1.heap.objs.size ∨ c = s1.heap.objs.size + 1 by simpa using hcm) with y | y | y | y | y <;> (rw [y]; first | exact Nat.le_add_right _ _ | exact Nat.le_refl _)
      exact I1.fpOk hle (I1.hok.fresh hle)
section
variable {σ : L2.St} {G H : Hp} {tb : TE} {K : Fg}
/-- zip of a tuple of the module and a list -/
theorem ei_zipK {b : Addr} {i : Nat} {ks : List Str} {ys : List Str} (hv : σ[i]? = some (some (.ref b))) (hS : ∀ H, SqT K H b (ks.map V.str)) (hb : Ev tb σ G ys) : EvI (iZipM K (tCons (tVar i) (tCons tb tNil))) σ G (ks.zip ys) := fun H i R q =>
  ⟨.ref b, hv, hb H i _ fun w G2 H2 g2 k2 => by
    obtain ⟨c, us, rfl, h4, h5⟩ := k2
    have hu := paired_strs h5
    subst hu
    refine ⟨b, c, _, _, rfl, hS _, .inl (.inl (g2.i _ _ h4)), q _ G2 H2 g2 ⟨fun k H s l => ?_, fun k H s l => ?_, fun k H v H' Ga x s1 s2 yl e => ?_⟩⟩
    · rw [List.length_zip] at l
      exact ⟨by rw [List.length_map]; omega, by rw [List.length_map]; omega, _, _, hS _, .inl (.inl (s _ _ h4)), rfl, rfl⟩
    · rw [List.length_zip] at l
      exact ⟨by rw [List.length_map, List.length_map]; omega, _, _, hS _, .inl (.inl (s _ _ h4)), rfl, rfl⟩
    · obtain ⟨T, x1, x2, rfl, nT, rfl, f1, f2⟩ := yl
      have e1 := f1 _ (hS _)
      have e2 := f2 _ (.inl (.inl (s2 _ _ (s1 _ _ h4))))
      rw [List.getElem?_map] at e1 e2
      rw [List.getElem?_zip_eq_some] at e
      rw [e.1] at e1
      rw [e.2] at e2
      cases e1; cases e2
      have gn := gr_new (o := .tup [V.str x.1, V.str x.2]) s2 nT
      exact ⟨upd Ga T (.tup [V.str x.1, V.str x.2]), gn, T, _, _, rfl, upd_same, rfl, rfl⟩⟩
end
end Pf

namespace Pf
open PySem PySem.Spec PyProof.Rows L2
open TL (tl numL)
/-! ### names, letters, numbers -/
abbrev lowsS : Str := "abcdefghijklmnopqrstuvwxyz"
abbrev figsS : Str := "0123456789"
def lowB (c : Nat) : Bool := decide (c ∈ lowsS.cps.toList)
def figB (c : Nat) : Bool := decide (c ∈ figsS.cps.toList)
theorem lows_eq : lowsS.cps.toList = (List.range 26).map (· + 97) := by decide +kernel
theorem figs_eq : figsS.cps.toList = (List.range 10).map (· + 48) := by decide +kernel
theorem low_iff {c : Nat} : lowB c = true ↔ 97 ≤ c ∧ c ≤ 122 := by
  unfold lowB
  rw [lows_eq, decide_eq_true_eq, List.mem_map]
  constructor
  · rintro ⟨k, hk, rfl⟩
    have := List.mem_range.mp hk
    omega
  · intro h
    exact ⟨c - 97, List.mem_range.mpr (by omega), by omega⟩
theorem fig_iff {c : Nat} : figB c = true ↔ 48 ≤ c ∧ c ≤ 57 := by
  unfold figB
  rw [figs_eq, decide_eq_true_eq, List.mem_map]
  constructor
  · rintro ⟨k, hk, rfl⟩
    have := List.mem_range.mp hk
    omega
  · intro h
    exact ⟨c - 48, List.mem_range.mpr (by omega), by omega⟩
def nameB (z : Str) : Bool := !(decide (z.length < 1) || decide (8 < z.length)) && z.cps.toList.all lowB
def letB (z : Str) : Bool := decide (z.length = 1) && z.cps.toList.all lowB
def numB (z : Str) : Bool := !(decide (z.length < 1) || decide (4 < z.length)) && (z.cps.toList.all figB && (decide (z = "0") || !decide (z.cps.toList[0]? = some 48)))
def intM (z : Str) : Int := (PySem.intText? z).getD 0
theorem numL_head : ∀ n : Nat, 1 ≤ n → ∃ c, (numL n)[0]? = some c ∧ c ≠ 48 := by
  intro n
  induction n using Nat.strongRecOn with
  | _ n ih =>
    intro h
    by_cases h10 : n < 10
    · rw [TL.numL_lt h10]
      exact ⟨48 + n, rfl, by omega⟩
    · rw [TL.numL_step (by omega)]
      obtain ⟨c, h1, h2⟩ := ih (n / 10) (by omega) (by omega)
      exact ⟨c, by rw [List.getElem?_append_left (List.getElem?_eq_some_iff.mp h1).1]; exact h1, h2⟩
theorem numL_fig {n c : Nat} (h : c ∈ numL n) : 48 ≤ c ∧ c ≤ 57 := by
  by_cases q : c < 48 ∨ 57 < c
  · exact absurd h (TL.numL_free q)
  · omega
theorem numS_len {n : Int} (h0 : 0 ≤ n) (h1 : n ≤ 9999) : 1 ≤ (numS n).length ∧ (numS n).length ≤ 4 := by
  rw [TL.len_tl, tl_numS h0]
  refine ⟨?_, TL.numL_len (by decide) (by omega)⟩
  have := TL.numL_ne n.toNat
  cases e : numL n.toNat with
  | nil => exact absurd e this
  | cons a l => simp
theorem numB_numS {n : Int} (h0 : 0 ≤ n) (h1 : n ≤ 9999) : numB (numS n) = true := by
  obtain ⟨l1, l2⟩ := numS_len h0 h1
  have ht : (numS n).cps.toList = numL n.toNat := tl_numS h0
  unfold numB
  rw [ht, decide_eq_false (by omega), decide_eq_false (by omega)]
  have ha : (numL n.toNat).all figB = true := List.all_eq_true.mpr fun c hc => fig_iff.mpr (numL_fig hc)
  rw [ha]
  by_cases e : n = 0
  · subst e; decide +kernel
  · obtain ⟨c, h2, h3⟩ := numL_head n.toNat (by omega)
    rw [h2]
    have : decide (some c = some 48) = false := decide_eq_false fun z => h3 (Option.some.inj z)
    rw [this]
    simp
theorem intM_numS {n : Int} (h0 : 0 ≤ n) (h1 : n ≤ 9999) : intM (numS n) = n := by
  obtain ⟨k, rfl⟩ : ∃ k : Nat, n = (k : Int) := ⟨n.toNat, by omega⟩
  have hl : (numL k).length ≤ 4300 := by
    have := TL.numL_len (n := k) (k := 4) (by decide) (by omega)
    omega
  unfold intM numS
  rw [TL.int_num hl]
  rfl
theorem numB_some {z : Str} (h : numB z = true) : PySem.intText? z = some (intM z) ∧ z.length ≤ 4 := by
  unfold numB at h
  simp only [Bool.and_eq_true, Bool.not_eq_true', Bool.or_eq_false_iff, decide_eq_false_iff_not] at h
  obtain ⟨⟨h1, h2⟩, h3, _⟩ := h
  have hl := TL.len_tl z
  have e := SX.int_S (a := tl z) (List.all_eq_true.mpr fun c hc => by have := fig_iff.mp (List.all_eq_true.mp h3 c hc); simp; omega) (fun e => by rw [e] at hl; simp at hl; omega) (by omega)
  have ez : SX.S (tl z) = z := TL.mk_tl z
  rw [ez] at e
  unfold intM
  rw [e]
  exact ⟨rfl, by omega⟩
/-! ### plans as texts -/
def cutS2 (c : Int × Int) : Str := numS c.1 ++ "-" ++ numS c.2
def planS (p : Plan) : Str := numS p.1 ++ ":" ++ Txt.join "," (p.2.l.map cutS2)
def smN (n : Int) : Prop := 0 ≤ n ∧ n ≤ 9999
def smP (p : Plan) : Prop := smN p.1 ∧ (∀ c ∈ p.2.l, smN c.1 ∧ smN c.2) ∧ p.2.l.length ≤ 40
def cutM2 (z : Str) : Int × Int := (intM (Txt.partition z "-").1, intM (Txt.partition z "-").2.2)
def cutOk (z : Str) : Bool := numB (Txt.partition z "-").1 && numB (Txt.partition z "-").2.2
def planM2 (z : Str) : Plan := (intM (Txt.partition z ":").1, ⟨if (Txt.partition z ":").2.2 = "" then [] else (Txt.split (Txt.partition z ":").2.2 ",").map cutM2⟩)
def planOk (z : Str) : Bool := !decide ((Txt.partition z ":").2.1 = "") && (numB (Txt.partition z ":").1 && (decide ((Txt.partition z ":").2.2 = "") || (Txt.split (Txt.partition z ":").2.2 ",").all cutOk))
theorem joinL_mem {s : Nat} {S : List Nat} : ∀ {ps : List (List Nat)}, s ∈ TL.joinL S ps → s ∈ S ∨ ∃ p ∈ ps, s ∈ p
  | [], h => by cases h
  | [p], h => .inr ⟨p, List.mem_cons_self, h⟩
  | p :: q :: r, h => by
    have h : s ∈ p ++ (S ++ TL.joinL S (q :: r)) := by
      have e : TL.joinL S (p :: q :: r) = p ++ (S ++ TL.joinL S (q :: r)) := by first | rfl | (simp [TL.joinL])
      rw [← e]; exact h
    rcases List.mem_append.mp h with z | z
    · exact .inr ⟨p, List.mem_cons_self, z⟩
    · rcases List.mem_append.mp z with z | z
      · exact .inl z
      · rcases joinL_mem z with y | ⟨x, hx, hs⟩
        · exact .inl y
        · exact .inr ⟨x, List.mem_cons_of_mem _ hx, hs⟩
theorem tl_dash : tl ("-" : Str) = [45] := by decide +kernel
theorem tl_colon : tl (":" : Str) = [58] := by decide +kernel
theorem tl_comma : tl ("," : Str) = [44] := by decide +kernel
theorem tl_blank : tl (" " : Str) = [32] := by decide +kernel
theorem num_no {n : Int} (h : 0 ≤ n) {s : Nat} (hs : s < 48 ∨ 57 < s) : s ∉ tl (numS n) := by rw [tl_numS h]; exact TL.numL_free hs
theorem cut_tl (c : Int × Int) : tl (cutS2 c) = tl (numS c.1) ++ [45] ++ tl (numS c.2) := by unfold cutS2; rw [TL.tl_append, TL.tl_append, tl_dash]
theorem cut_no {c : Int × Int} (h1 : 0 ≤ c.1) (h2 : 0 ≤ c.2) {s : Nat} (hs : s < 48 ∨ 57 < s) (h45 : s ≠ 45) : s ∉ tl (cutS2 c) := by
  rw [cut_tl, List.mem_append, List.mem_append, List.mem_singleton]
  rintro ((z | z) | z)
  · exact num_no h1 hs z
  · exact h45 z
  · exact num_no h2 hs z
theorem cut_back {c : Int × Int} (h1 : smN c.1) (h2 : smN c.2) : cutM2 (cutS2 c) = c ∧ cutOk (cutS2 c) = true := by
  have e : Txt.partition (cutS2 c) "-" = (numS c.1, ("-" : Str), numS c.2) := TL.partition_app tl_dash (num_no h1.1 (by decide))
  unfold cutM2 cutOk
  rw [e]
  dsimp only
  rw [intM_numS h1.1 h1.2, intM_numS h2.1 h2.2, numB_numS h1.1 h1.2, numB_numS h2.1 h2.2]
  exact ⟨rfl, rfl⟩
theorem cut2_len {c : Int × Int} (h1 : smN c.1) (h2 : smN c.2) : (cutS2 c).length ≤ 9 := by
  have a := numS_len h1.1 h1.2
  have b := numS_len h2.1 h2.2
  unfold cutS2
  rw [app_len, app_len, show (("-" : Str)).length = 1 by decide +kernel]
  omega
theorem lenSum_le {m : Nat} : ∀ {ys : List Str}, (∀ y ∈ ys, y.length ≤ m) → lenSum ys ≤ ys.length * m
  | [], _ => Nat.zero_le _
  | y :: ys, h => by
    have a := h y List.mem_cons_self
    have b := lenSum_le fun x hx => h x (List.mem_cons_of_mem y hx)
    show y.length + lenSum ys ≤ (ys.length + 1) * m
    rw [Nat.add_mul]; omega
theorem tl_txj (y : Str) (ps : List Str) : tl (Txt.join y ps) = TL.joinL (tl y) (ps.map tl) := by rw [TL.join_eq, TL.tl_join]
theorem joinL_len (S : List Nat) : ∀ ps : List (List Nat), (TL.joinL S ps).length ≤ (ps.map (·.length)).sum + ps.length * S.length
  | [] => Nat.zero_le _
  | [p] => by show p.length ≤ _; simp
  | p :: q :: r => by
    have e : TL.joinL S (p :: q :: r) = p ++ (S ++ TL.joinL S (q :: r)) := by first | rfl | (simp [TL.joinL])
    have := joinL_len S (q :: r)
    rw [e, List.length_append, List.length_append, List.map_cons, List.sum_cons]
    rw [List.length_cons (a := p), Nat.add_mul]
    omega
theorem join_len (y : Str) (ps : List Str) : (Txt.join y ps).length ≤ lenSum ps + ps.length * y.length := by
  rw [TL.len_tl, tl_txj]
  have := joinL_len (tl y) (ps.map tl)
  rw [List.length_map, List.map_map] at this
  have e : ps.map ((fun x : List Nat => x.length) ∘ tl) = ps.map (·.length) := List.map_congr_left fun x _ => (TL.len_tl x).symm
  rw [e, ← TL.len_tl] at this
  exact this
theorem plan_slen {p : Plan} (h : smP p) : (planS p).length ≤ 500 := by
  obtain ⟨h1, h2, h3⟩ := h
  have a := numS_len h1.1 h1.2
  have b := join_len "," (p.2.l.map cutS2)
  have c := lenSum_le (m := 9) (ys := p.2.l.map cutS2) (fun y hy => by
    obtain ⟨c, hc, rfl⟩ := List.mem_map.mp hy
    exact cut2_len (h2 c hc).1 (h2 c hc).2)
  rw [List.length_map] at b c
  rw [show (("," : Str)).length = 1 by decide +kernel] at b
  unfold planS
  rw [app_len, app_len, show ((":" : Str)).length = 1 by decide +kernel]
  omega
theorem empty_tl : tl ("" : Str) = [] := by decide +kernel
theorem plan_back {p : Plan} (h : smP p) : planM2 (planS p) = p ∧ planOk (planS p) = true := by
  obtain ⟨h1, h2, h3⟩ := h
  have e : Txt.partition (planS p) ":" = (numS p.1, (":" : Str), Txt.join "," (p.2.l.map cutS2)) := TL.partition_app tl_colon (num_no h1.1 (by decide))
  unfold planM2 planOk
  rw [e]
  dsimp only
  rw [intM_numS h1.1 h1.2, numB_numS h1.1 h1.2, show decide ((":" : Str) = "") = false by decide +kernel]
  obtain ⟨n, ⟨l⟩⟩ := p
  dsimp only at h1 h2 h3 ⊢
  cases l with
  | nil =>
    have e0 : Txt.join "," (([] : List (Int × Int)).map cutS2) = "" := TL.ext_tl (by rw [tl_txj, empty_tl]; rfl)
    rw [e0, if_pos rfl]
    exact ⟨rfl, rfl⟩
  | cons c r =>
    have hne : Txt.join "," ((c :: r).map cutS2) ≠ "" := fun z => by
      have z2 := congrArg tl z
      rw [tl_txj, empty_tl] at z2
      have lc := (numS_len (h2 c List.mem_cons_self).1.1 (h2 c List.mem_cons_self).1.2).1
      have lt : 1 ≤ (TL.joinL (tl ",") (((c :: r).map cutS2).map tl)).length := by
        have key : ∀ (S : List Nat) (p : List Nat) (ps : List (List Nat)), p.length ≤ (TL.joinL S (p :: ps)).length := fun S p ps => by
          cases ps with
          | nil => exact Nat.le_refl _
          | cons q r =>
            have e : TL.joinL S (p :: q :: r) = p ++ (S ++ TL.joinL S (q :: r)) := by first | rfl | (simp [TL.joinL])
            rw [e, List.length_append]; omega
        refine Nat.le_trans ?_ (key _ _ _)
        show 1 ≤ (tl (cutS2 c)).length
        rw [cut_tl, List.length_append, List.length_append, List.length_singleton]
        omega
      rw [z2] at lt
      exact absurd lt (by decide)
    have sp : Txt.split (Txt.join "," ((c :: r).map cutS2)) "," = (c :: r).map cutS2 := by
      refine TL.split_join tl_comma (by decide +kernel) (by simp) (fun q hq => ?_)
      obtain ⟨d, hd, rfl⟩ := List.mem_map.mp hq
      exact cut_no (h2 d hd).1.1 (h2 d hd).2.1 (by decide) (by decide)
    rw [if_neg hne, sp, List.map_map, decide_eq_false hne]
    refine ⟨?_, ?_⟩
    · have em : (c :: r).map (cutM2 ∘ cutS2) = c :: r := by
        have : (c :: r).map (cutM2 ∘ cutS2) = (c :: r).map id := List.map_congr_left fun d hd => (cut_back (h2 d hd).1 (h2 d hd).2).1
        rw [this, List.map_id]
      rw [em]
    · have ea : ((c :: r).map cutS2).all cutOk = true := List.all_eq_true.mpr fun q hq => by
        obtain ⟨d, hd, rfl⟩ := List.mem_map.mp hq
        exact (cut_back (h2 d hd).1 (h2 d hd).2).2
      rw [ea]; rfl
theorem plan_no {p : Plan} (h : smP p) : 32 ∉ tl (planS p) := by
  obtain ⟨h1, h2, h3⟩ := h
  unfold planS
  rw [TL.tl_append, TL.tl_append, tl_colon, tl_txj, tl_comma, List.mem_append, List.mem_append, List.mem_singleton]
  rintro ((z | z) | z)
  · exact num_no h1.1 (by decide) z
  · cases z
  · rcases joinL_mem z with y | ⟨q, hq, hs⟩
    · exact absurd (List.mem_singleton.mp y) (by decide)
    · obtain ⟨a, ha, rfl⟩ := List.mem_map.mp hq
      obtain ⟨c, hc, rfl⟩ := List.mem_map.mp ha
      exact cut_no (h2 c hc).1.1 (h2 c hc).2.1 (by decide) (by decide) hs
end Pf

namespace Pf
open PySem PySem.Spec PyProof.Rows L2
open TL (tl numL)
/-! ### what stands in a deed: a text, a number, a plan -/
inductive Th where
  | s (x : Str)
  | n (i : Int)
  | p (q : Plan)
instance : Inhabited Th := ⟨.n 0⟩
instance : Rep Th := ⟨fun G v t => match t with | .s x => rep G v x | .n i => rep G v i | .p q => rep G v q, fun {G G' v t} e h => by
  cases t with
  | s x => exact h
  | n i => exact h
  | p q => exact Rep.mono (α := Plan) e h⟩
instance : Dat Th where
  dat := fun t => match t with | .s x => dat x | .n i => dat i | .p q => dat q
  rd := fun {G v t} h => by
    cases t with
    | s x => exact Dat.rd (α := Str) h
    | n i => exact Dat.rd (α := Int) h
    | p q => exact Dat.rd (α := Plan) h
  inj := fun {x y} h => by
    cases x with
    | s a =>
      cases y with
      | s b => exact congrArg Th.s (Dat.inj (α := Str) h)
      | n b => have h : PyData.str a = PyData.int b := h; cases h
      | p b => have h : PyData.str a = PyData.tuple [dat b.1, dat b.2] := h; cases h
    | n a =>
      cases y with
      | s b => have h : PyData.int a = PyData.str b := h; cases h
      | n b => exact congrArg Th.n (Dat.inj (α := Int) h)
      | p b => have h : PyData.int a = PyData.tuple [dat b.1, dat b.2] := h; cases h
    | p a =>
      cases y with
      | s b => have h : PyData.tuple [dat a.1, dat a.2] = PyData.str b := h; cases h
      | n b => have h : PyData.tuple [dat a.1, dat a.2] = PyData.int b := h; cases h
      | p b => exact congrArg Th.p (Dat.inj (α := Plan) h)
def thS : Th → Str
  | .s x => x
  | .n i => numS i
  | .p q => planS q
def deedS (d : List Th) : Str := Txt.join " " (d.map thS)
abbrev waysL : List Str := ["even", "odd"]
abbrev coloursL : List Str := ["red", "blue", "gold"]
def kindsL : List (Str × List Str) := [("fold", ["name", "plan"]), ("drop", ["name"]), ("pinch", ["name", "way"]), ("unpinch", ["name", "way"]), ("over", ["name"]), ("about", ["name"]), ("paint", ["name", "slot", "colour"]), ("mark", ["name", "slot", "letter"]), ("wash", ["name", "slot"]), ("unfold", ["name"]), ("refold", ["name", "plan"])]
def kindsOf (w : Str) : Option (List Str) := (kindsL.find? fun e => decide (e.1 = w)).map (·.2)
def thgM (k w : Str) : Th := if k = "plan" then .p (planM2 w) else if k = "slot" then .n (intM w) else .s w
def thOk (k w : Str) : Bool := if k = "name" then nameB w else if k = "plan" then planOk w else if k = "way" then decide (w ∈ waysL) else if k = "slot" then numB w else if k = "colour" then decide (w ∈ coloursL) else if k = "letter" then letB w else false
def deedM (z : Str) : Option (List Th) := match Txt.split z " " with
  | [] => none
  | w :: ws => match kindsOf w with
    | none => none
    | some ks => if ks.length = ws.length ∧ ((ks.zip ws).all fun kw => thOk kw.1 kw.2) = true then some (.s w :: (ks.zip ws).map fun kw => thgM kw.1 kw.2) else none
inductive Fits : Str → Th → Prop where
  | name {x : Str} (h : nameB x = true) : Fits "name" (.s x)
  | way {x : Str} (h : x ∈ waysL) : Fits "way" (.s x)
  | colour {x : Str} (h : x ∈ coloursL) : Fits "colour" (.s x)
  | letter {x : Str} (h : letB x = true) : Fits "letter" (.s x)
  | slot {i : Int} (h : smN i) : Fits "slot" (.n i)
  | plan {q : Plan} (h : smP q) : Fits "plan" (.p q)
def GoodD (d : List Th) : Prop := ∃ w ks ts, d = .s w :: ts ∧ kindsOf w = some ks ∧ Paired Fits ks ts
theorem name_facts {x : Str} (h : nameB x = true) : x.length ≤ 8 ∧ ∀ c ∈ tl x, lowB c = true := by
  unfold nameB at h
  simp only [Bool.and_eq_true, Bool.not_eq_true', Bool.or_eq_false_iff, decide_eq_false_iff_not] at h
  exact ⟨by omega, List.all_eq_true.mp h.2⟩
theorem let_facts {x : Str} (h : letB x = true) : x.length = 1 ∧ ∀ c ∈ tl x, lowB c = true := by
  unfold letB at h
  simp only [Bool.and_eq_true, decide_eq_true_eq] at h
  exact ⟨h.1, List.all_eq_true.mp h.2⟩
theorem low_no {x : Str} (h : ∀ c ∈ tl x, lowB c = true) : 32 ∉ tl x := fun z => by
  have := low_iff.mp (h 32 z)
  omega
theorem fits_back {k : Str} {t : Th} (h : Fits k t) : thgM k (thS t) = t ∧ thOk k (thS t) = true ∧ 32 ∉ tl (thS t) ∧ (thS t).length ≤ 500 := by
  cases h with
  | @name x h =>
    obtain ⟨l, c⟩ := name_facts h
    refine ⟨by unfold thgM; rw [if_neg (by decide +kernel), if_neg (by decide +kernel)]; rfl, by unfold thOk; rw [if_pos rfl]; exact h, low_no c, by show x.length ≤ 500; omega⟩
  | @way x h =>
    refine ⟨by unfold thgM; rw [if_neg (by decide +kernel), if_neg (by decide +kernel)]; rfl, by unfold thOk; rw [if_neg (by decide +kernel), if_neg (by decide +kernel), if_pos rfl]; exact decide_eq_true h, ?_, ?_⟩
    · have : ∀ y ∈ waysL, 32 ∉ tl y := by decide +kernel
      exact this x h
    · have : ∀ y ∈ waysL, y.length ≤ 500 := by decide +kernel
      exact this x h
  | @colour x h =>
    refine ⟨by unfold thgM; rw [if_neg (by decide +kernel), if_neg (by decide +kernel)]; rfl, by unfold thOk; rw [if_neg (by decide +kernel), if_neg (by decide +kernel), if_neg (by decide +kernel), if_neg (by decide +kernel), if_pos rfl]; exact decide_eq_true h, ?_, ?_⟩
    · have : ∀ y ∈ coloursL, 32 ∉ tl y := by decide +kernel
      exact this x h
    · have : ∀ y ∈ coloursL, y.length ≤ 500 := by decide +kernel
      exact this x h
  | @letter x h =>
    obtain ⟨l, c⟩ := let_facts h
    refine ⟨by unfold thgM; rw [if_neg (by decide +kernel), if_neg (by decide +kernel)]; rfl, by unfold thOk; rw [if_neg (by decide +kernel), if_neg (by decide +kernel), if_neg (by decide +kernel), if_neg (by decide +kernel), if_neg (by decide +kernel), if_pos rfl]; exact h, low_no c, by show x.length ≤ 500; omega⟩
  | @slot i h =>
    have l := numS_len h.1 h.2
    refine ⟨by unfold thgM; rw [if_neg (by decide +kernel), if_pos rfl]; show Th.n (intM (numS i)) = _; rw [intM_numS h.1 h.2], by unfold thOk; rw [if_neg (by decide +kernel), if_neg (by decide +kernel), if_neg (by decide +kernel), if_pos rfl]; exact numB_numS h.1 h.2, num_no h.1 (by decide), by show (numS i).length ≤ 500; omega⟩
  | @plan q h =>
    refine ⟨by unfold thgM; rw [if_pos rfl]; show Th.p (planM2 (planS q)) = _; rw [(plan_back h).1], by unfold thOk; rw [if_neg (by decide +kernel), if_pos rfl]; exact (plan_back h).2, plan_no h, plan_slen h⟩
theorem kinds_mem {w : Str} {ks : List Str} (h : kindsOf w = some ks) : (w, ks) ∈ kindsL := by
  unfold kindsOf at h
  obtain ⟨e, he, rfl⟩ := Option.map_eq_some_iff.mp h
  have h1 := List.mem_of_find?_eq_some he
  have h0 : decide (e.1 = w) = true := by have z := List.find?_some he; exact z
  have h2 := of_decide_eq_true h0
  rw [← h2]; exact h1
theorem kinds_facts {w : Str} {ks : List Str} (h : kindsOf w = some ks) : 32 ∉ tl w ∧ w.length ≤ 8 ∧ ks.length ≤ 3 ∧ 1 ≤ ks.length := by
  have : ∀ e ∈ kindsL, 32 ∉ tl e.1 ∧ e.1.length ≤ 8 ∧ e.2.length ≤ 3 ∧ 1 ≤ e.2.length := by decide +kernel
  exact this _ (kinds_mem h)
theorem zip_back : ∀ {ks : List Str} {ts : List Th}, Paired Fits ks ts → ((ks.zip (ts.map thS)).all fun kw => thOk kw.1 kw.2) = true ∧ (ks.zip (ts.map thS)).map (fun kw => thgM kw.1 kw.2) = ts
  | _, _, .nil => ⟨rfl, rfl⟩
  | k :: ks, t :: ts, .cons h r => by
    obtain ⟨a, b⟩ := zip_back r
    obtain ⟨c, d, _⟩ := fits_back h
    rw [List.map_cons, List.zip_cons_cons, List.all_cons, List.map_cons, a, b]
    exact ⟨by rw [d]; rfl, by rw [c]⟩
theorem fits_all : ∀ {ks : List Str} {ts : List Th}, Paired Fits ks ts → ∀ t ∈ ts, 32 ∉ tl (thS t) ∧ (thS t).length ≤ 500
  | _, _, .nil, _, h => by cases h
  | _, t :: ts, .cons h r, x, hx => by
    rcases List.mem_cons.mp hx with rfl | hx
    · exact (fits_back h).2.2
    · exact fits_all r x hx
theorem good_split {d : List Th} (g : GoodD d) : Txt.split (deedS d) " " = d.map thS ∧ (deedS d).length ≤ 3000 ∧ d.length ≤ 4 ∧ (∀ t ∈ d, (thS t).length ≤ 500) := by
  obtain ⟨w, ks, ts, rfl, hk, hf⟩ := g
  obtain ⟨k1, k2, k3, k4⟩ := kinds_facts hk
  have lt := Paired.length hf
  have all : ∀ t ∈ (Th.s w :: ts), 32 ∉ tl (thS t) ∧ (thS t).length ≤ 500 := fun t ht => by
    rcases List.mem_cons.mp ht with rfl | ht
    · exact ⟨k1, by show w.length ≤ 500; omega⟩
    · exact fits_all hf t ht
  refine ⟨TL.split_join tl_blank (by decide +kernel) (by simp) (fun q hq => ?_), ?_, by rw [List.length_cons]; omega, fun t ht => (all t ht).2⟩
  · obtain ⟨t, ht, rfl⟩ := List.mem_map.mp hq
    exact (all t ht).1
  · have a := join_len " " ((Th.s w :: ts).map thS)
    have b := lenSum_le (m := 500) (ys := (Th.s w :: ts).map thS) (fun y hy => by
      obtain ⟨t, ht, rfl⟩ := List.mem_map.mp hy
      exact (all t ht).2)
    rw [List.length_map, List.length_cons, show ((" " : Str)).length = 1 by decide +kernel] at a
    rw [List.length_map, List.length_cons] at b
    show (Txt.join " " _).length ≤ _
    omega
theorem deed_back {d : List Th} (g : GoodD d) : deedM (deedS d) = some d := by
  have sp := (good_split g).1
  obtain ⟨w, ks, ts, rfl, hk, hf⟩ := g
  obtain ⟨a, b⟩ := zip_back hf
  unfold deedM
  rw [sp]
  show (match kindsOf w with | none => none | some ks => _) = _
  rw [hk]
  show (if ks.length = (ts.map thS).length ∧ _ then _ else _) = _
  rw [if_pos ⟨by rw [List.length_map]; exact Paired.length hf, a⟩, b]
  rfl
end Pf

namespace Pf
open PySem PySem.Spec PyProof.Rows L2
/-! ### the strip's order as a ring -/
theorem ord_fuel {p : Plan} (h : isPlanM p = true) : ∀ (k m : Nat) {s e : Int} (b : Bool), Jn p s e → (e - s) % p.1 ≤ k → (e - s) % p.1 ≤ m → ordN p k s e b = ordN p m s e b
  | 0, _, s, e, b, j, hk, _ => by
    exfalso
    obtain ⟨a1, a2, a3, a4, a5⟩ := j.ne h
    rw [arc_w (by omega) (by omega)] at hk
    split at hk <;> omega
  | _ + 1, 0, s, e, b, j, _, hm => by
    exfalso
    obtain ⟨a1, a2, a3, a4, a5⟩ := j.ne h
    rw [arc_w (by omega) (by omega)] at hm
    split at hm <;> omega
  | k + 1, m + 1, s, e, b, j, hk, hm => by
    unfold ordN
    cases z : look (thirdsM p).l (s, e) with
    | none => rfl
    | some c =>
      have t := (look_thirds h).mp z
      obtain ⟨a1, a2, a3, a4, a5⟩ := j.ne h
      have w := cy_w (n := p.1) (s := s) (c := c) (e := e) (by omega) (by have := t.sv.ne h; omega) (by omega) t.cy
      show (if b = true then _ else _) = (if b = true then _ else _)
      rw [ord_fuel h k m (!b) t.sv (by omega) (by omega), ord_fuel h k m (!b) t.ve (by omega) (by omega)]
def ordF (p : Plan) (s e : Int) (b : Bool) : List Int := ordN p 40 s e b
theorem w40 {p : Plan} (h : isPlanM p = true) {s e : Int} (j : Jn p s e) : (e - s) % p.1 ≤ 40 := by
  obtain ⟨a1, a2, a3, a4, a5⟩ := j.ne h
  have h40 := (plan_facts h).2.1
  rw [arc_w (by omega) (by omega)]
  split <;> omega
theorem ordF_step {p : Plan} (h : isPlanM p = true) {s c e : Int} (t : Tr p s c e) (b : Bool) : ordF p s e b = if b = true then ordF p s c (!b) ++ ordF p c e (!b) else ordF p c e (!b) ++ ordF p s c (!b) := by
  have z : look (thirdsM p).l (s, e) = some c := (look_thirds h).mpr t
  obtain ⟨a1, a2, a3, a4, a5⟩ := t.se.ne h
  have w := cy_w (n := p.1) (s := s) (c := c) (e := e) (by omega) (by have := t.sv.ne h; omega) (by omega) t.cy
  have w40 := w40 h t.se
  have e1 : ordN p 40 s e b = (if b = true then ordN p 39 s c (!b) ++ ordN p 39 c e (!b) else ordN p 39 c e (!b) ++ ordN p 39 s c (!b)) := by
    show (match look (thirdsM p).l (s, e) with | none => [s] | some c => if b = true then ordN p 39 s c (!b) ++ ordN p 39 c e (!b) else ordN p 39 c e (!b) ++ ordN p 39 s c (!b)) = _
    rw [z]
  unfold ordF
  rw [e1, ord_fuel h 39 40 (!b) t.sv (by omega) (by omega), ord_fuel h 39 40 (!b) t.ve (by omega) (by omega)]
/-- one list turned -/
def Rot (a b : List Int) : Prop := ∃ x y, a = x ++ y ∧ b = y ++ x
theorem Rot.refl (a : List Int) : Rot a a := ⟨[], a, rfl, by simp⟩
theorem Rot.symm {a b : List Int} (h : Rot a b) : Rot b a := by obtain ⟨x, y, rfl, rfl⟩ := h; exact ⟨y, x, rfl, rfl⟩
theorem Rot.step {a x y : List Int} (h : Rot a (x ++ y)) : Rot a (y ++ x) := by
  obtain ⟨u, v, rfl, e⟩ := h
  rcases List.append_eq_append_iff.mp e with ⟨z, rfl, rfl⟩ | ⟨z, rfl, rfl⟩
  · exact ⟨u ++ x, z, by simp, by simp⟩
  · exact ⟨z, y ++ v, by simp, by simp⟩
def putM (p : Plan) (t u : Int) : List Int := ordF p t u false ++ ordF p u t true
theorem put01 {p : Plan} (h : isPlanM p = true) : putM p 0 1 = ordM p := by
  have h3 := (plan_facts h).1
  have z : look (thirdsM p).l (0, 1) = none := (look_none h (jn_10 h).sym).mpr (by rw [wrap (by omega) (by omega)]; split <;> omega)
  have e : ordF p 0 1 false = [0] := by
    show (match look (thirdsM p).l (0, 1) with | none => [0] | some c => if false = true then ordN p 39 0 c (!false) ++ ordN p 39 c 1 (!false) else ordN p 39 c 1 (!false) ++ ordN p 39 0 c (!false)) = _
    rw [z]
  unfold putM ordM
  rw [e]
  rfl
/-- at upright places the even stack is put down crossed, and then the odd one straight -/
theorem up_rot {p : Plan} (h : isPlanM p = true) {t u : Int} (j : Jn p t u) (hu : upM p t u = true) : Rot (ordM p) (putM p t u) := by
  have key : ∀ (k : Nat) {s c e : Int}, Tr p s c e → dep p s e c ≤ k → (upM p s e = true → Rot (ordM p) (putM p s e)) ∧ (upM p e s = true → Rot (ordM p) (putM p e s)) := by
    refine all_lines h (S := fun s e => (upM p s e = true → Rot (ordM p) (putM p s e)) ∧ (upM p e s = true → Rot (ordM p) (putM p e s))) ?_ ?_ ?_
    · refine ⟨fun z => ?_, fun _ => by rw [put01 h]; exact Rot.refl _⟩
      rw [up_sw h (jn_10 h).sym, up_01 h] at z
      cases z
    · intro s c e x S
      have xr := x.rot
      have e1 : upM p s e = !hnd p s e c := up_b h x
      have e2 : upM p e s = hnd p s e c := up_a h x
      have e3 : upM p c s = !hnd p s e c := by rw [up_b h xr, hnd_rot]
      have e4 : upM p s c = hnd p s e c := by rw [up_a h xr, hnd_rot]
      cases hh : hnd p s e c with
      | true =>
        rw [hh] at e2 e3
        refine ⟨(fun z => by rw [e3] at z; cases z), fun _ => ?_⟩
        have r := S.2 e2
        unfold putM at r ⊢
        rw [ordF_step h x, if_pos rfl] at r
        rw [ordF_step h xr, if_pos rfl]
        have r2 := r.step
        rw [List.append_assoc] at r2
        exact r2
      | false =>
        rw [hh] at e1 e4
        refine ⟨fun _ => ?_, (fun z => by rw [e4] at z; cases z)⟩
        have r := S.1 e1
        unfold putM at r ⊢
        rw [ordF_step h x, if_neg (by decide)] at r
        rw [ordF_step h xr, if_neg (by decide)]
        have r2 := r.step
        rw [← List.append_assoc] at r2
        exact r2
    · intro s c e d x y S
      exact ⟨S.2, S.1⟩
  rcases some_part h j with ⟨c, x⟩ | ⟨c, x⟩
  · exact (key _ x (Nat.le_refl _)).2 hu
  · exact (key _ x (Nat.le_refl _)).1 hu
theorem ordF_mem {p : Plan} (h : isPlanM p = true) {s e : Int} (j : Jn p s e) (b : Bool) : (ordF p s e b).Perm (arc p.1 s e) := ord_perm h 40 s e b j (w40 h j)
/-- the stacks of a place are two stretches of the order, as a ring -/
theorem stretch {p : Plan} (h : isPlanM p = true) {t u : Int} (j : Jn p t u) : ∃ A B : List Int, A.Perm (arc p.1 t u) ∧ B.Perm (arc p.1 u t) ∧ Rot (ordM p) (A ++ B) := by
  cases hu : upM p t u with
  | true => exact ⟨_, _, ordF_mem h j false, ordF_mem h j.sym true, up_rot h j hu⟩
  | false =>
    have hu2 : upM p u t = true := by rw [up_sw h j, hu]; rfl
    exact ⟨_, _, ordF_mem h j true, ordF_mem h j.sym false, (up_rot h j.sym hu2).step⟩
/-- turns of truth, as one goes round a ring -/
def turnsM (m : List Bool) : Nat := ((rng 0 m.length).filter fun k => !decide (ix m k = ix m ((k - 1) % m.length))).length
theorem two_of {n p q : Int} (hp : 0 ≤ p ∧ p < n) (hq : 0 ≤ q ∧ q < n) (ne : p ≠ q) {f : Int → Bool} (hf : ∀ k, 0 ≤ k → k < n → (f k = true ↔ k = p ∨ k = q)) : ((rng 0 n).filter f).length = 2 := by
  have nd : ((rng 0 n).filter f).Nodup := (rng_nodup 0 n).filter _
  have pm : ((rng 0 n).filter f).Perm [p, q] := (List.perm_ext_iff_of_nodup nd (by simp [ne])).mpr fun x => by
    rw [List.mem_filter, rng_mem]
    simp only [List.mem_cons, List.not_mem_nil, or_false]
    constructor
    · rintro ⟨⟨a, b⟩, c⟩; exact (hf x a b).mp c
    · rintro (rfl | rfl)
      · exact ⟨hp, (hf _ hp.1 hp.2).mpr (.inl rfl)⟩
      · exact ⟨hq, (hf _ hq.1 hq.2).mpr (.inr rfl)⟩
  exact pm.length_eq
theorem ix_app_l {x y : List Bool} {k : Int} (h0 : 0 ≤ k) (h1 : k < x.length) : ix (x ++ y) k = ix x k := by
  obtain ⟨m, rfl⟩ : ∃ m : Nat, k = (m : Int) := ⟨k.toNat, by omega⟩
  have hm : m < x.length := by omega
  rw [ix_nat (List.getElem?_append_left hm |>.trans (List.getElem?_eq_getElem hm)), ix_nat (List.getElem?_eq_getElem hm)]
theorem ix_app_r {x y : List Bool} {k : Int} (h0 : x.length ≤ k) (h1 : k < x.length + y.length) : ix (x ++ y) k = ix y (k - x.length) := by
  obtain ⟨m, rfl⟩ : ∃ m : Nat, k = ((x.length + m : Nat) : Int) := ⟨(k - x.length).toNat, by omega⟩
  have hm : m < y.length := by omega
  have e : ((x.length + m : Nat) : Int) - x.length = (m : Int) := by omega
  rw [e, ix_nat (v := y[m]) (by rw [List.getElem?_append_right (by omega), Nat.add_sub_cancel_left]; exact List.getElem?_eq_getElem hm), ix_nat (List.getElem?_eq_getElem hm)]
theorem ix_const {x : List Bool} {b : Bool} (hx : ∀ y ∈ x, y = b) {k : Int} (h0 : 0 ≤ k) (h1 : k < x.length) : ix x k = b := by
  obtain ⟨m, rfl⟩ : ∃ m : Nat, k = (m : Int) := ⟨k.toNat, by omega⟩
  have hm : m < x.length := by omega
  rw [ix_nat (List.getElem?_eq_getElem hm)]
  exact hx _ (List.getElem_mem hm)
/-- x all b, y all not b, z all b -/
theorem turns3 {x y z : List Bool} {b : Bool} (hx : ∀ v ∈ x, v = b) (hy : ∀ v ∈ y, v = !b) (hz : ∀ v ∈ z, v = b) (ly : 0 < y.length) (lxz : 0 < x.length + z.length) : turnsM (x ++ y ++ z) = 2 := by
  unfold turnsM
  have hl : ((x ++ y ++ z).length : Int) = x.length + y.length + z.length := by rw [List.length_append, List.length_append]; omega
  rw [hl]
  generalize hn : ((x.length : Int) + y.length + z.length) = n
  have val : ∀ k, 0 ≤ k → k < n → ix (x ++ y ++ z) k = if (x.length : Int) ≤ k ∧ k < x.length + y.length then !b else b := fun k k0 k1 => by
    by_cases c1 : k < x.length
    · rw [if_neg (by omega), List.append_assoc, ix_app_l k0 c1, ix_const hx k0 c1]
    · by_cases c2 : k < x.length + y.length
      · rw [if_pos ⟨by omega, c2⟩, ix_app_l (x := x ++ y) k0 (by rw [List.length_append]; omega), ix_app_r (by omega) c2, ix_const hy (by omega) (by omega)]
      · rw [if_neg (by omega), ix_app_r (x := x ++ y) (by rw [List.length_append]; omega) (by rw [List.length_append]; omega), ix_const hz (by rw [List.length_append]; omega) (by rw [List.length_append]; omega)]
  have nb : ∀ (c : Bool), (!decide (c = !c)) = true := by decide
  have nb2 : ∀ (c : Bool), (!decide ((!c) = c)) = true := by decide
  have nb3 : ∀ (c : Bool), (!decide (c = c)) = false := by decide
  refine two_of (p := x.length) (q := (x.length + y.length) % n) (by omega) ⟨Int.emod_nonneg _ (by omega), Int.emod_lt_of_pos _ (by omega)⟩ ?_ ?_
  · rw [wrap (by omega) (by omega)]; split <;> omega
  · intro k k0 k1
    have pm : (k - 1) % n = if k - 1 < 0 then k - 1 + n else k - 1 := wrapN (by omega) (by omega)
    have wm : ((x.length : Int) + y.length) % n = if (x.length : Int) + y.length < n then (x.length : Int) + y.length else x.length + y.length - n := wrap (by omega) (by omega)
    have p0 : 0 ≤ (k - 1) % n := Int.emod_nonneg _ (by omega)
    have p1 : (k - 1) % n < n := Int.emod_lt_of_pos _ (by omega)
    rw [val k k0 k1, val _ p0 p1, wm, pm]
    have core : (!decide ((if (x.length : Int) ≤ k ∧ k < x.length + y.length then !b else b) = (if (x.length : Int) ≤ (if k - 1 < 0 then k - 1 + n else k - 1) ∧ (if k - 1 < 0 then k - 1 + n else k - 1) < x.length + y.length then !b else b))) = true ↔ ¬ (((x.length : Int) ≤ k ∧ k < x.length + y.length) ↔ ((x.length : Int) ≤ (if k - 1 < 0 then k - 1 + n else k - 1) ∧ (if k - 1 < 0 then k - 1 + n else k - 1) < x.length + y.length)) := by
      by_cases c1 : ((x.length : Int) ≤ k ∧ k < x.length + y.length) <;> by_cases c2 : ((x.length : Int) ≤ (if k - 1 < 0 then k - 1 + n else k - 1) ∧ (if k - 1 < 0 then k - 1 + n else k - 1) < x.length + y.length)
      · rw [if_pos c1, if_pos c2, nb3]; simp [c1, c2]
      · rw [if_pos c1, if_neg c2, nb2]; exact ⟨fun _ q => c2 (q.mp c1), fun _ => rfl⟩
      · rw [if_neg c1, if_pos c2, nb]; exact ⟨fun _ q => c1 (q.mpr c2), fun _ => rfl⟩
      · rw [if_neg c1, if_neg c2, nb3]
        constructor
        · intro q; cases q
        · intro q; exact absurd ⟨fun z => absurd z c1, fun z => absurd z c2⟩ q
    rw [core]
    split <;> split <;> omega
theorem rot_turns {o A B : List Int} {S : Int → Bool} (r : Rot o (A ++ B)) (hA : ∀ x ∈ A, S x = true) (hB : ∀ x ∈ B, S x = false) (la : 0 < A.length) (lb : 0 < B.length) : turnsM (o.map S) = 2 := by
  obtain ⟨x, y, rfl, e⟩ := r
  rcases List.append_eq_append_iff.mp e with ⟨z, rfl, rfl⟩ | ⟨z, rfl, rfl⟩
  · -- y = A ++ z, B = z ++ x
    have e1 : (x ++ (A ++ z)).map S = x.map S ++ A.map S ++ z.map S := by simp
    rw [e1]
    refine turns3 (b := false) (fun v hv => ?_) (fun v hv => ?_) (fun v hv => ?_) (by rw [List.length_map]; exact la) ?_
    · obtain ⟨w, hw, rfl⟩ := List.mem_map.mp hv; exact hB w (List.mem_append_right _ hw)
    · obtain ⟨w, hw, rfl⟩ := List.mem_map.mp hv; exact hA w hw
    · obtain ⟨w, hw, rfl⟩ := List.mem_map.mp hv; exact hB w (List.mem_append_left _ hw)
    · rw [List.length_map, List.length_map]; rw [List.length_append] at lb; omega
  · -- A = y ++ z, x = z ++ B
    have e1 : ((z ++ B) ++ y).map S = z.map S ++ B.map S ++ y.map S := by simp
    rw [e1]
    refine turns3 (b := true) (fun v hv => ?_) (fun v hv => ?_) (fun v hv => ?_) (by rw [List.length_map]; exact lb) ?_
    · obtain ⟨w, hw, rfl⟩ := List.mem_map.mp hv; exact hA w (List.mem_append_right _ hw)
    · obtain ⟨w, hw, rfl⟩ := List.mem_map.mp hv; exact hB w hw
    · obtain ⟨w, hw, rfl⟩ := List.mem_map.mp hv; exact hA w (List.mem_append_left _ hw)
    · rw [List.length_map, List.length_map]; rw [List.length_append] at la; omega
end Pf

namespace Pf
open PySem PySem.Spec PyProof.Rows L2
section
variable {α β γ δ : Type} [Rep α] [Rep β] [Rep γ] [Rep δ] {σ : L2.St} {G H : Hp} {ta tb : TE} {K : Fg}
theorem spPL2_sp2 {pre : α → β → Prop} {f : α → β → List γ} {h : α → β → List δ} : ∀ vs H Q E, sp2 pre (fun x y => (f x y, h x y)) vs H Q E → spPL2 pre f h vs H Q E := fun vs H Q E ⟨v, x, v2, x2, G, e, i, r, r2, hp, k⟩ => ⟨v, x, v2, x2, G, e, i, r, r2, hp, fun t p1 p2 G' H' g ne m1 m2 nt ntH et n1 n2 => by
  obtain ⟨g1, vs1, e1, pr1⟩ := m1
  obtain ⟨g2, vs2, e2, pr2⟩ := m2
  have ga := g.still n1 g1 e1
  have g2' : upd G' p1 (.lst vs1) p2 = none := by rw [upd_ne (fun z => ne z.symm)]; exact g2
  have gb := ga.still n2 g2' e2
  have t1 : t ≠ p1 := fun z => by rw [z, e1] at et; cases et
  have t2 : t ≠ p2 := fun z => by rw [z, e2] at et; cases et
  have g3' : upd (upd G' p1 (.lst vs1)) p2 (.lst vs2) t = none := by rw [upd_ne t2, upd_ne t1]; exact nt
  have gc := gb.still ntH g3' et
  have s1 : Same G' (upd (upd (upd G' p1 (.lst vs1)) p2 (.lst vs2)) t (.tup [.ref p1, .ref p2])) := ((same_new g1).trans (same_new g2')).trans (same_new g3')
  refine k (.ref t) _ H' gc ⟨t, .ref p1, .ref p2, rfl, upd_same, ⟨p1, vs1, rfl, ?_, paired_mono s1 pr1⟩, ⟨p2, vs2, rfl, ?_, paired_mono s1 pr2⟩⟩
  · rw [upd_ne (fun z => t1 z.symm), upd_ne ne, upd_same]
  · rw [upd_ne (fun z => t2 z.symm), upd_same]⟩
/-- xs[lo:hi] -/
theorem ev_slL {xs : List α} {tl th : TO} {lo hi : Option Int} (ha : Ev ta σ G xs) (hl : EvO tl σ G lo) (hh : EvO th σ G hi) : Ev (tSl (rSlL K) ta tl th) σ G (cutI xs lo hi) := fun H i Q q =>
  ha H i _ fun v G1 H1 g1 k1 => (hl.mono g1.g) H1 g1.i _ fun G2 H2 g2 => (hh.mono (g1.g.trans g2.g)) H2 g2.i _ fun G3 H3 g3 => by
    obtain ⟨a, vs, rfl, h2, h3⟩ := k1
    have e3 := (g2.g.trans g3.g) _ _ h2
    have h3' := paired_mono (g2.g.trans g3.g) h3
    have g13 := (g1.trans g2).trans g3
    refine ⟨a, vs, rfl, .inl (.inl (g3.i _ _ e3)), fun p np => ?_⟩
    exact q _ (upd G3 p (.lst (cutV vs lo hi))) _ (g13.trans (gr_new g3.i np)) ⟨p, _, rfl, upd_same, paired_mono (gr_new (o := .lst (cutV vs lo hi)) g3.i np).g (paired_cut h3' lo hi)⟩
/-- xs[k - 1], as a ring -/
theorem ev_ixP [Inhabited α] {xs : List α} {k : Int} (ha : Ev ta σ G xs) (hb : Ev tb σ G (k - 1)) (h0 : 0 ≤ k) (h1 : k < xs.length) : Ev (tOp (rIxL K) ta tb) σ G (ix xs ((k - 1) % xs.length)) := by
  by_cases hk : k = 0
  · subst hk
    have hx : xs ≠ [] := fun z => by rw [z] at h1; exact absurd h1 (Int.lt_irrefl 0)
    refine Ev.cast (ev_ixLast ha hb hx) ?_
    have hl : 0 < xs.length := by omega
    have e : ((0 : Int) - 1) % xs.length = ((xs.length - 1 : Nat) : Int) := by rw [wrapN (by omega) (by omega)]; split <;> omega
    rw [e, ix_nat (List.getElem?_eq_getElem (show xs.length - 1 < xs.length by omega)), List.getLastD_eq_getLast?, List.getLast?_eq_getElem?, List.getElem?_eq_getElem (by omega)]
    rfl
  · have e : (k - 1) % xs.length = k - 1 := by rw [wrapN (by omega) (by omega)]; split <;> omega
    rw [e]
    exact ev_ixL ha hb ⟨by omega, by omega⟩
end
theorem cut_dropI {xs : List Int} {k : Nat} (h : k ≤ xs.length) : cutI xs (some (k : Int)) none = xs.drop k := by
  unfold cutI
  rw [HT.sIx_nat, HT.sIx_none, Nat.min_eq_left h, List.take_of_length_le (by rw [List.length_drop]; omega)]
theorem cut_takeI {xs : List Int} {k : Nat} (h : k ≤ xs.length) : cutI xs none (some (k : Int)) = xs.take k := by
  unfold cutI
  rw [HT.sIx_nat, HT.sIx_none, Nat.min_eq_left h, List.drop_zero, Nat.sub_zero]
theorem rot_at {o b r : List Int} {h : Int} (R : Rot o b) (nd : o.Nodup) (hb : b = h :: r) : h ∈ o ∧ o.drop (o.idxOf h) ++ o.take (o.idxOf h) = b := by
  obtain ⟨x, y, rfl, rfl⟩ := R
  cases y with
  | nil =>
    rw [List.nil_append] at hb
    subst hb
    refine ⟨by simp, ?_⟩
    rw [List.append_nil, List.idxOf_cons_self]
    simp
  | cons z y =>
    rw [List.cons_append] at hb
    injection hb with hb1 hb2
    subst hb1
    have hz : z ∉ x := fun q => (List.nodup_append.mp nd).2.2 z q z (List.mem_cons_self) rfl
    have e : (x ++ z :: y).idxOf z = x.length := by rw [List.idxOf_append, if_neg hz, List.idxOf_cons_self]; simp
    refine ⟨by simp, ?_⟩
    rw [e, List.drop_left, List.take_left]
end Pf

namespace Pf
open PySem PySem.Spec PyProof.Rows L2
/-! ### dicts of whole numbers by whole numbers -/
structure DI where
  l : List (Int × Int)
abbrev kvI (l : List (Int × Int)) : List (Key × V) := l.map fun e => (Sum.inl e.1, V.int e.2)
instance : Rep DI := ⟨fun G v d => ∃ a, v = .ref a ∧ G a = some (.dK (kvI d.l)), fun e ⟨a, h1, h2⟩ => ⟨a, h1, e _ _ h2⟩⟩
theorem val_I (k : Int) : ∀ l : List (Int × Int), valV (kvI l) (Sum.inl k) = (look l k).map V.int
  | [] => rfl
  | (x, y) :: l => by
    have ih := val_I k l
    unfold valV look kvI at ih ⊢
    rw [List.map_cons, List.find?_cons, List.find?_cons]
    by_cases e : x = k
    · subst e
      rw [decide_eq_true rfl, decide_eq_true rfl]; rfl
    · rw [decide_eq_false (fun z => e (Sum.inl.inj z)), decide_eq_false e]
      exact ih
section
variable {α : Type} [Rep α] {σ : L2.St} {G H : Hp} {ta tb tk tv : TE} {g : TG} {K : Fg}
theorem ev_iget {d : DI} {k x : Int} (ha : Ev ta σ G d) (hb : Ev tb σ G k) (hm : look d.l k = some x) : Ev (tDGet ta tb) σ G x := fun H i Q q =>
  ha H i _ fun v G1 H1 g1 k1 => (hb.mono g1.g) H1 g1.i _ fun u G2 H2 g2 k2 => by
    obtain ⟨a, rfl, e⟩ := k1
    cases k2
    refine ⟨a, .int x, rfl, ?_, q _ G2 H2 (g1.trans g2) rfl⟩
    have z := DGet.k (H := H2) (a := a) (kvs := kvI d.l) (k := Sum.inl k) (g2.i _ _ (g2.g _ _ e))
    rw [val_I, hm] at z
    exact z
theorem putI_new {l : List (Int × Int)} {k x : Int} (h : k ∉ l.map (·.1)) : putK (kvI l) (Sum.inl k) (V.int x) = kvI (l ++ [(k, x)]) := by
  unfold putK
  rw [if_neg]
  · unfold kvI; rw [List.map_append]; rfl
  · intro z
    obtain ⟨e, he, q⟩ := List.any_eq_true.mp z
    obtain ⟨y, hy, rfl⟩ := List.mem_map.mp he
    have q : Sum.inl y.1 = (Sum.inl k : Key) := of_decide_eq_true q
    exact h (List.mem_map.mpr ⟨y, hy, Sum.inl.inj q⟩)
/-- {f x: h x for x in xs}, unlike keys -/
theorem ev_dcI {wi : TI} {vs : List Nat} {xs : List α} {f h : α → Int} (hx : EvI wi σ G xs) (hl : xs.length ≤ 100000) (nd : (xs.map f).Nodup)
    (hb : ∀ x ∈ xs, ∀ v G1, Same G G1 → rep G1 v x → GB g v (wipe σ vs) G1 fun σ2 => wipe σ2 vs = wipe σ vs ∧ Ev tk σ2 G1 (f x) ∧ Ev tv σ2 G1 (h x)) : Ev (tDc wi g tYes tk tv vs) σ G (DI.mk (xs.map fun x => (f x, h x))) := fun H i Q q => by
  refine hx H i _ fun J G1 H1 g1 ok D nD => ?_
  have nG : G1 D = none := up_none g1.i nD
  refine ⟨fun k m H => m = xs.length - k ∧ k ≤ xs.length ∧ ∃ Gk, Gr M0 G1 H1 Gk H ∧ Gk D = none ∧ H D = some (.dK (kvI ((xs.take k).map fun x => (f x, h x)))), ⟨_, rfl, Nat.zero_le _, G1, (Gr.refl g1.i).mut (.inl nD) nG, nG, upd_same⟩, ?_⟩
  rintro k m H2 ⟨rfl, hk, Gk, gk, nk, ek⟩
  by_cases hlt : k < xs.length
  · refine .inr ⟨ok.go k H2 (gk.g.trans gk.i) hlt, fun H' => ∃ Gk, Gr M0 G1 H1 Gk H' ∧ Gk D = none ∧ H' D = some (.dK (kvI ((xs.take (k + 1)).map fun x => (f x, h x)))), fun H' h' => ⟨xs.length - (k + 1), by omega, rfl, hlt, h'⟩, fun v H3 yl => ?_⟩
    have hxk : xs[k]? = some xs[k] := List.getElem?_eq_getElem hlt
    obtain ⟨G3, g3, r3⟩ := ok.yld k H2 v H3 Gk xs[k] gk.g gk.i yl hxk
    have g13 := gk.trans g3
    have n3 := g3.out nk ek
    have e3 := g3.same _ _ ek
    refine hb xs[k] (List.getElem_mem hlt) v G3 (g1.g.trans g13.g) r3 H3 g3.i _ fun σ2 ⟨hw, hk2, hv2⟩ => ⟨hw, ?_⟩
    show tk σ2 H3 _
    refine hk2 H3 g3.i _ fun y G4 H4 g4 r4 => (hv2.mono g4.g) H4 g4.i _ fun z G5 H5 g5 r5 => ?_
    cases r4; cases r5
    have g45 := g4.trans g5
    have n5 := g45.out n3 e3
    have e5 := g45.same _ _ e3
    have hnew : f xs[k] ∉ ((xs.take k).map fun x => (f x, h x)).map (·.1) := fun hm => by
      rw [List.map_map] at hm
      obtain ⟨y, hy, e⟩ := List.mem_map.mp hm
      obtain ⟨j, hj, e2⟩ := List.mem_iff_getElem.mp hy
      rw [List.getElem_take] at e2
      rw [List.length_take] at hj
      have hjk : j < k := by omega
      have := (List.pairwise_iff_getElem.mp nd) j k (by rw [List.length_map]; omega) (by rw [List.length_map]; exact hlt) hjk
      apply this
      rw [List.getElem_map, List.getElem_map, e2]
      exact e
    refine ⟨_, Sum.inl (f xs[k]), rfl, e5, sl_lt (by rw [List.length_map, List.length_map, List.length_take]; omega), G5, (g13.trans g45).mut (.inl nD) n5, n5, ?_⟩
    rw [upd_same, putI_new hnew, List.take_add_one, hxk, List.map_append]
    rfl
  · have e : xs.take k = xs := List.take_of_length_le (by omega)
    rw [e] at ek
    exact .inl ⟨ok.stop k H2 (gk.g.trans gk.i) (by omega), q _ (upd Gk D (.dK _)) H2 (g1.trans (gk.still nD nk ek)) ⟨D, rfl, upd_same⟩⟩
theorem ev_notInLI {x : Int} {ys : List Int} (ha : Ev ta σ G x) (hb : Ev tb σ G ys) : Ev (tOp (rIn K true) ta tb) σ G (!decide (x ∈ ys)) :=
  ev2 ha hb fun v u G' _ k1 k2 H i Q q => by
    cases k1
    obtain ⟨a, vs, rfl, h2, h3⟩ := k2
    rw [paired_ints h3] at h2
    exact ⟨a, _, rfl, .inl (.inl (.inl (i _ _ h2))), rfl, ints_flat _, q _ G' H (Gr.refl i) (by rw [inV_ints]; rfl)⟩
/-- the length of such a dict -/
def rLenK : List V → Hp → VK → Prop := fun xs H Q => ∃ (p : Addr) (kvs : List (Key × V)), xs = [.ref p] ∧ H p = some (.dK kvs) ∧ Q (.int ((kvs.length : Nat) : Int)) H
theorem call_len_dK {X : Cx} : CallR X (.builtin "len") rLenK := by
  intro pins s σ H xs us Q I r h
  obtain ⟨p, kvs, rfl, hp, q⟩ := h
  obtain ⟨u, rfl, rx⟩ := vals1 r
  obtain rfl : u = .ref p := rx
  exact d_len I (.inl hp) fun t s' I' => ⟨.int ((kvs.length : Nat) : Int), H, I', ⟨_, rfl⟩, q⟩
theorem ev_lenI {d : DI} (ha : Ev ta σ G d) : Ev (tCB rLenK (tCons ta tNil)) σ G (d.l.length : Int) := ev_B1 ha fun v G' H _ i k Q q => by
  obtain ⟨a, rfl, e⟩ := k
  refine ⟨a, _, rfl, i _ _ e, ?_⟩
  rw [List.length_map]
  exact q _ G' H (Gr.refl i) rfl
end
/-! ### how far behind the first of a stack -/
def firstsM (o e : List Int) : List Int := (rng 0 (o.length : Int)).filter fun k => decide (ix o k ∈ e) && !decide (ix o ((k - 1) % o.length) ∈ e)
def frM (o e : List Int) : Int := ix (firstsM o e) 0
def behM (o e : List Int) : DI := ⟨(rng 0 (o.length : Int)).map fun s => (ix o ((frM o e + s) % o.length), s)⟩
def copM (l : List Int) (d : DI) (b : Int) : List Int := l.map fun x => (b + (look d.l x).getD 0) % (3 * d.l.length)
theorem beh_len (o e : List Int) : (behM o e).l.length = o.length := by unfold behM; rw [List.length_map, rng_len]; omega
theorem fr_lt {o e : List Int} (h : firstsM o e ≠ []) : 0 ≤ frM o e ∧ frM o e < o.length := by
  unfold frM
  cases z : firstsM o e with
  | nil => exact absurd z h
  | cons x r =>
    have hx : x ∈ firstsM o e := by rw [z]; exact List.mem_cons_self
    exact rng_mem.mp (List.mem_filter.mp hx).1
theorem ix_inj {o : List Int} (nd : o.Nodup) {i j : Int} (hi : 0 ≤ i ∧ i < o.length) (hj : 0 ≤ j ∧ j < o.length) (h : ix o i = ix o j) : i = j := by
  have e1 : ix o i = o[i.toNat]'(by omega) := by have z := ix_nat (List.getElem?_eq_getElem (show i.toNat < o.length by omega)); rw [Int.toNat_of_nonneg hi.1] at z; exact z
  have e2 : ix o j = o[j.toNat]'(by omega) := by have z := ix_nat (List.getElem?_eq_getElem (show j.toNat < o.length by omega)); rw [Int.toNat_of_nonneg hj.1] at z; exact z
  rw [e1, e2] at h
  have pw := List.pairwise_iff_getElem.mp nd
  rcases Int.lt_trichotomy i j with z | z | z
  · exact absurd h (pw i.toNat j.toNat (by omega) (by omega) (by omega))
  · exact z
  · exact absurd h.symm (pw j.toNat i.toNat (by omega) (by omega) (by omega))
theorem wrapP {n x : Int} (h0 : 0 ≤ x) (h2 : x < 2 * n) : x % n = if x < n then x else x - n := by
  by_cases h : x < n
  · rw [if_pos h, Int.emod_eq_of_lt (by omega) (by omega)]
  · rw [if_neg h, ← Int.sub_emod_right, Int.emod_eq_of_lt (by omega) (by omega)]
theorem beh_nodup {o e : List Int} (nd : o.Nodup) (h : firstsM o e ≠ []) : ((rng 0 (o.length : Int)).map fun s => ix o ((frM o e + s) % o.length)).Nodup := by
  have hf := fr_lt h
  refine List.pairwise_map.mpr (List.Pairwise.imp_of_mem ?_ (rng_nodup 0 o.length))
  intro a b ha hb hne he
  have ha := rng_mem.mp ha
  have hb := rng_mem.mp hb
  have h1 := Int.emod_nonneg (frM o e + a) (show (o.length : Int) ≠ 0 by omega)
  have h2 := Int.emod_lt_of_pos (frM o e + a) (show (0 : Int) < o.length by omega)
  have h3 := Int.emod_nonneg (frM o e + b) (show (o.length : Int) ≠ 0 by omega)
  have h4 := Int.emod_lt_of_pos (frM o e + b) (show (0 : Int) < o.length by omega)
  have := ix_inj nd ⟨h1, h2⟩ ⟨h3, h4⟩ he
  rw [wrapP (by omega) (by omega), wrapP (by omega) (by omega)] at this
  apply hne
  split at this <;> split at this <;> omega
end Pf

namespace Pf
open PySem PySem.Spec PyProof.Rows L2
/-! ### the stacks along the order: heaps -/
theorem mod_sub {a b n : Int} : (a - b % n) % n = (a - b) % n := by
  rw [Int.sub_emod, Int.emod_emod_of_dvd _ (Int.dvd_refl n), ← Int.sub_emod]
theorem mod_subl {a b n : Int} : (a % n - b) % n = (a - b) % n := by
  rw [Int.sub_emod, Int.emod_emod_of_dvd _ (Int.dvd_refl n), ← Int.sub_emod]
theorem mod_add {a b n : Int} : (a + b % n) % n = (a + b) % n := by
  rw [Int.add_emod, Int.emod_emod_of_dvd _ (Int.dvd_refl n), ← Int.add_emod]
theorem firsts_ne {o e : List Int} {k0 k1 : Int} (h0 : 0 ≤ k0 ∧ k0 < o.length) (h1 : 0 ≤ k1 ∧ k1 < o.length) (hin : ix o k0 ∈ e) (hout : ix o k1 ∉ e) : firstsM o e ≠ [] := by
  intro hz
  have hz := List.filter_eq_nil_iff.mp hz
  have nz : (o.length : Int) ≠ 0 := by omega
  have all : ∀ j : Nat, ix o ((k0 - j) % o.length) ∈ e := by
    intro j
    induction j with
    | zero =>
      rw [show k0 - ((0 : Nat) : Int) = k0 by omega, Int.emod_eq_of_lt h0.1 h0.2]
      exact hin
    | succ j ih =>
      have hk := hz ((k0 - j) % o.length) (rng_mem.mpr ⟨Int.emod_nonneg _ nz, Int.emod_lt_of_pos _ (by omega)⟩)
      rw [mod_subl, show k0 - (j : Int) - 1 = k0 - ((j + 1 : Nat) : Int) by omega] at hk
      rw [decide_eq_true ih, Bool.true_and] at hk
      simpa using hk
  have z := all ((k0 - k1) % o.length).toNat
  rw [Int.toNat_of_nonneg (Int.emod_nonneg _ nz), mod_sub, show k0 - (k0 - k1) = k1 by omega, Int.emod_eq_of_lt h1.1 h1.2] at z
  exact hout z
theorem mem_ix {o : List Int} {x : Int} (h : x ∈ o) : ∃ k : Int, (0 ≤ k ∧ k < o.length) ∧ ix o k = x := by
  obtain ⟨j, hj, e⟩ := List.mem_iff_getElem.mp h
  exact ⟨j, ⟨by omega, by omega⟩, by rw [ix_nat (List.getElem?_eq_getElem hj)]; exact e⟩
theorem beh_look {o e : List Int} (h : firstsM o e ≠ []) {x : Int} (hx : x ∈ o) : ∃ y, look (behM o e).l x = some y := by
  obtain ⟨k, hk, rfl⟩ := mem_ix hx
  have hf := fr_lt h
  have nz : (o.length : Int) ≠ 0 := by omega
  apply Option.isSome_iff_exists.mp
  rw [look_mem]
  unfold behM
  rw [List.map_map]
  refine List.mem_map.mpr ⟨(k - frM o e) % o.length, rng_mem.mpr ⟨Int.emod_nonneg _ nz, Int.emod_lt_of_pos _ (by omega)⟩, ?_⟩
  show ix o ((frM o e + (k - frM o e) % o.length) % o.length) = ix o k
  rw [mod_add, show frM o e + (k - frM o e) = k by omega, Int.emod_eq_of_lt hk.1 hk.2]
def behP (p : Plan) (t u : Int) : DI := behM (ordM p) (arc p.1 t u)
def stepP (p : Plan) (t u : Int) : Int × Int := if upM p t u = true then (p.1, 0) else (-p.1, -p.1)
def startP (p : Plan) (l : T3) : Int := l.c * p.1 + ((ordM p).idxOf l.a : Nat) - (look (behP p l.a l.b).l l.a).getD 0
def begP (p : Plan) (l : T3) : List Int := [startP p l, startP p l + (stepP p l.a l.b).1, startP p l + 2 * (stepP p l.a l.b).1]
def twoP (p : Plan) (l : T3) (b : Int) : List (List Int) := [copM (arc p.1 l.a l.b) (behP p l.a l.b) b, copM (oddM p.1 l.a l.b) (behP p l.a l.b) (b + (stepP p l.a l.b).2)]
def heapsM (p : Plan) (l : T3) : List (List Int) := (begP p l).flatMap (twoP p l)
theorem ord_in {p : Plan} (h : isPlanM p = true) {x : Int} : x ∈ ordM p ↔ 0 ≤ x ∧ x < p.1 := by rw [(ordM_perm h).mem_iff]; exact rng_mem
theorem ord_len {p : Plan} (h : isPlanM p = true) : ((ordM p).length : Int) = p.1 := by
  obtain ⟨h3, _⟩ := plan_facts h
  rw [(ordM_perm h).length_eq, rng_len]; omega
theorem ord_nodup {p : Plan} (h : isPlanM p = true) : (ordM p).Nodup := (ordM_perm h).nodup_iff.mpr (rng_nodup 0 p.1)
theorem firsts_P {p : Plan} (h : isPlanM p = true) {t u : Int} (j : Jn p t u) : firstsM (ordM p) (arc p.1 t u) ≠ [] := by
  have ne := j.ne h
  obtain ⟨k0, h0, e0⟩ := mem_ix ((ord_in h (x := t)).mpr ⟨by omega, by omega⟩)
  obtain ⟨k1, h1, e1⟩ := mem_ix ((ord_in h (x := u)).mpr ⟨by omega, by omega⟩)
  refine firsts_ne h0 h1 ?_ ?_
  · rw [e0]; exact (mem_arc (by omega) (by omega) (by omega)).mpr ⟨by omega, by omega, .inl rfl⟩
  · rw [e1]; intro z
    obtain ⟨_, _, z⟩ := (mem_arc (by omega) (by omega) (by omega)).mp z
    rcases z with z | z
    · omega
    · unfold Cy at z; omega
theorem look_P {p : Plan} (h : isPlanM p = true) {t u x : Int} (j : Jn p t u) (hx : 0 ≤ x ∧ x < p.1) : ∃ y, look (behP p t u).l x = some y := beh_look (firsts_P h j) ((ord_in h).mpr hx)
theorem behP_len {p : Plan} (h : isPlanM p = true) {t u : Int} : ((behP p t u).l.length : Int) = p.1 := by unfold behP; rw [beh_len]; exact ord_len h
end Pf

namespace Pf
open PySem PySem.Spec PyProof.Rows L2
/-! ### stretches of the order, as a ring -/
theorem ixI_app_l {x y : List Int} {k : Int} (h0 : 0 ≤ k) (h1 : k < x.length) : ix (x ++ y) k = ix x k := by
  obtain ⟨m, rfl⟩ : ∃ m : Nat, k = (m : Int) := ⟨k.toNat, by omega⟩
  have hm : m < x.length := by omega
  rw [ix_nat (List.getElem?_append_left hm |>.trans (List.getElem?_eq_getElem hm)), ix_nat (List.getElem?_eq_getElem hm)]
theorem ixI_app_r {x y : List Int} {k : Int} (h0 : x.length ≤ k) (h1 : k < x.length + y.length) : ix (x ++ y) k = ix y (k - x.length) := by
  obtain ⟨m, rfl⟩ : ∃ m : Nat, k = ((x.length + m : Nat) : Int) := ⟨(k - x.length).toNat, by omega⟩
  have hm : m < y.length := by omega
  have e : ((x.length + m : Nat) : Int) - x.length = (m : Int) := by omega
  rw [e, ix_nat (v := y[m]) (by rw [List.getElem?_append_right (by omega), Nat.add_sub_cancel_left]; exact List.getElem?_eq_getElem hm), ix_nat (List.getElem?_eq_getElem hm)]
theorem ix_mem {x : List Int} {k : Int} (h0 : 0 ≤ k) (h1 : k < x.length) : ix x k ∈ x := by
  obtain ⟨m, rfl⟩ : ∃ m : Nat, k = (m : Int) := ⟨k.toNat, by omega⟩
  have hm : m < x.length := by omega
  rw [ix_nat (List.getElem?_eq_getElem hm)]
  exact List.getElem_mem hm
theorem ix_idx {o : List Int} {x : Int} (h : x ∈ o) : ix o ((o.idxOf x : Nat) : Int) = x := by
  have hl := List.idxOf_lt_length_of_mem h
  rw [ix_nat (List.getElem?_eq_getElem hl)]
  exact List.getElem_idxOf hl
theorem idx_lt {o : List Int} {x : Int} (h : x ∈ o) : ((o.idxOf x : Nat) : Int) < o.length := by
  have hl := List.idxOf_lt_length_of_mem h
  omega
theorem rot_ix {o b : List Int} (R : Rot o b) : b.length = o.length ∧ ∃ r : Int, ∀ s : Int, 0 ≤ s → s < o.length → ix o ((r + s) % o.length) = ix b s := by
  obtain ⟨x, y, rfl, rfl⟩ := R
  refine ⟨by rw [List.length_append, List.length_append]; omega, x.length, fun s h0 h1 => ?_⟩
  have hl : ((x ++ y).length : Int) = x.length + y.length := by rw [List.length_append]; omega
  rw [hl] at h1 ⊢
  by_cases hs : s < y.length
  · rw [Int.emod_eq_of_lt (by omega) (by omega), ixI_app_r (by omega) (by omega), ixI_app_l h0 hs]
    congr 1; omega
  · rw [wrap (by omega) (by omega), if_neg (by omega), ixI_app_r (x := y) (by omega) (by omega), ixI_app_l (by omega) (by omega)]
    congr 1; omega
/-- st has just what stands from r on, m in all, of the order o as a ring -/
structure Stre (o st : List Int) (r m : Int) : Prop where
  nd : o.Nodup
  r0 : 0 ≤ r
  r1 : r < o.length
  m0 : 0 < m
  m1 : m < o.length
  mem : ∀ s : Int, 0 ≤ s → s < o.length → (ix o ((r + s) % o.length) ∈ st ↔ s < m)
theorem mod_add2 {a b n : Int} : (a % n + b) % n = (a + b) % n := by rw [Int.add_emod, Int.emod_emod_of_dvd _ (Int.dvd_refl n), ← Int.add_emod]
theorem mod3 {a n : Int} : (a % (3 * n)) % n = a % n := Int.emod_emod_of_dvd _ ⟨3, by rw [Int.mul_comm]⟩
section
variable {o st : List Int} {r m : Int}
theorem Stre.at (S : Stre o st r m) (d : Int) : ix o (d % o.length) ∈ st ↔ (d - r) % o.length < m := by
  have nz : (o.length : Int) ≠ 0 := by have := S.r0; have := S.r1; omega
  have h := S.mem ((d - r) % o.length) (Int.emod_nonneg _ nz) (Int.emod_lt_of_pos _ (by have := S.r0; have := S.r1; omega))
  rw [mod_add, show r + (d - r) = d by omega] at h
  exact h
theorem Stre.first (S : Stre o st r m) : firstsM o st = [r] := by
  have r0 := S.r0; have r1 := S.r1; have m0 := S.m0; have m1 := S.m1
  have nd : (firstsM o st).Nodup := (rng_nodup 0 _).filter _
  have pm : (firstsM o st).Perm [r] := (List.perm_ext_iff_of_nodup nd (List.nodup_cons.mpr ⟨List.not_mem_nil, List.nodup_nil⟩)).mpr fun k => by
    unfold firstsM
    rw [List.mem_filter, rng_mem, List.mem_singleton, Bool.and_eq_true, decide_eq_true_eq, Bool.not_eq_true', decide_eq_false_iff_not]
    constructor
    · rintro ⟨⟨k0, k1⟩, h1, h2⟩
      have e1 : ix o k = ix o (k % o.length) := by rw [Int.emod_eq_of_lt k0 k1]
      rw [e1, S.at] at h1
      rw [S.at] at h2
      rw [wrapN (by omega) (by omega)] at h1 h2
      split at h1 <;> split at h2 <;> omega
    · rintro rfl
      refine ⟨⟨r0, r1⟩, ?_, ?_⟩
      · have e1 : ix o k = ix o (k % o.length) := by rw [Int.emod_eq_of_lt r0 r1]
        rw [e1, S.at, show k - k = 0 by omega, Int.zero_emod]; exact m0
      · rw [S.at, show k - 1 - k = -1 by omega, wrapN (by omega) (by omega), if_pos (by omega)]; omega
  exact List.perm_singleton.mp pm
theorem Stre.fr (S : Stre o st r m) : frM o st = r := by unfold frM; rw [S.first]; rfl
/-- how far behind the first -/
def psn (o : List Int) (r x : Int) : Int := (((o.idxOf x : Nat) : Int) - r) % o.length
theorem psn_lt (S : Stre o st r m) (x : Int) : 0 ≤ psn o r x ∧ psn o r x < o.length := by
  have r0 := S.r0; have r1 := S.r1
  exact ⟨Int.emod_nonneg _ (by omega), Int.emod_lt_of_pos _ (by omega)⟩
theorem Stre.psn_mem (S : Stre o st r m) {x : Int} (hx : x ∈ o) : x ∈ st ↔ psn o r x < m := by
  have h := S.at ((o.idxOf x : Nat) : Int)
  have hl := idx_lt hx
  rw [Int.emod_eq_of_lt (by omega) hl, ix_idx hx] at h
  exact h
theorem Stre.psn_at (S : Stre o st r m) {s : Int} (h0 : 0 ≤ s) (h1 : s < o.length) : psn o r (ix o ((r + s) % o.length)) = s := by
  have r0 := S.r0; have r1 := S.r1
  have b0 := Int.emod_nonneg (r + s) (show (o.length : Int) ≠ 0 by omega)
  have b1 := Int.emod_lt_of_pos (r + s) (show (0 : Int) < o.length by omega)
  have hm : ix o ((r + s) % o.length) ∈ o := ix_mem b0 b1
  have e : ((o.idxOf (ix o ((r + s) % o.length)) : Nat) : Int) = (r + s) % o.length := ix_inj S.nd ⟨by omega, idx_lt hm⟩ ⟨b0, b1⟩ (ix_idx hm)
  unfold psn
  rw [e, mod_subl, show r + s - r = s by omega, Int.emod_eq_of_lt h0 h1]
theorem Stre.at_psn (S : Stre o st r m) {x : Int} (hx : x ∈ o) : ix o ((r + psn o r x) % o.length) = x := by
  have hl := idx_lt hx
  unfold psn
  rw [mod_add, show r + (((o.idxOf x : Nat) : Int) - r) = ((o.idxOf x : Nat) : Int) by omega, Int.emod_eq_of_lt (by omega) hl, ix_idx hx]
theorem look_uniq {κ α : Type} [DecidableEq κ] : ∀ {l : List (κ × α)} {k : κ} {x : α}, (l.map (·.1)).Nodup → (k, x) ∈ l → look l k = some x
  | [], _, _, _, h => by cases h
  | e :: l, k, x, nd, h => by
    rw [List.map_cons, List.nodup_cons] at nd
    unfold look
    rcases List.mem_cons.mp h with rfl | h
    · rw [List.find?_cons_of_pos (by simp)]; rfl
    · have ne : e.1 ≠ k := fun z => nd.1 (by rw [z]; exact List.mem_map.mpr ⟨(k, x), h, rfl⟩)
      rw [List.find?_cons_of_neg (by simp [ne])]
      exact look_uniq nd.2 h
theorem Stre.look (S : Stre o st r m) {x : Int} (hx : x ∈ o) : Pf.look (behM o st).l x = some (psn o r x) := by
  have nd := beh_nodup (e := st) S.nd (by rw [S.first]; exact fun z => by cases z)
  have hp := psn_lt S x
  refine look_uniq ?_ ?_
  · unfold behM
    rw [List.map_map]
    exact nd
  · unfold behM
    refine List.mem_map.mpr ⟨psn o r x, rng_mem.mpr hp, ?_⟩
    rw [S.fr, S.at_psn hx]
/-- the other stack -/
theorem Stre.other (S : Stre o st r m) {st2 : List Int} (h2 : ∀ x ∈ o, x ∈ st2 ↔ x ∉ st) : Stre o st2 ((r + m) % o.length) (o.length - m) := by
  have r0 := S.r0; have r1 := S.r1; have m0 := S.m0; have m1 := S.m1
  refine ⟨S.nd, Int.emod_nonneg _ (by omega), Int.emod_lt_of_pos _ (by omega), by omega, by omega, fun s h0 h1 => ?_⟩
  rw [mod_add2, h2 _ (ix_mem (Int.emod_nonneg _ (by omega)) (Int.emod_lt_of_pos _ (by omega))), S.at, show r + m + s - r = m + s by omega, wrap (by omega) (by omega)]
  split <;> omega
theorem psn_other (S : Stre o st r m) {x : Int} (h : m ≤ psn o r x) : psn o ((r + m) % o.length) x = psn o r x - m := by
  have hp := psn_lt S x
  have m0 := S.m0
  have e : psn o ((r + m) % o.length) x = (psn o r x - m) % o.length := by
    unfold psn
    rw [mod_sub, mod_subl]
    congr 1; omega
  rw [e, Int.emod_eq_of_lt (by omega) (by omega)]
/-! ### the law's own copies -/
def joinedM (o st : List Int) (here one step : Int) : Bool := (rng 0 (step + 1)).all fun k => decide (ix o ((here + if decide ((here + step) % (3 * o.length) = one) = true then k else 0 - k) % (3 * o.length) % o.length) ∈ st)
def cpM (o st : List Int) (here leaf : Int) : Int := (here + psn o (frM o st) leaf - (here - frM o st) % o.length) % (3 * o.length)
theorem same3 {h s n : Int} (h0 : 0 ≤ s) (h1 : s < n) (e : (h + s) % (3 * n) = (h - s) % (3 * n)) : s = 0 := by
  have d := Int.emod_emod_of_dvd (h + s - (h - s)) (Int.dvd_refl (3 * n))
  have z : (h + s - (h - s)) % (3 * n) = 0 := by rw [Int.sub_emod, e, Int.sub_self, Int.zero_emod]
  rw [show h + s - (h - s) = 2 * s by omega, Int.emod_eq_of_lt (by omega) (by omega)] at z
  omega
theorem joined_iff (S : Stre o st r m) {here one step : Int} : joinedM o st here one step = true ↔ ∀ k, 0 ≤ k → k ≤ step → (here + (if (here + step) % (3 * o.length) = one then k else 0 - k) - r) % o.length < m := by
  unfold joinedM
  rw [List.all_eq_true]
  constructor
  · intro h k k0 k1
    have := h k (rng_mem.mpr ⟨k0, by omega⟩)
    rw [decide_eq_true_eq, mod3, S.at] at this
    simpa using this
  · intro h k hk
    have hk := rng_mem.mp hk
    have := h k hk.1 (by omega)
    rw [decide_eq_true_eq, mod3, S.at]
    simpa using this
theorem cp_uniq (S : Stre o st r m) {here leaf s one : Int} (hh : (here - r) % o.length < m) (hx : leaf ∈ o) (hs : leaf ∈ st) (s0 : 0 ≤ s) (s1 : s < o.length) (h1 : one = (here + s) % (3 * o.length) ∨ one = (here - s) % (3 * o.length))
    (h2 : ix o (one % o.length) = leaf) (h3 : joinedM o st here one s = true) : one = cpM o st here leaf := by
  have r0 := S.r0; have r1 := S.r1; have m0 := S.m0; have m1 := S.m1
  have nz : (o.length : Int) ≠ 0 := by omega
  rw [joined_iff S] at h3
  have hp := psn_lt S leaf
  have e1 : one % o.length = ((o.idxOf leaf : Nat) : Int) := ix_inj S.nd ⟨Int.emod_nonneg _ nz, Int.emod_lt_of_pos _ (by omega)⟩ ⟨by omega, idx_lt hx⟩ (h2.trans (ix_idx hx).symm)
  have ep : psn o r leaf = (one - r) % o.length := by unfold psn; rw [← e1, mod_subl]
  unfold cpM
  rw [S.fr]
  have a0 := Int.emod_nonneg (here - r) nz
  generalize ha : (here - r) % o.length = a at *
  have step : ∀ d : Int, (here + d - r) % o.length = (a + d) % o.length := fun d => by rw [← ha, mod_add2]; congr 1; omega
  -- going ahead
  have ahead : one = (here + s) % (3 * o.length) → one = (here + psn o r leaf - a) % (3 * o.length) := fun e => by
    rw [e] at ep
    rw [← mod_subl (n := (o.length : Int)), mod3, mod_subl, step] at ep
    by_cases hlt : a + s < o.length
    · rw [Int.emod_eq_of_lt (by omega) hlt] at ep
      rw [e, ep]; congr 1; omega
    · exfalso
      have z := h3 (o.length - 1 - a) (by omega) (by omega)
      rw [if_pos e.symm, step, show a + (o.length - 1 - a) = (o.length : Int) - 1 by omega, Int.emod_eq_of_lt (by omega) (by omega)] at z
      omega
  rcases h1 with h1 | h1
  · exact ahead h1
  · by_cases hz : (here + s) % (3 * o.length) = one
    · exact ahead hz.symm
    · rw [h1] at ep
      rw [← mod_subl (n := (o.length : Int)), mod3, mod_subl, show here - s - r = here + (0 - s) - r by omega, step] at ep
      by_cases hlt : 0 ≤ a - s
      · rw [Int.emod_eq_of_lt (by omega) (by omega)] at ep
        rw [h1, ep]; congr 1; omega
      · exfalso
        have z := h3 (a + 1) (by omega) (by omega)
        rw [if_neg hz, step, show a + (0 - (a + 1)) = -1 by omega, wrapN (by omega) (by omega), if_pos (by omega)] at z
        omega
theorem cp_ex (S : Stre o st r m) {here leaf : Int} (hh : (here - r) % o.length < m) (hx : leaf ∈ o) (hs : leaf ∈ st) : ∃ s one : Int, 0 ≤ s ∧ s < o.length ∧ (one = (here + s) % (3 * o.length) ∨ one = (here - s) % (3 * o.length)) ∧ ix o (one % o.length) = leaf ∧ joinedM o st here one s = true := by
  have r0 := S.r0; have r1 := S.r1; have m0 := S.m0; have m1 := S.m1
  have nz : (o.length : Int) ≠ 0 := by omega
  have hp := psn_lt S leaf
  have hb := (S.psn_mem hx).mp hs
  have a0 := Int.emod_nonneg (here - r) nz
  have back : ∀ d : Int, ((here + d - r) % o.length = psn o r leaf) → ix o ((here + d) % (3 * o.length) % o.length) = leaf := fun d e => by
    have z := S.at_psn hx
    rw [← e, mod_add, show r + (here + d - r) = here + d by omega] at z
    rw [mod3]; exact z
  generalize ha : (here - r) % o.length = a at *
  have step : ∀ d : Int, (here + d - r) % o.length = (a + d) % o.length := fun d => by rw [← ha, mod_add2]; congr 1; omega
  by_cases c : a ≤ psn o r leaf
  · refine ⟨psn o r leaf - a, _, by omega, by omega, .inl rfl, back _ ?_, ?_⟩
    · rw [step, Int.emod_eq_of_lt (by omega) (by omega)]; omega
    · rw [joined_iff S]
      intro k k0 k1
      rw [if_pos rfl, step, Int.emod_eq_of_lt (by omega) (by omega)]; omega
  · refine ⟨a - psn o r leaf, _, by omega, by omega, .inr rfl, ?_, ?_⟩
    · rw [show here - (a - psn o r leaf) = here + (psn o r leaf - a) by omega]
      refine back _ ?_
      rw [step, Int.emod_eq_of_lt (by omega) (by omega)]; omega
    · rw [joined_iff S]
      intro k k0 k1
      rw [if_neg (fun z => by have := same3 (by omega) (by omega) z; omega), step, Int.emod_eq_of_lt (by omega) (by omega)]; omega
end
theorem ix_at_arc {n s e x : Int} : x ∈ arc n s e ↔ x ∈ (arc n s e).reverse := List.mem_reverse.symm
/-- the even stack of a place, as a stretch -/
theorem stre_P {p : Plan} (h : isPlanM p = true) {t u : Int} (j : Jn p t u) : Stre (ordM p) (arc p.1 t u) (frM (ordM p) (arc p.1 t u)) ((u - t) % p.1) := by
  obtain ⟨A, B, pA, pB, R⟩ := stretch h j
  have ne := j.ne h
  have h3 := (plan_facts h).1
  have hol := ord_len h
  obtain ⟨hl, r, hr⟩ := rot_ix R
  rw [List.length_append] at hl
  have lA : (A.length : Int) = (u - t) % p.1 := by rw [pA.length_eq, arc_len]; have := Int.emod_nonneg (u - t) (show p.1 ≠ 0 by omega); omega
  have lB : (B.length : Int) = (t - u) % p.1 := by rw [pB.length_eq, arc_len]; have := Int.emod_nonneg (t - u) (show p.1 ≠ 0 by omega); omega
  have w1 := arc_w (n := p.1) (s := t) (e := u) (by omega) (by omega)
  have w2 := arc_w (n := p.1) (s := u) (e := t) (by omega) (by omega)
  have pos : 0 < (u - t) % p.1 ∧ (u - t) % p.1 < p.1 := by rw [w1]; split <;> omega
  have S : Stre (ordM p) (arc p.1 t u) (r % p.1) ((u - t) % p.1) := by
    refine ⟨ord_nodup h, Int.emod_nonneg _ (by omega), by rw [hol]; exact Int.emod_lt_of_pos _ (by omega), pos.1, by omega, fun s s0 s1 => ?_⟩
    have e := hr s s0 s1
    have e2 : (r % p.1 + s) % ((ordM p).length : Int) = (r + s) % ((ordM p).length : Int) := by rw [hol, mod_add2]
    rw [e2, e]
    by_cases c : s < A.length
    · rw [ixI_app_l s0 c]
      exact ⟨fun _ => by omega, fun _ => pA.mem_iff.mp (ix_mem s0 c)⟩
    · rw [ixI_app_r (by omega) (by omega)]
      refine ⟨fun q => ?_, fun q => by omega⟩
      exfalso
      have m2 := pB.mem_iff.mp (ix_mem (x := B) (k := s - A.length) (by omega) (by omega))
      obtain ⟨_, _, q1⟩ := (mem_arc (by omega) (by omega) (by omega)).mp q
      obtain ⟨_, _, q2⟩ := (mem_arc (by omega) (by omega) (by omega)).mp m2
      generalize ix B (s - A.length) = x at *
      unfold Cy at q1 q2
      omega
  rw [S.fr]; exact S
theorem arc_not {p : Plan} (h : isPlanM p = true) {t u : Int} (j : Jn p t u) : ∀ x ∈ ordM p, x ∈ oddM p.1 t u ↔ x ∉ arc p.1 t u := by
  have ne := j.ne h
  intro x hx
  have hx := (ord_in h).mp hx
  rw [odd_eq (by omega) (by omega) (by omega), List.mem_reverse, mem_arc (by omega) (by omega) (by omega), mem_arc (by omega) (by omega) (by omega)]
  unfold Cy
  omega
end Pf

namespace Pf
open PySem PySem.Spec PyProof.Rows L2
/-! ### heaps, as the law goes along the strip -/
theorem third_n {A x n : Int} : (A + x % 3 * n) % (3 * n) = (A + x * n) % (3 * n) := by
  have e : A + x * n = A + x % 3 * n + 3 * n * (x / 3) := by
    have h := Int.emod_add_mul_ediv x 3
    have e1 : x * n = (x % 3 + 3 * (x / 3)) * n := by rw [h]
    rw [e1, Int.add_mul, Int.mul_assoc, Int.mul_assoc, Int.mul_comm (x / 3) n]; omega
  rw [e, Int.add_mul_emod_self_left]
theorem mod3s {a r n : Int} : (a % (3 * n) - r) % n = (a - r) % n := by rw [← mod_subl, mod3, mod_subl]
theorem mod_inj {n a x y : Int} (h : (a + x) % n = (a + y) % n) (h1 : x - y < n) (h2 : y - x < n) : x = y := by
  have z : (a + x - (a + y)) % n = 0 := by rw [Int.sub_emod, h, Int.sub_self, Int.zero_emod]
  rw [show a + x - (a + y) = x - y by omega] at z
  rcases Int.lt_trichotomy x y with c | c | c
  · rw [wrapN (by omega) (by omega), if_pos (by omega)] at z; omega
  · exact c
  · rw [Int.emod_eq_of_lt (by omega) (by omega)] at z; omega
section
variable {o st od : List Int} {r m : Int}
theorem cp_even (S : Stre o st r m) {b t x : Int} (hb : (b - r) % o.length = 0) (ht : t ∈ o) : cpM o st ((b + psn o r t) % (3 * o.length)) x = (b + psn o r x) % (3 * o.length) := by
  have e0 : (b + psn o r t - r) % o.length = psn o r t := by rw [show b + psn o r t - r = (b - r) + psn o r t by omega, ← mod_add2, hb, Int.zero_add, Int.emod_eq_of_lt (psn_lt S t).1 (psn_lt S t).2]
  unfold cpM
  rw [S.fr, mod3s, e0]
  rw [show (b + psn o r t) % (3 * (o.length : Int)) + psn o r x - psn o r t = (b + psn o r t) % (3 * (o.length : Int)) + (psn o r x - psn o r t) by omega, mod_add2]
  congr 1; omega
theorem cp_right (S : Stre o st r m) (hod : ∀ x ∈ o, x ∈ od ↔ x ∉ st) {b x : Int} (hb : (b - r) % o.length = 0) (hx : m ≤ psn o r x) : cpM o od ((b + m) % (3 * o.length)) x = (b + psn o r x) % (3 * o.length) := by
  unfold cpM
  rw [(S.other hod).fr, mod3s, psn_other S hx, mod_sub, show b + m - (r + m) = b - r by omega, hb]
  rw [show (b + m) % (3 * (o.length : Int)) + (psn o r x - m) - 0 = (b + m) % (3 * (o.length : Int)) + (psn o r x - m) by omega, mod_add2]
  congr 1; omega
theorem cp_left (S : Stre o st r m) (hod : ∀ x ∈ o, x ∈ od ↔ x ∉ st) {b x : Int} (hb : (b - r) % o.length = 0) (hx : m ≤ psn o r x) : cpM o od ((b - 1) % (3 * o.length)) x = (b + (-(o.length : Int)) + psn o r x) % (3 * o.length) := by
  have m0 := S.m0; have m1 := S.m1
  have e0 : (b - 1 - (r + m)) % o.length = -1 - m + o.length := by rw [show b - 1 - (r + m) = (b - r) + (-1 - m) by omega, ← mod_add2, hb, Int.zero_add, wrapN (by omega) (by omega), if_pos (by omega)]
  unfold cpM
  rw [(S.other hod).fr, mod3s, psn_other S hx, mod_sub, e0]
  rw [show (b - 1) % (3 * (o.length : Int)) + (psn o r x - m) - (-1 - m + o.length) = (b - 1) % (3 * (o.length : Int)) + (psn o r x + 1 - o.length) by omega, mod_add2]
  congr 1; omega
/-- what is a copy of the even stack -/
theorem late_iff (S : Stre o st r m) (hst : ∀ x ∈ st, x ∈ o) {b s : Int} (h0 : -1 ≤ s) (h1 : s ≤ m) : (b + s) % (3 * o.length) ∈ (st.map fun x => (b + psn o r x) % (3 * o.length)) ↔ 0 ≤ s ∧ s < m := by
  have m0 := S.m0; have m1 := S.m1
  rw [List.mem_map]
  constructor
  · rintro ⟨x, hx, e⟩
    have hp := psn_lt S x
    have hm := (S.psn_mem (hst x hx)).mp hx
    have := mod_inj e (by omega) (by omega)
    omega
  · rintro ⟨s0, s1⟩
    refine ⟨ix o ((r + s) % o.length), (S.mem s s0 (by omega)).mpr s1, ?_⟩
    rw [S.psn_at s0 (by omega)]
end
section
variable {p : Plan} {l : T3}
theorem cop_eq (h : isPlanM p = true) (j : Jn p l.a l.b) {L : List Int} (hL : ∀ x ∈ L, x ∈ ordM p) (b : Int) : copM L (behP p l.a l.b) b = L.map fun x => (b + psn (ordM p) (frM (ordM p) (arc p.1 l.a l.b)) x) % (3 * (ordM p).length) := by
  have S := stre_P h j
  have e := behP_len (t := l.a) (u := l.b) h
  have hol := ord_len h
  unfold copM
  refine List.map_congr_left fun x hx => ?_
  have z : look (behP p l.a l.b).l x = some _ := S.look (hL x hx)
  rw [z, e, hol]; rfl
theorem arc_in (h : isPlanM p = true) {t u : Int} (j : Jn p t u) : ∀ x ∈ arc p.1 t u, x ∈ ordM p := fun x hx => by
  have ne := j.ne h
  have := (mem_arc (by omega) (by omega) (by omega)).mp hx
  exact (ord_in h).mpr ⟨this.1, this.2.1⟩
theorem odd_in (h : isPlanM p = true) {t u : Int} (j : Jn p t u) : ∀ x ∈ oddM p.1 t u, x ∈ ordM p := fun x hx => by
  have ne := j.ne h
  rw [odd_eq (by omega) (by omega) (by omega), List.mem_reverse] at hx
  exact arc_in h j.sym x hx
theorem top_in (h : isPlanM p = true) (j : Jn p l.a l.b) : l.a ∈ arc p.1 l.a l.b := by
  have ne := j.ne h
  exact (mem_arc (by omega) (by omega) (by omega)).mpr ⟨by omega, by omega, .inl rfl⟩
/-- where the even stack of a turn begins -/
def begJ (p : Plan) (l : T3) (k : Int) : Int := startP p l + k * (stepP p l.a l.b).1
theorem start_eq (h : isPlanM p = true) (j : Jn p l.a l.b) : startP p l = l.c * p.1 + (((ordM p).idxOf l.a : Nat) : Int) - psn (ordM p) (frM (ordM p) (arc p.1 l.a l.b)) l.a := by
  have S := stre_P h j
  have z : look (behP p l.a l.b).l l.a = some _ := S.look (arc_in h j _ (top_in h j))
  unfold startP
  rw [z]; rfl
theorem step_cases (p : Plan) (t u : Int) : (upM p t u = true ∧ stepP p t u = (p.1, 0)) ∨ (upM p t u = false ∧ stepP p t u = (-p.1, -p.1)) := by
  unfold stepP
  cases upM p t u
  · exact .inr ⟨rfl, by rw [if_neg (by decide)]⟩
  · exact .inl ⟨rfl, by rw [if_pos rfl]⟩
theorem dvd_self_emod {x n : Int} : n ∣ x - x % n := ⟨x / n, by have := Int.emod_add_mul_ediv x n; omega⟩
theorem beg_mod (h : isPlanM p = true) (j : Jn p l.a l.b) (k : Int) : (begJ p l k - frM (ordM p) (arc p.1 l.a l.b)) % (ordM p).length = 0 := by
  have hol := ord_len h
  unfold begJ
  rw [start_eq h j, hol]
  have d1 : p.1 ∣ ((((ordM p).idxOf l.a : Nat) : Int) - frM (ordM p) (arc p.1 l.a l.b)) - psn (ordM p) (frM (ordM p) (arc p.1 l.a l.b)) l.a := by unfold psn; rw [hol]; exact dvd_self_emod
  have d2 : p.1 ∣ l.c * p.1 := Int.dvd_mul_left _ _
  have d3 : p.1 ∣ k * (stepP p l.a l.b).1 := by
    rcases step_cases p l.a l.b with ⟨_, e⟩ | ⟨_, e⟩ <;> rw [e]
    · exact Int.dvd_mul_left _ _
    · rw [Int.mul_neg]; exact Int.dvd_neg.mpr (Int.dvd_mul_left _ _)
  refine Int.emod_eq_zero_of_dvd ?_
  have := Int.dvd_add (Int.dvd_add d1 d2) d3
  have e : ∀ a b c d f : Int, a + b - c + d - f = b - f - c + a + d := fun a b c d f => by omega
  rw [e]; exact this
/-- the law's own third of a turn, and where its top leaf is -/
theorem here_eq (h : isPlanM p = true) (j : Jn p l.a l.b) {k : Int} (hk : 0 ≤ k ∧ k ≤ 2) :
    (((ordM p).idxOf l.a : Nat) : Int) + (l.c + (if upM p l.a l.b = true then k else 3 - k)) % 3 * p.1 = (begJ p l k + psn (ordM p) (frM (ordM p) (arc p.1 l.a l.b)) l.a) % (3 * (ordM p).length) := by
  have hol := ord_len h
  have h3 := (plan_facts h).1
  have hi := idx_lt (arc_in h j _ (top_in h j))
  unfold begJ
  rw [start_eq h j, hol]
  generalize psn (ordM p) (frM (ordM p) (arc p.1 l.a l.b)) l.a = z
  have hn : (0 : Int) ≤ (((ordM p).idxOf l.a : Nat) : Int) := by omega
  rw [hol] at hi
  generalize (((ordM p).idxOf l.a : Nat) : Int) = i at *
  have e0 : ∀ x : Int, i + x % 3 * p.1 = (i + x * p.1) % (3 * p.1) := fun x => by
    rw [← third_n]
    have h1 := Int.emod_nonneg x (show (3 : Int) ≠ 0 by decide)
    have h2 := Int.emod_lt_of_pos x (show (0 : Int) < 3 by decide)
    have c : x % 3 = 0 ∨ x % 3 = 1 ∨ x % 3 = 2 := by omega
    refine (Int.emod_eq_of_lt ?_ ?_).symm <;> rcases c with c | c | c <;> rw [c] <;> omega
  rw [e0]
  rcases step_cases p l.a l.b with ⟨e1, e2⟩ | ⟨e1, e2⟩
  · rw [e1, e2, if_pos rfl, Int.add_mul]
    congr 1
    show _ = l.c * p.1 + i - z + k * p.1 + z
    omega
  · rw [e1, e2, if_neg (by decide)]
    show _ = (l.c * p.1 + i - z + k * (-p.1) + z) % (3 * p.1)
    have e3 : i + (l.c + (3 - k)) * p.1 = (l.c * p.1 + i - z + k * (-p.1) + z) + 3 * p.1 * 1 := by
      rw [Int.add_mul, Int.sub_mul, Int.mul_neg]; omega
    rw [e3, Int.add_mul_emod_self_left]
/-- what the law finds at a turn -/
theorem heaps_eq (p : Plan) (l : T3) : heapsM p l = (rng 0 3).flatMap fun k => [copM (arc p.1 l.a l.b) (behP p l.a l.b) (begJ p l k), copM (oddM p.1 l.a l.b) (behP p l.a l.b) (begJ p l k + (stepP p l.a l.b).2)] := by
  have e : rng 0 3 = [0, 1, 2] := by decide +kernel
  rw [e]
  unfold heapsM begP begJ
  simp only [List.flatMap_cons, List.flatMap_nil, Int.zero_mul, Int.one_mul, Int.add_zero]
  rfl
end
/-- a list without repeats whose items another one has, which is no longer -/
theorem perm_of_sub : ∀ {xs ys : List Int}, xs.Nodup → (∀ x ∈ xs, x ∈ ys) → ys.length ≤ xs.length → xs.Perm ys
  | [], ys, _, _, hl => by
    have e : ys = [] := List.length_eq_zero_iff.mp (by simpa using hl)
    rw [e]
  | x :: xs, ys, nd, hs, hl => by
    have hx := hs x List.mem_cons_self
    have p1 := List.perm_cons_erase hx
    obtain ⟨nx, nd'⟩ := List.nodup_cons.mp nd
    have ih := perm_of_sub (xs := xs) (ys := ys.erase x) nd' (fun y hy => by
      have ne : y ≠ x := fun z => nx (z ▸ hy)
      exact (List.mem_erase_of_ne ne).mpr (hs y (List.mem_cons_of_mem _ hy))) (by rw [List.length_erase_of_mem hx]; simp at hl; omega)
    exact (ih.cons x).trans p1.symm
theorem heaps_perm {p : Plan} (h : isPlanM p = true) {l : T3} (j : Jn p l.a l.b) : (rng 0 (3 * p.1)).Perm (heapsM p l).flatten := by
  have S := stre_P h j
  have ne := j.ne h
  have h3 := (plan_facts h).1
  have hol := ord_len h
  have m0 := S.m0; have m1 := S.m1
  refine perm_of_sub (rng_nodup _ _) (fun z hz => ?_) ?_
  · have hz := rng_mem.mp hz
    -- how far behind the start
    have d0 := Int.emod_nonneg (z - startP p l) (show 3 * p.1 ≠ 0 by omega)
    have d1 := Int.emod_lt_of_pos (z - startP p l) (show 0 < 3 * p.1 by omega)
    have zd : (startP p l + (z - startP p l) % (3 * p.1)) % (3 * p.1) = z := by rw [mod_add, show startP p l + (z - startP p l) = z by omega, Int.emod_eq_of_lt hz.1 hz.2]
    generalize (z - startP p l) % (3 * p.1) = d at *
    obtain ⟨k, s, hk, hs0, hs1, hd⟩ : ∃ k s : Int, (k = 0 ∨ k = 1 ∨ k = 2) ∧ 0 ≤ s ∧ s < p.1 ∧ d = k * p.1 + s := by
      by_cases c1 : d < p.1
      · exact ⟨0, d, .inl rfl, d0, c1, by omega⟩
      · by_cases c2 : d < 2 * p.1
        · exact ⟨1, d - p.1, .inr (.inl rfl), by omega, by omega, by omega⟩
        · exact ⟨2, d - 2 * p.1, .inr (.inr rfl), by omega, by omega, by omega⟩
    have hx : ix (ordM p) ((frM (ordM p) (arc p.1 l.a l.b) + s) % (ordM p).length) ∈ ordM p := ix_mem (Int.emod_nonneg _ (by omega)) (Int.emod_lt_of_pos _ (by omega))
    have hps := S.psn_at hs0 (by omega)
    have hin := S.mem s hs0 (by omega)
    have hot := arc_not h j _ hx
    generalize ix (ordM p) ((frM (ordM p) (arc p.1 l.a l.b) + s) % (ordM p).length) = x at *
    -- a list of which z is a copy
    have even : ∀ b, (b + s) % (3 * p.1) = z → s < (l.b - l.a) % p.1 → z ∈ copM (arc p.1 l.a l.b) (behP p l.a l.b) b := fun b e c => by
      rw [cop_eq h j (arc_in h j)]
      exact List.mem_map.mpr ⟨x, hin.mpr c, by rw [hps, hol]; exact e⟩
    have odd : ∀ b, (b + s) % (3 * p.1) = z → ¬ s < (l.b - l.a) % p.1 → z ∈ copM (oddM p.1 l.a l.b) (behP p l.a l.b) b := fun b e c => by
      rw [cop_eq h j (odd_in h j)]
      exact List.mem_map.mpr ⟨x, hot.mpr (fun q => c (hin.mp q)), by rw [hps, hol]; exact e⟩
    have up : ∀ b, b + s = startP p l + d → (b + s) % (3 * p.1) = z := fun b e => by rw [e]; exact zd
    have dn : ∀ b, b + s + 3 * p.1 = startP p l + d → (b + s) % (3 * p.1) = z := fun b e => by rw [← zd, ← e, Int.add_emod_right]
    have eq := heaps_eq p l
    have e3 : rng 0 3 = [0, 1, 2] := by decide +kernel
    rw [e3] at eq
    unfold begJ at eq
    simp only [List.flatMap_cons, List.flatMap_nil, Int.zero_mul, Int.one_mul, Int.add_zero, List.append_nil, List.cons_append, List.nil_append] at eq
    rw [eq]
    simp only [List.flatten_cons, List.flatten_nil, List.mem_append, List.append_nil]
    rcases step_cases p l.a l.b with ⟨_, e2⟩ | ⟨_, e2⟩
    · rw [e2]
      by_cases c : s < (l.b - l.a) % p.1
      · rcases hk with rfl | rfl | rfl
        · exact .inl (even _ (up _ (by omega)) c)
        · exact .inr (.inr (.inl (even _ (up _ (by show startP p l + p.1 + s = _; omega)) c)))
        · exact .inr (.inr (.inr (.inr (.inl (even _ (up _ (by show startP p l + 2 * p.1 + s = _; omega)) c)))))
      · rcases hk with rfl | rfl | rfl
        · exact .inr (.inl (odd _ (up _ (by show startP p l + 0 + s = _; omega)) c))
        · exact .inr (.inr (.inr (.inl (odd _ (up _ (by show startP p l + p.1 + 0 + s = _; omega)) c))))
        · exact .inr (.inr (.inr (.inr (.inr (odd _ (up _ (by show startP p l + 2 * p.1 + 0 + s = _; omega)) c)))))
    · rw [e2]
      by_cases c : s < (l.b - l.a) % p.1
      · rcases hk with rfl | rfl | rfl
        · exact .inl (even _ (up _ (by omega)) c)
        · exact .inr (.inr (.inr (.inr (.inl (even _ (dn _ (by show startP p l + 2 * (-p.1) + s + _ = _; omega)) c)))))
        · exact .inr (.inr (.inl (even _ (dn _ (by show startP p l + (-p.1) + s + _ = _; omega)) c)))
      · rcases hk with rfl | rfl | rfl
        · exact .inr (.inr (.inr (.inr (.inr (odd _ (dn _ (by show startP p l + 2 * (-p.1) + (-p.1) + s + _ = _; omega)) c)))))
        · exact .inr (.inr (.inr (.inl (odd _ (dn _ (by show startP p l + (-p.1) + (-p.1) + s + _ = _; omega)) c))))
        · exact .inr (.inl (odd _ (dn _ (by show startP p l + (-p.1) + s + _ = _; omega)) c))
  · have w1 := arc_w (n := p.1) (s := l.a) (e := l.b) (by omega) (by omega)
    have w2 := arc_w (n := p.1) (s := l.b) (e := l.a) (by omega) (by omega)
    have la : (arc p.1 l.a l.b).length = ((l.b - l.a) % p.1).toNat := arc_len
    have lo : (oddM p.1 l.a l.b).length = ((l.a - l.b) % p.1).toNat := by rw [odd_eq (by omega) (by omega) (by omega), List.length_reverse, arc_len]
    unfold heapsM begP twoP copM
    simp only [List.flatMap_cons, List.flatMap_nil, List.flatten_append, List.flatten_cons, List.flatten_nil, List.length_append, List.length_map, List.append_nil, List.length_nil, rng_len]
    rw [la, lo, w1, w2]
    split <;> split <;> omega
end Pf

namespace Pf
open PySem PySem.Spec PyProof.Rows L2 LamX
/-! ### a kept lambda handed to a def by a name -/
section
variable {X : Cx}
theorem act_kept {pins : List (Addr × Obj)} {σ0 : L2.St} {H0 : Hp} {s0 : Shared} {Mg : List Str} {nm ar : Str} {zg : Scope} {gf lf : Addr} {kg : Value} {m : LamP} {d j : Nat}
    {qn : List (Addr × Obj)} {xq : Value → Shared → Prop} {W : WX} {t : XK → TE} {w1 w2 : Pos} (J : Inv X pins σ0 H0 s0) (LS : LamS X.env.scope m.sc)
    (hbi : ∀ (q : Str) (cl : List (Str × Addr)) (y1 y2 y3 : Value), bindArgs (PySem.W.kla_fn "<lambda>" q m.ps m.bd m.sc cl y1 y2 y3) ⟨[], []⟩ = pure [])
    (tk : Takes ((gX X Mg nm zg gf kg s0 H0).tr qn xq) W) (hro : Room (d + 1) (X.A.deeper (envOfC nm zg s0.heap.objs.size gf kg)))
    (hbo : ∀ (A1 : Around) (out1 : List Env) (s1 : Shared) (H1 : Hp) (E1 : XK) (lf lc : Addr), Room d (A1.deeper (lamEnv X m.sc s1.heap.objs.size lf lc)) → PE (lamCx X A1 out1 s1 H1 E1 m.sc lf lc) m.bd (t E1))
    (hN : Mg[j]? = some ar) (hV : Vis zg ar) (h1 : (ar == ("__debug__" : Str)) = false) (h2 : (ar == ("__classdict__" : Str)) = false) :
    PE ((gX X Mg nm zg gf kg s0 H0).tr qn xq) (.Call (.Name ar w1) [] [] w2) (fun τ HZ Q => τ[j]? = some (some (.ref lf)) ∧ IsLam X.env m lf HZ ∧ t (WE W τ) σ0 HZ Q) := by
  refine ⟨fun pz sz τ HZ Q IZ hyp => ?_⟩
  obtain ⟨ha, ⟨lc, y1, y2, hb, hf⟩, hc⟩ := hyp
  have vr := (pe_var (pos := w1) (i := j) hN hV h1 h2).run pz sz τ HZ (fun v K1 => v = .ref lf ∧ K1 = HZ) IZ ⟨.ref lf, ha, rfl, rfl⟩
  refine wpAny_Call_Name_kw (thn vr fun u sa hx => ?_)
  obtain ⟨v, K1, I1, rv, rfl, rfl⟩ := hx
  cases (show u = Value.ref lf from rv)
  obtain ⟨oa, _, _⟩ := I1.hok lf _ hf
  refine PySem.W.callWith_F0 ⟨_, _, _, _, oa⟩ ?_
  have un : Un (frs X.stack) [] H0 K1 s0.heap sa.heap := I1.base
  obtain ⟨⟨ob, us, tt, e1, e2, e3⟩, _, _⟩ := I1.hok lc _ hb
  have main : codeAny (model X.prog X.w) (X.A.deeper (envOfC nm zg s0.heap.objs.size gf kg)) (.call (.ref lf) ⟨[], []⟩)
      (CR (L2.CX X.prog X.w) (envOfC nm zg s0.heap.objs.size gf kg :: X.stack) X.prog X.w K1 sa Q (WE W τ)) sa := by
    refine PySem.W.kla_callFunE hro.depth oa rfl LS.co LS.gen rfl ⟨lc, ob, us, tt, rfl, e1, e2, e3⟩ ?_
    rw [hbi]
    refine wpAny_pure ?_
    refine wpAny_newFunctionEnv (fun y hy => (LS.own y hy).2) (fun y hy => absurd hy (by simp)) (fun hn nsn bn => ⟨I1.nolimit.fresh _ bn, ?_⟩) LS.kind
    show codeAny _ _ (.expr m.bd (lamEnv X m.sc sa.heap.objs.size lf lc)) _ _
    have kp : ∀ b o, sa.heap.get? b = some o → hn.get? b = some o := fun b o q => bn.extBut b o (Nat.ne_of_lt (Heap.lt_size q)) (Heap.get?_push_of_some _ q)
    have JJ := lam_start2 (E := WE W τ) (tk := sa.toks + ([] : List (Str × Value)).length) (f := lf) (c' := lc) (scope := m.sc) J LS I1.env0 hro.hd un nsn kp
    refine PySem.W.kla_codeExpr ?_
    refine wpAny_mono ((hbo _ _ sa K1 (WE W τ) lf lc (hro.deeper _)).run [] _ _ K1 Q JJ hc) (fun v s' hq => ?_) fun e s' hq => hq
    obtain ⟨w', H', J', rv, q⟩ := hq
    exact ⟨w', H', J'.os, J'.bare, J'.base, J'.hok, rv, q⟩
  refine wpAny_call (codeAny_mono main fun r s' hq => ?_)
  match r, hq with
  | .error e, hq => exact passAt tk τ pz K1 sa e s' I1 hq
  | .ok (.ret u), hq => exact I1.after hq
  | .ok .next, hq => exact False.elim hq
  | .ok .brk, hq => exact False.elim hq
  | .ok .cont, hq => exact False.elim hq
def GivesK (X : Cx) (Mg : List Str) (nm : Str) (zg : Scope) (gf : Addr) (kg : Value) (bg : List Stmt) (ar : Str) (RR : (XK → Hp → VK → Prop) → Hp → VK → Prop) : Prop :=
  ∀ (lf : Addr) (m : LamP) (s0 : Shared) (H0 : Hp) (Q : VK) (tl : XK → Hp → VK → Prop),
    (∀ (W : WX) (qn : List (Addr × Obj)) (xq : Value → Shared → Prop) (w1 w2 : Pos), Takes ((gX X Mg nm zg gf kg s0 H0).tr qn xq) W →
      PE ((gX X Mg nm zg gf kg s0 H0).tr qn xq) (.Call (.Name ar w1) [] [] w2) (fun τ HZ Q => τ[0]? = some (some (.ref lf)) ∧ IsLam X.env m lf HZ ∧ tl (WE W τ) HZ Q)) →
    IsLam X.env m lf H0 → RR tl H0 Q →
    ∃ t, PSs (gX X Mg nm zg gf kg s0 H0).nox bg t ∧ t { nx := fun _ H' => Q .non H', rt := Q } (L2.start Mg [.ref lf]) H0
theorem pe_lamv {RR : (XK → Hp → VK → Prop) → Hp → VK → Prop} {nm ar ay : Str} {gf : Addr} {d j : Nat} {ag : Arguments} {bg : List Stmt} {zg : Scope} {b1 b2 b3 b4 kg b5 b6 : Value} {b7 b8 : Option Addr} {b9 : Array (Option Value)} {Mg : List Str}
    {es : List Expr} {ts : List (XK → TE)} {w1 w2 w3 : Pos} (hg : Gl X nm) (hm : X.mg nm = some (.ref gf)) (hk : PySem.W.keepIn X.K (.ref gf) = true)
    (lk : X.K.lookup gf = some ⟨b6, b8, .func (PySem.W.fnOf nm nm ag bg zg b1 b2 b3 b4 b7 kg b5), b9⟩) (hcg : PySem.W.codeIn X.K kg nm = true) (hb : L2.Binds X.K (PySem.W.fnOf nm nm ag bg zg b1 b2 b3 b4 b7 kg b5) [ar] [])
    (Sg : FnScope Mg [ar] zg) (hN : Mg[0]? = some ar) (hV : Vis zg ar) (hG : GivesK X Mg nm zg gf kg bg ar RR) (hro : Room (d + 2) X.A) (ok : ActsOk X d es ts)
    (hY : X.N[j]? = some ay) (hYV : Vis X.env.scope ay)
    (h0 : (nm == ("__debug__" : Str)) = false := by decide) (h1 : (ar == ("__debug__" : Str)) = false := by decide) (h2 : (ar == ("__classdict__" : Str)) = false := by decide) (h3 : (ay == ("__debug__" : Str)) = false := by decide) (h4 : (ay == ("__classdict__" : Str)) = false := by decide) :
    PE X (.Call (.Name nm w1) [.Name ay w2] [] w3) (fun σ H Q => ∃ (k : Nat) (m : LamP) (t : XK → TE), (es.map lamP)[k]? = some m ∧ ts[k]? = some t ∧ ∃ lf, σ[j]? = some (some (.ref lf)) ∧ IsLam X.env m lf H ∧ RR (fun E H' Q' => t E σ H' Q') H Q) := by
  refine ⟨fun pins s σ H Q I hyp => ?_⟩
  obtain ⟨k, m, t, z1, z2, lf, z3, z4, hyp⟩ := hyp
  obtain ⟨LS, hbi, hbo⟩ := acts_at ok z1 z2
  refine wpAny_Call_Name_kw (ld_glob I hg hm ?_ h0)
  refine PySem.W.callWith_K (h₀ := X.base) I.ok.mod.kin hk ?_ (by rfl) (by rfl)
  show wpAny _ _ (spliced ((false, eval (.Name ay w2) X.env) :: backTo w3 (starEach [] X.env))) _ _ s
  refine Calls.spliced_cons (thn ((pe_var (pos := w2) (i := j) hY hYV h3 h4).run pins s σ H (fun v K1 => v = .ref lf ∧ K1 = H) I ⟨.ref lf, z3, rfl, rfl⟩) fun u s' hx => ?_)
  obtain ⟨v, H1, I1, rv, rfl, rfl⟩ := hx
  cases (show u = Value.ref lf from rv)
  refine Calls.spliced_nil ⟨I1.kIn, ?_⟩
  have main : codeAny (model X.prog X.w) X.A (.call (.ref gf) ⟨[.ref lf], []⟩) (CR C8.CX0 X.stack X.prog X.w H1 s' Q C8.E0) s' := by
    refine run_ofS (N := Mg) (ps := [ar]) (us := [.ref lf]) (vs := [.ref lf]) lk hcg Sg hro I1.env0 (hb s' [.ref lf] I1.kIn rfl) (.cons rfl .nil) rfl fun hr' => ?_
    obtain ⟨t', ht', hq'⟩ := hG lf m s' H1 Q (fun E H' Q' => t E σ H' Q') (fun W qn xq p1 p2 tk => act_kept (j := 0) I1 LS hbi tk hr' hbo hN hV h1 h2) z4 hyp
    exact ⟨t', ht'.nox, hq'⟩
  refine wpAny_call (codeAny_mono main fun r s2 hq => ?_)
  match r, hq with
  | .error e, hq => exact (show False from hq).elim
  | .ok (.ret u), hq => exact I1.after hq
  | .ok .next, hq => exact False.elim hq
  | .ok .brk, hq => exact False.elim hq
  | .ok .cont, hq => exact False.elim hq
end
/-! ### places that are none -/
def spBQ (n : Nat) (C : Addr) : Sp := fun vs H _ E => ∃ (v v2 : V) (rest : List V) (p : Plan) (s : Int × Int) (G : Hp), vs = v :: v2 :: rest ∧ rest.length = n ∧ Same G H ∧ rep G v p ∧ rep G v2 s ∧ isPlanM p = true ∧ ¬ Jn p s.1 s.2 ∧ ∀ G' H', Gr M0 G H G' H' → E (.ref C) none H'
def spBM (C : Addr) : Sp := fun vs H _ E => ∃ (v v2 : V) (p : Plan) (l : Tri Int Int Int) (G : Hp), vs = [v, v2] ∧ Same G H ∧ rep G v p ∧ rep G v2 l ∧ isPlanM p = true ∧ ¬ Jn p l.a l.b ∧ ∀ G' H', Gr M0 G H G' H' → E (.ref C) none H'
section
variable {α : Type} [Rep α] {σ : L2.St} {G H : Hp} {te ta tb : TE} {tr : TA} {W : WX} {Q : VK}
theorem bq_call {n : Nat} {C : Addr} {p : Plan} {s : Int × Int} (ha : Ev ta σ G p) (hb : Ev tb σ G s) (hr : EvV tr n σ G) (i : Same G H) (hp : isPlanM p = true) (hn : ¬ Jn p s.1 s.2) (k : ∀ G' H', Gr M0 G H G' H' → W (.ref C) none σ H') : tCallS (spBQ n C) (WE W) (tCons ta (tCons tb tr)) σ H Q :=
  ha H i _ fun v G1 H1 g1 r1 => (hb.mono g1.g) H1 g1.i _ fun v2 G2 H2 g2 r2 => (hr.mono (g1.g.trans g2.g)) H2 g2.i _ fun vs G3 H3 g3 hl => ⟨v, v2, vs, p, s, G3, rfl, hl, g3.i, Rep.mono (g2.g.trans g3.g) r1, Rep.mono g3.g r2, hp, hn, fun G' H' g => k G' H' (((g1.trans g2).trans g3).trans g)⟩
theorem bm_call {C : Addr} {p : Plan} {l : Tri Int Int Int} (ha : Ev ta σ G p) (hr : Ev tb σ G l) (s : Same G H) (hp : isPlanM p = true) (hn : ¬ Jn p l.a l.b) (k : ∀ G' H', Gr M0 G H G' H' → W (.ref C) none σ H') : tCallS (spBM C) (WE W) (tCons ta (tCons tb tNil)) σ H Q :=
  ha H s _ fun v G1 H1 g1 r1 => (hr.mono g1.g) H1 g1.i _ fun v2 G2 H2 g2 r2 => ⟨v, v2, p, l, G2, rfl, g2.i, Rep.mono g2.g r1, r2, hp, hn, fun G' H' g => k G' H' ((g1.trans g2).trans g)⟩
/-- a pair and one more -/
theorem ev_cat21 {K : Fg} {s : Int × Int} {n : Int} (ha : Ev ta σ G s) (hb : Ev tb σ G (Tup.mk [n])) : Ev (tOp (rCatA K) ta tb) σ G (Tri.mk s.1 s.2 n) :=
  ev2 ha hb fun v u G' _ k1 k2 H i Q q => by
    obtain ⟨a, u1, u2, rfl, h2, h3, h4⟩ := k1
    obtain ⟨b, us, rfl, h5, h6⟩ := k2
    obtain ⟨w, rfl⟩ : ∃ w, us = [w] := by
      cases h6 with
      | cons r t => cases t; exact ⟨_, rfl⟩
    cases h6 with
    | cons r t =>
      have gn1 : ∀ {p : Addr}, H p = none → Gr M0 G' H (upd G' p (.tup [u1, u2, w])) (upd H p (.tup [u1, u2, w])) := fun np => gr_new i np
      refine ⟨a, b, [u1, u2], [w], rfl, rfl, .inl (.inl (i _ _ h2)), .inl (.inl (i _ _ h5)), (show 3 ≤ sizeLine by decide), (fun e => nomatch e), (fun _ e => nomatch e), fun _ _ p np => ?_⟩
      exact q _ (upd G' p (.tup [u1, u2, w])) _ (gn1 np) ⟨p, u1, u2, w, rfl, upd_same, Rep.mono (gn1 np).g h3, Rep.mono (gn1 np).g h4, Rep.mono (gn1 np).g r⟩
end
section
variable {α β : Type} [Rep α] [Rep β] {σ : L2.St} {G H : Hp} {te : TE} {g : TG}
theorem st_ifAllT1 {K : Fg} {wi : TI} {vs : List Nat} {xs : List α} {PT : Addr} {q : Str} {ts u : TS} {D : Ends} (hx : EvI wi σ G xs) (s : Same G H) (tb : TbAt G H PT q) (hl : xs.length ≤ 100000)
    (hb : ∀ x ∈ xs, ∀ v G1, Same G G1 → rep G1 v x → GB g v (wipe σ vs) G1 fun σ2 => wipe σ2 vs = wipe σ vs ∧ ∀ H Q', Same G1 H → TbAt G1 H PT q → (∀ v' G' H', Gr (Mp PT) G1 H G' H' → TbAt G' H' PT q → rep G' v' true → Q' v' H') → te σ2 H Q')
    (k : ∀ G' H', Gr (Mp PT) G H G' H' → TbAt G' H' PT q → u D σ H') : tSeq (tIfS (tNot (tB (tCB (rAll K) (tCons (tLc wi g tYes te vs) tNil)))) ts tNext) u D σ H := st_ifAllT (D := { D with nx := u D }) hx s tb hl hb k
theorem st_ifNeT {K : Fg} [Dat β] {tb2 : TE} {f : α → β} {wi : TI} {vs : List Nat} {xs : List α} {PT : Addr} {q : Str} {ts : TS} {D : Ends} (hx : EvI wi σ G xs) (s : Same G H) (tb : TbAt G H PT q) (hl : xs.length ≤ 100000)
    (hb : ∀ x ∈ xs, ∀ v G1, Same G G1 → rep G1 v x → GB g v (wipe σ vs) G1 fun σ2 => wipe σ2 vs = wipe σ vs ∧ ∀ H Q', Same G1 H → TbAt G1 H PT q → (∀ v' G' H', Gr (Mp PT) G1 H G' H' → TbAt G' H' PT q → rep G' v' (f x) → Q' v' H') → te σ2 H Q')
    (hy : ∀ G', Same G G' → Ev tb2 σ G' (xs.map f)) (hs : SeqAt.shaped (dat (xs.map f)) = true) (he : PyData.eqv (dat (xs.map f)) (dat (xs.map f)) = true)
    (k : ∀ G' H', Gr (Mp PT) G H G' H' → TbAt G' H' PT q → D.nx σ H') : tIfS (tTest (tOp (rNeD K) (tLc wi g tYes te vs) tb2)) ts tNext D σ H := by
  refine lc_tab (f := f) (Q := fun x H1 => tb2 σ H1 fun y H2 => rNeD K x y H2 fun z H3 => ∃ c, z = .bl c ∧ (if c = true then ts D σ H3 else tNext D σ H3)) hx s tb hl hb (fun v G' H' g' tb' rv => ?_)
  refine (hy G' g'.g) H' g'.i _ (fun u G2 H2 g2 ru => ?_)
  refine ⟨dat (xs.map f), dat (xs.map f), rd_dp g2.i _ _ (Dat.rd (Rep.mono g2.g rv)), rd_dp g2.i _ _ (Dat.rd ru), hs, hs, _, rfl, ?_⟩
  rw [he]
  exact k G2 H2 (g'.transP g2.wk (tb'.step0 g2)) (tb'.step0 g2)
/-- [x] * n -/
theorem ev_repL {ta tb : TE} {xs : List α} {n : Int} (ha : Ev ta σ G xs) (hb : Ev tb σ G n) (h0 : 0 ≤ n) (hm : n < 2 ^ 63) (hl : xs.length * n.toNat ≤ 100000) : Ev (tOp rRep ta tb) σ G (List.replicate n.toNat xs).flatten :=
  ev2 ha hb fun v u G' _ k1 k2 H i Q q => by
    obtain ⟨a, vs, rfl, h2, h3⟩ := k1
    cases k2
    have pf : ∀ m : Nat, Paired (rep G') (List.replicate m vs).flatten (List.replicate m xs).flatten := fun m => by
      induction m with
      | zero => exact .nil
      | succ m ih => rw [List.replicate_succ, List.replicate_succ, List.flatten_cons, List.flatten_cons]; exact paired_app h3 ih
    by_cases hn : n < 2 ^ 63
    · exact ⟨a, n, vs, rfl, rfl, i _ _ h2, by omega, hn, by rw [paired_len h3]; exact sl_small hl, fun p np => q _ (upd G' p (.lst (List.replicate n.toNat vs).flatten)) _ (gr_new i np) ⟨p, _, rfl, upd_same, paired_mono (gr_new (o := .lst (List.replicate n.toNat vs).flatten) i np).g (pf n.toNat)⟩⟩
    · exact absurd hm hn
end
end Pf

namespace Pf
open PySem PySem.Spec PyProof.Rows L2
/-! ### what a def tells is new where it was handed tuples alone -/
def tupO (G : Hp) : Hp := fun a => match G a with
  | some (.tup vs) => some (.tup vs)
  | _ => none
theorem tupO_of {G : Hp} {a : Addr} {vs : List V} (e : G a = some (.tup vs)) : tupO G a = some (.tup vs) := by unfold tupO; rw [e]
theorem tupO_c {G : Hp} {a : Addr} {o : HO} (e : tupO G a = some o) : G a = some o ∧ ∃ vs, o = .tup vs := by
  unfold tupO at e
  cases q : G a with
  | none => rw [q] at e; cases e
  | some u =>
    rw [q] at e
    cases u with
    | tup vs => cases e; exact ⟨rfl, vs, rfl⟩
    | _ => cases e
theorem tupO_same {G : Hp} : Same (tupO G) G := fun a o e => (tupO_c e).1
class TRep (α : Type) [Rep α] : Prop where
  t : ∀ {G : Hp} {v : V} {x : α}, rep G v x → rep (tupO G) v x
instance : TRep Int := ⟨fun h => h⟩
instance : TRep Bool := ⟨fun h => h⟩
instance : TRep Str := ⟨fun h => h⟩
instance {α β : Type} [Rep α] [Rep β] [TRep α] [TRep β] : TRep (α × β) := ⟨fun ⟨a, u, w, h1, h2, h3, h4⟩ => ⟨a, u, w, h1, tupO_of h2, TRep.t h3, TRep.t h4⟩⟩
instance {α β γ : Type} [Rep α] [Rep β] [Rep γ] [TRep α] [TRep β] [TRep γ] : TRep (Tri α β γ) := ⟨fun ⟨a, u, w, z, h1, h2, h3, h4, h5⟩ => ⟨a, u, w, z, h1, tupO_of h2, TRep.t h3, TRep.t h4, TRep.t h5⟩⟩
theorem paired_t {α : Type} [Rep α] [TRep α] {G : Hp} {vs : List V} {xs : List α} (h : Paired (rep G) vs xs) : Paired (rep (tupO G)) vs xs := Paired.mapP h fun _ _ r => TRep.t r
instance {α : Type} [Rep α] [TRep α] : TRep (Tup α) := ⟨fun ⟨a, vs, h1, h2, h3⟩ => ⟨a, vs, h1, tupO_of h2, paired_t h3⟩⟩
theorem fresh_lst {G H G' H' : Hp} {p : Addr} {vs : List V} (g : Gr M0 (tupO G) H G' H') (e : G' p = some (.lst vs)) : H p = none := by
  rcases g.n p _ e with z | ⟨z | ⟨us, h, _⟩, _⟩
  · obtain ⟨_, us, h⟩ := tupO_c z; cases h
  · exact z
  · cases h
theorem Gr.sm {G H H' : Hp} (i : Same G H) (s : Same H H') : Gr M0 G H G H' := ⟨Same.refl G, i.trans s, SB.of s, fun _ _ e => .inl e⟩
theorem not_in {G H : Hp} {p : Addr} (s : Same G H) (n : H p = none) : G p = none := by
  cases e : G p with
  | none => rfl
  | some o => rw [s _ _ e] at n; cases n
theorem Bag.sm {G H H' : Hp} {b : Addr} (x : Bag G H b) (i : Same G H) (s : Same H H') : Bag G H' b := x.step0 (Gr.sm i s)
theorem Bag.nn {G H : Hp} {b p : Addr} (x : Bag G H b) (n : H p = none) : b ≠ p := fun z => by
  obtain ⟨_, _, _, _, _, _, e, _⟩ := x
  rw [z, n] at e; cases e

section
variable {α : Type} [Rep α] {σ : L2.St} {G H : Hp} {te : TE} {x : α} {K : Fg} {D : Ends} {u : TS}
theorem at_itemL {i : Nat} {p0 : Addr} {vs : List V} {n : Nat} {v : V} (hv : σ[i]? = some (some (.ref p0))) (h0 : H p0 = some (.lst vs)) (hn : vs[n]? = some v) : ∀ Q : VK, Q v H → tOp (rIxL K) (tVar i) (tC (.int n)) σ H Q := fun Q q =>
  ⟨.ref p0, hv, p0, vs, n, v, rfl, rfl, .inl (.inl h0), atI_nat hn, q⟩
end
end Pf

namespace Pf
open PySem PySem.Spec PyProof.Rows L2
/-! ### in how many ways a row can be folded -/
def wayN (l : List Nat) : Nat → Int → Int → Bool → Int
  | 0, _, _, _ => 0
  | f + 1, s, e, b => if e - s = 1 then (if ix l s = rl b then 1 else 0) else ((rng (s + 1) e).map fun m => wayN l f s m (!b) * wayN l f m e (!b)).sum
def way (l : List Nat) (s e : Int) (b : Bool) : Int := wayN l (e - s).toNat s e b
def foldsM (l : List Nat) : Int := way l 1 l.length false
theorem wayN_fuel (l : List Nat) : ∀ (f g : Nat) {s e : Int} (b : Bool), s < e → (e - s) ≤ f → (e - s) ≤ g → wayN l f s e b = wayN l g s e b
  | 0, _, s, e, b, h, hf, _ => by exfalso; omega
  | _ + 1, 0, s, e, b, h, _, hg => by exfalso; omega
  | f + 1, g + 1, s, e, b, h, hf, hg => by
    unfold wayN
    by_cases h1 : e - s = 1
    · rw [if_pos h1, if_pos h1]
    · rw [if_neg h1, if_neg h1]
      congr 1
      refine List.map_congr_left fun m hm => ?_
      have hm := rng_mem.mp hm
      rw [wayN_fuel l f g (!b) (by omega) (by omega) (by omega), wayN_fuel l f g (!b) (s := m) (by omega) (by omega) (by omega)]
section
variable {l : List Nat} {s e : Int} {b : Bool}
theorem way_one (h : e - s = 1) : way l s e b = if ix l s = rl b then 1 else 0 := by
  unfold way
  have e1 : (e - s).toNat = 0 + 1 := by omega
  rw [e1]
  unfold wayN
  rw [if_pos h]
theorem way_sum (h : 2 ≤ e - s) : way l s e b = ((rng (s + 1) e).map fun m => way l s m (!b) * way l m e (!b)).sum := by
  unfold way
  obtain ⟨f, hf⟩ : ∃ f, (e - s).toNat = f + 1 := ⟨(e - s).toNat - 1, by omega⟩
  rw [hf]
  conv => lhs; unfold wayN
  rw [if_neg (by omega)]
  congr 1
  refine List.map_congr_left fun m hm => ?_
  have hm := rng_mem.mp hm
  rw [wayN_fuel l f (m - s).toNat (!b) (by omega) (by omega) (by omega), wayN_fuel l f (e - m).toNat (!b) (s := m) (by omega) (by omega) (by omega)]
end
theorem sum_nn {α : Type} (f : α → Int) : ∀ (xs : List α), (∀ x ∈ xs, 0 ≤ f x) → 0 ≤ (xs.map f).sum
  | [], _ => by simp
  | x :: xs, h => by
    rw [List.map_cons, List.sum_cons]
    have h1 := h x List.mem_cons_self
    have h2 := sum_nn f xs (fun y hy => h y (List.mem_cons_of_mem _ hy))
    omega
theorem sum_le {α : Type} (f g : α → Int) : ∀ (xs : List α), (∀ x ∈ xs, f x ≤ g x) → (xs.map f).sum ≤ (xs.map g).sum
  | [], _ => by simp
  | x :: xs, h => by
    rw [List.map_cons, List.sum_cons, List.map_cons, List.sum_cons]
    have h1 := h x List.mem_cons_self
    have h2 := sum_le f g xs (fun y hy => h y (List.mem_cons_of_mem _ hy))
    omega
theorem rng_sh1 (s : Int) (n : Int) : rng (s + 1) (s + n) = (rng 1 n).map fun k => s + k := by
  unfold rng
  rw [List.map_map, show (s + n - (s + 1)).toNat = (n - 1).toNat by congr 1; omega]
  refine List.map_congr_left fun k _ => ?_
  show s + 1 + (k : Int) = s + (1 + (k : Int))
  omega
theorem way_nn (l : List Nat) : ∀ (n : Nat) {s e : Int} (b : Bool), s < e → (e - s) ≤ n → 0 ≤ way l s e b
  | 0, s, e, b, h, hn => by exfalso; omega
  | n + 1, s, e, b, h, hn => by
    by_cases h1 : e - s = 1
    · rw [way_one h1]; split <;> decide
    · rw [way_sum (by omega)]
      refine sum_nn _ _ fun m hm => ?_
      have hm := rng_mem.mp hm
      exact Int.mul_nonneg (way_nn l n (!b) (by omega) (by omega)) (way_nn l n (!b) (by omega) (by omega))
theorem way_0 (l : List Nat) {s e : Int} (b : Bool) (h : s < e) : 0 ≤ way l s e b := way_nn l (e - s).toNat b h (by omega)
/-- no more ways than plans -/
def capT : List Int := [0, 1, 1, 2, 5, 14, 42, 132, 429, 1430, 4862, 16796, 58786, 208012, 742900, 2674440, 9694845, 35357670, 129644790, 477638700, 1767263190]
theorem cap_ok : ∀ L : Fin 21, 2 ≤ L.val → ((rng 1 (L.val : Int)).map fun i => ix capT i * ix capT ((L.val : Int) - i)).sum ≤ ix capT (L.val : Int) := by decide +kernel
theorem way_cap (l : List Nat) : ∀ (n : Nat) {s e : Int} (b : Bool), s < e → (e - s) ≤ n → n ≤ 20 → way l s e b ≤ ix capT (e - s)
  | 0, s, e, b, h, hn, _ => by exfalso; omega
  | n + 1, s, e, b, h, hn, h20 => by
    by_cases h1 : e - s = 1
    · rw [way_one h1, h1]; split <;> decide
    · rw [way_sum (by omega)]
      obtain ⟨L, hL⟩ : ∃ L : Nat, e - s = (L : Int) := ⟨(e - s).toNat, by omega⟩
      have key := cap_ok ⟨L, by omega⟩ (by show 2 ≤ L; omega)
      have key : ((rng 1 (L : Int)).map fun i => ix capT i * ix capT ((L : Int) - i)).sum ≤ ix capT (L : Int) := key
      rw [hL]
      refine Int.le_trans ?_ key
      have e1 : e = s + (L : Int) := by omega
      subst e1
      rw [rng_sh1, List.map_map]
      refine sum_le _ _ _ fun i hi => ?_
      have hi := rng_mem.mp hi
      show way l s (s + i) (!b) * way l (s + i) (s + (L : Int)) (!b) ≤ _
      have a1 := way_cap l n (s := s) (e := s + i) (!b) (by omega) (by omega) (by omega)
      have a2 := way_cap l n (s := s + i) (e := s + (L : Int)) (!b) (by omega) (by omega) (by omega)
      rw [show s + i - s = i by omega] at a1
      rw [show s + (L : Int) - (s + i) = (L : Int) - i by omega] at a2
      have b1 := way_0 l (s := s) (e := s + i) (!b) (by omega)
      have b2 := way_0 l (s := s + i) (e := s + (L : Int)) (!b) (by omega)
      exact Int.mul_le_mul a1 a2 b2 (Int.le_trans b1 a1)
theorem cap_lt : ∀ L : Fin 21, ix capT (L.val : Int) < 2 ^ 40 := by decide +kernel
theorem way_small (l : List Nat) {s e : Int} (b : Bool) (h : s < e) (h2 : e - s ≤ 20) : way l s e b < 2 ^ 40 := by
  have a := way_cap l 20 b h (by omega) (by decide)
  have c := cap_lt ⟨(e - s).toNat, by omega⟩
  have c : ix capT (((e - s).toNat : Nat) : Int) < 2 ^ 40 := c
  rw [Int.toNat_of_nonneg (by omega)] at c
  omega
theorem way_mul (l : List Nat) {s m e : Int} (b : Bool) (h1 : s < m) (h2 : m < e) (h3 : e - s ≤ 40) : CMul (way l s m b) (way l m e b) := by
  have a1 := way_0 l b h1
  have a2 := way_0 l b h2
  by_cases c : m - s ≤ 20
  · have := way_small l b h1 c
    exact .inl ⟨by omega, by omega⟩
  · have := way_small l b h2 (by omega)
    exact .inr ⟨by omega, by omega⟩
/-! ### the ways that are known so far -/
def kh (c : Str) : Option Bool := if c = rlS true then some true else if c = rlS false then some false else none
theorem kh_rl (b : Bool) : kh (rlS b) = some b := by cases b <;> decide +kernel
theorem kh_some {c : Str} {b : Bool} (h : kh c = some b) : c = rlS b := by
  unfold kh at h
  by_cases h1 : c = rlS true
  · rw [if_pos h1] at h; cases h; exact h1
  · rw [if_neg h1] at h
    by_cases h2 : c = rlS false
    · rw [if_pos h2] at h; cases h; exact h2
    · rw [if_neg h2] at h; cases h
def hiB (b : Bool) : Nat := if b = true then 0 else 1
abbrev WKey := Tri Int Int Str
def dpM (l : List Nat) (L S : Int) (h : Nat) (k : WKey) : Option Int := match kh k.c with
  | none => none
  | some b => if 1 ≤ k.a ∧ k.b ≤ l.length ∧ 1 ≤ k.b - k.a ∧ (k.b - k.a < L ∨ (k.b - k.a = L ∧ (k.a < S ∨ (k.a = S ∧ hiB b < h)))) then some (way l k.a k.b b) else none
section
variable {l : List Nat} {L S : Int} {h : Nat}
theorem dpM_0 (k : WKey) : dpM l 1 1 0 k = none := by
  unfold dpM
  split
  · rfl
  · rw [if_neg (by omega)]
theorem dpM_at {b : Bool} {s e : Int} (h1 : 1 ≤ s) (h2 : e ≤ l.length) (h3 : s < e) (h4 : e - s < L) : dpM l L S h ⟨s, e, rlS b⟩ = some (way l s e b) := by
  unfold dpM
  show (match kh (rlS b) with | none => none | some b => _) = _
  rw [kh_rl]
  show (if _ then _ else _) = _
  rw [if_pos ⟨h1, h2, by show 1 ≤ e - s; omega, .inl h4⟩]
theorem dpM_put {b : Bool} {x : Int} (hS : 1 ≤ S) (hL : 1 ≤ L) (hn : S + L ≤ l.length) (hx : x = way l S (S + L) b) (k : WKey) : (if k = ⟨S, S + L, rlS b⟩ then some x else dpM l L S (hiB b) k) = dpM l L S (hiB b + 1) k := by
  obtain ⟨a, c, d⟩ := k
  unfold dpM
  cases hk : kh d with
  | none =>
    rw [if_neg]
    · intro z
      have : d = rlS b := congrArg Tri.c z
      rw [this, kh_rl] at hk; cases hk
  | some b' =>
    have hd := kh_some hk
    subst hd
    by_cases z : (⟨a, c, rlS b'⟩ : WKey) = ⟨S, S + L, rlS b⟩
    · have z1 : a = S := congrArg Tri.a z
      have z2 : c = S + L := congrArg Tri.b z
      have z3 : rlS b' = rlS b := congrArg Tri.c z
      have z4 : b' = b := by
        have e1 := kh_rl b'
        rw [z3, kh_rl] at e1
        exact (Option.some.inj e1).symm
      subst z1 z2 z4
      rw [if_pos rfl]
      show some x = if _ then _ else _
      rw [if_pos ⟨hS, hn, by show 1 ≤ a + L - a; omega, .inr ⟨by show a + L - a = L; omega, .inr ⟨rfl, by omega⟩⟩⟩, hx]
    · rw [if_neg z]
      show (if _ then _ else _) = (if _ then _ else _)
      by_cases c1 : 1 ≤ a ∧ c ≤ l.length ∧ 1 ≤ c - a ∧ (c - a < L ∨ (c - a = L ∧ (a < S ∨ (a = S ∧ hiB b' < hiB b))))
      · rw [if_pos c1, if_pos]
        show 1 ≤ a ∧ c ≤ l.length ∧ 1 ≤ c - a ∧ (c - a < L ∨ (c - a = L ∧ (a < S ∨ (a = S ∧ hiB b' < hiB b + 1))))
        omega
      · rw [if_neg c1, if_neg]
        show ¬ (1 ≤ a ∧ c ≤ l.length ∧ 1 ≤ c - a ∧ (c - a < L ∨ (c - a = L ∧ (a < S ∨ (a = S ∧ hiB b' < hiB b + 1)))))
        intro c2
        by_cases e : hiB b' = hiB b
        · have e3 : b' = b := by cases b <;> cases b' <;> first | rfl | (exact absurd e (by decide))
          subst e3
          by_cases e1 : a = S
          · by_cases e2 : c = S + L
            · exact z (by rw [e1, e2])
            · omega
          · omega
        · omega
theorem dpM_2 (k : WKey) : dpM l L S 2 k = dpM l L (S + 1) 0 k := by
  unfold dpM
  split
  · rfl
  · rename_i b _
    have hb : hiB b < 2 := by cases b <;> decide
    congr 1
    refine propext ⟨fun c => ?_, fun c => ?_⟩ <;> omega
theorem dpM_n (k : WKey) : dpM l L (l.length - L + 1) 0 k = dpM l (L + 1) 1 0 k := by
  unfold dpM
  split
  · rfl
  · congr 1
    refine propext ⟨fun c => ?_, fun c => ?_⟩ <;> omega
end
/-! ### the signs of a text, one by one -/
section
variable {σ : L2.St} {G : Hp} {te : TE}
theorem ei_str {z : Str} (h : Ev te σ G z) : EvI (iStr te) σ G (z.cps.toList.map fun c => (⟨#[c]⟩ : Str)) := fun H i R q => h H i _ fun v G' H' g k => by
  cases k
  refine ⟨z, rfl, q _ G' H' g ⟨fun k H s l => ?_, fun k H s l => ?_, fun k H v H' G1 x s1 s2 y e => ?_⟩⟩
  · rw [List.length_map] at l; show k < z.cps.size; simpa using l
  · rw [List.length_map] at l; show z.cps.size ≤ k; simpa using l
  · obtain ⟨rfl, c, hc, rfl⟩ := y
    rw [List.getElem?_map] at e
    have hc2 : z.cps.toList[k]? = some c := by rw [← hc]; simp
    rw [hc2] at e
    cases e
    exact ⟨G1, Gr.refl s2, rfl⟩
theorem ei_rl (h : Ev te σ G ("rl" : Str)) : EvI (iStr te) σ G [rlS true, rlS false] := EvI.cast (ei_str h) (by decide +kernel)
theorem Ev.hflat {α : Type} [Rep α] [Flat α] {G1 H : Hp} {x : α} (h : Ev te σ G1 x) (i1 : Same G1 H) (s : Same G H) : EvH te σ G H x := fun Q q => h.flat i1 s fun v H' g _ r => q v G H' g r
end
end Pf

namespace Pf
open PySem PySem.Spec PyProof.Rows L2
/-! ### ways of a word of hands -/
def sumN (n : Nat) (f : Nat → Int) : Int := ((List.range n).map f).sum
theorem sumN_0 (f : Nat → Int) : sumN 0 f = 0 := rfl
theorem sumN_s (n : Nat) (f : Nat → Int) : sumN (n + 1) f = sumN n f + f n := by
  unfold sumN
  rw [List.range_succ, List.map_append, List.sum_append]; simp
theorem sumN_congr {n : Nat} {f g : Nat → Int} (h : ∀ i, i < n → f i = g i) : sumN n f = sumN n g := by
  unfold sumN
  congr 1
  exact List.map_congr_left fun i hi => h i (List.mem_range.mp hi)
theorem sumN_nn {n : Nat} {f : Nat → Int} (h : ∀ i, i < n → 0 ≤ f i) : 0 ≤ sumN n f := sum_nn _ _ fun i hi => h i (List.mem_range.mp hi)
theorem sumN_le {n : Nat} {f g : Nat → Int} (h : ∀ i, i < n → f i ≤ g i) : sumN n f ≤ sumN n g := sum_le _ _ _ fun i hi => h i (List.mem_range.mp hi)
theorem sumN_add (a b : Nat) (f : Nat → Int) : sumN (a + b) f = sumN a f + sumN b fun i => f (a + i) := by
  induction b with
  | zero => rw [sumN_0]; simp
  | succ b ih => rw [show a + (b + 1) = (a + b) + 1 by omega, sumN_s, sumN_s, ih]; omega
theorem sumN_mul (n : Nat) (c : Int) (f : Nat → Int) : sumN n (fun i => c * f i) = c * sumN n f := by
  induction n with
  | zero => rw [sumN_0, sumN_0]; simp
  | succ n ih => rw [sumN_s, sumN_s, ih, Int.mul_add]
theorem sumN_plus (n : Nat) (f g : Nat → Int) : sumN n (fun i => f i + g i) = sumN n f + sumN n g := by
  induction n with
  | zero => rfl
  | succ n ih => rw [sumN_s, sumN_s, sumN_s, ih]; omega
/-- w as a stack within a part of the hand b; it is cut behind its first i + 1 leaves -/
def wlN : Nat → List Bool → Bool → Int
  | 0, _, _ => 0
  | f + 1, w, b => if w.length = 1 then (if w[0]? = some b then 1 else 0) else sumN (w.length - 1) fun i => wlN f (w.take (i + 1)) (!b) * wlN f (w.drop (i + 1)) (!b)
def wl (w : List Bool) (b : Bool) : Int := wlN w.length w b
theorem wlN_fuel : ∀ (f g : Nat) (w : List Bool) (b : Bool), 1 ≤ w.length → w.length ≤ f → w.length ≤ g → wlN f w b = wlN g w b
  | 0, _, w, b, h1, hf, _ => by exfalso; omega
  | _ + 1, 0, w, b, h1, _, hg => by exfalso; omega
  | f + 1, g + 1, w, b, h1, hf, hg => by
    unfold wlN
    by_cases h : w.length = 1
    · rw [if_pos h, if_pos h]
    · rw [if_neg h, if_neg h]
      refine sumN_congr fun i hi => ?_
      rw [wlN_fuel f g _ (!b) (by rw [List.length_take]; omega) (by rw [List.length_take]; omega) (by rw [List.length_take]; omega), wlN_fuel f g (w.drop (i + 1)) (!b) (by rw [List.length_drop]; omega) (by rw [List.length_drop]; omega) (by rw [List.length_drop]; omega)]
theorem wl_one (c b : Bool) : wl [c] b = if c = b then 1 else 0 := by
  unfold wl
  show wlN 1 [c] b = _
  unfold wlN
  rw [if_pos (show [c].length = 1 from rfl)]
  show (if some c = some b then (1 : Int) else 0) = _
  by_cases h : c = b
  · rw [if_pos h, if_pos (congrArg some h)]
  · rw [if_neg h, if_neg (fun z => h (Option.some.inj z))]
theorem wl_sum {w : List Bool} (b : Bool) (h : 2 ≤ w.length) : wl w b = sumN (w.length - 1) fun i => wl (w.take (i + 1)) (!b) * wl (w.drop (i + 1)) (!b) := by
  unfold wl
  obtain ⟨f, hf⟩ : ∃ f, w.length = f + 1 := ⟨w.length - 1, by omega⟩
  rw [hf]
  conv => lhs; unfold wlN
  rw [if_neg (by omega), hf]
  refine sumN_congr fun i hi => ?_
  rw [wlN_fuel f (w.take (i + 1)).length _ (!b) (by rw [List.length_take]; omega) (by rw [List.length_take]; omega) (Nat.le_refl _), wlN_fuel f (w.drop (i + 1)).length _ (!b) (by rw [List.length_drop]; omega) (by rw [List.length_drop]; omega) (Nat.le_refl _)]
theorem wl_nn : ∀ (n : Nat) (w : List Bool) (b : Bool), 1 ≤ w.length → w.length ≤ n → 0 ≤ wl w b
  | 0, w, b, h1, hn => by exfalso; omega
  | n + 1, w, b, h1, hn => by
    by_cases h : w.length = 1
    · obtain ⟨c, rfl⟩ := List.length_eq_one_iff.mp h
      rw [wl_one]; split <;> decide
    · rw [wl_sum b (by omega)]
      refine sumN_nn fun i hi => ?_
      exact Int.mul_nonneg (wl_nn n _ _ (by rw [List.length_take]; omega) (by rw [List.length_take]; omega)) (wl_nn n _ _ (by rw [List.length_drop]; omega) (by rw [List.length_drop]; omega))
theorem wl_0 {w : List Bool} (b : Bool) (h : 1 ≤ w.length) : 0 ≤ wl w b := wl_nn w.length w b h (Nat.le_refl _)
/-- the stretch of a row as a word -/
def bl1 (c : Nat) : Bool := decide (c = 114)
def slc (l : List Nat) (s e : Nat) : List Bool := ((l.drop s).take (e - s)).map bl1
theorem way_wl {l : List Nat} (hc : ∀ c ∈ l, c = 114 ∨ c = 108) : ∀ (n : Nat) {s e : Nat} (b : Bool), s < e → e ≤ l.length → e - s ≤ n → way l (s : Int) (e : Int) b = wl (slc l s e) b
  | 0, s, e, b, h, _, hn => by exfalso; omega
  | n + 1, s, e, b, h, he, hn => by
    have hlen : (slc l s e).length = e - s := by unfold slc; rw [List.length_map, List.length_take, List.length_drop]; omega
    by_cases h1 : e - s = 1
    · have hs : s < l.length := by omega
      have e1 : slc l s e = [bl1 l[s]] := by
        unfold slc
        rw [h1, List.drop_eq_getElem_cons hs]
        rfl
      rw [e1, wl_one, way_one (by omega)]
      have e2 : ix l (s : Int) = l[s] := by unfold ix; rw [Int.toNat_natCast, List.getElem?_eq_getElem hs]; rfl
      rw [e2]
      have hcs := hc _ (List.getElem_mem hs)
      generalize l[s] = c at hcs
      rcases hcs with rfl | rfl <;> cases b <;> decide
    · rw [way_sum (by omega), wl_sum b (by omega), hlen]
      have eR : rng ((s : Int) + 1) (e : Int) = (List.range (e - s - 1)).map fun i => ((s + (i + 1) : Nat) : Int) := by
        unfold rng
        rw [show ((e : Int) - ((s : Int) + 1)).toNat = e - s - 1 by omega]
        refine List.map_congr_left fun k _ => ?_
        omega
      rw [eR, List.map_map]
      unfold sumN
      congr 1
      refine List.map_congr_left fun i hi => ?_
      have hi := List.mem_range.mp hi
      show way l (s : Int) ((s + (i + 1) : Nat) : Int) (!b) * way l ((s + (i + 1) : Nat) : Int) (e : Int) (!b) = _
      rw [way_wl hc n (!b) (by omega) (by omega) (by omega), way_wl hc n (s := s + (i + 1)) (!b) (by omega) he (by omega)]
      congr 2
      · unfold slc
        rw [← List.map_take, List.take_take]
        congr 2; omega
      · unfold slc
        rw [← List.map_drop, List.drop_take, List.drop_drop]
        congr 2; omega
/-! ### all words -/
def wordsB : Nat → List (List Bool)
  | 0 => [[]]
  | n + 1 => (wordsB n).map (true :: ·) ++ (wordsB n).map (false :: ·)
def totB (n : Nat) (F : List Bool → Int) : Int := ((wordsB n).map F).sum
theorem tot_0 (F : List Bool → Int) : totB 0 F = F [] := by unfold totB wordsB; simp
theorem tot_s (n : Nat) (F : List Bool → Int) : totB (n + 1) F = totB n (fun w => F (true :: w)) + totB n (fun w => F (false :: w)) := by
  unfold totB
  rw [show wordsB (n + 1) = (wordsB n).map (true :: ·) ++ (wordsB n).map (false :: ·) from rfl, List.map_append, List.sum_append, List.map_map, List.map_map]
  rfl
theorem tot_congr {n : Nat} {F G : List Bool → Int} (h : ∀ w, w.length = n → F w = G w) : totB n F = totB n G := by
  induction n generalizing F G with
  | zero => rw [tot_0, tot_0]; exact h [] rfl
  | succ n ih => rw [tot_s, tot_s, ih (fun w hw => h _ (by rw [List.length_cons, hw])), ih (fun w hw => h _ (by rw [List.length_cons, hw]))]
theorem tot_mul (n : Nat) (c : Int) (F : List Bool → Int) : totB n (fun w => c * F w) = c * totB n F := by
  induction n generalizing F with
  | zero => rw [tot_0, tot_0]
  | succ n ih => rw [tot_s, tot_s, ih, ih, Int.mul_add]
theorem tot_sum (n m : Nat) (F : Nat → List Bool → Int) : totB n (fun w => sumN m fun i => F i w) = sumN m fun i => totB n (F i) := by
  induction n generalizing F with
  | zero => rw [tot_0]; exact sumN_congr fun i _ => (tot_0 _).symm
  | succ n ih =>
    rw [tot_s, ih, ih, ← sumN_plus]
    exact sumN_congr fun i _ => (tot_s _ _).symm
theorem tot_split : ∀ (i n : Nat) (F G : List Bool → Int), totB (i + n) (fun w => F (w.take i) * G (w.drop i)) = totB i F * totB n G
  | 0, n, F, G => by
    rw [tot_0, Nat.zero_add]
    have e : (fun w => F (List.take 0 w) * G (List.drop 0 w)) = fun w => F [] * G w := by funext w; simp
    rw [e]
    exact tot_mul n _ _
  | i + 1, n, F, G => by
    rw [show i + 1 + n = (i + n) + 1 by omega, tot_s, tot_s]
    have a := tot_split i n (fun w => F (true :: w)) G
    have b := tot_split i n (fun w => F (false :: w)) G
    rw [Int.add_mul, ← a, ← b]
    rfl
/-- the sum over all words of so many letters -/
def catT : List Int := [0, 1, 1, 2, 5, 14, 42, 132, 429]
theorem cat_ok : ∀ L : Fin 9, 2 ≤ L.val → sumN (L.val - 1) (fun i => catT.getD (i + 1) 0 * catT.getD (L.val - (i + 1)) 0) = catT.getD L.val 0 := by decide +kernel
theorem tot_wl : ∀ (n L : Nat) (b : Bool), 1 ≤ L → L ≤ n → L ≤ 8 → totB L (fun w => wl w b) = catT.getD L 0
  | 0, L, b, h1, hn, _ => by exfalso; omega
  | n + 1, L, b, h1, hn, h8 => by
    by_cases h : L = 1
    · subst h
      rw [tot_s, tot_0, tot_0, wl_one, wl_one]
      cases b <;> rfl
    · rw [tot_congr (G := fun w => sumN (L - 1) fun i => wl (w.take (i + 1)) (!b) * wl (w.drop (i + 1)) (!b)) (fun w hw => by rw [wl_sum b (by omega), hw]), tot_sum]
      rw [← cat_ok ⟨L, by omega⟩ (by show 2 ≤ L; omega)]
      refine sumN_congr fun i hi => ?_
      have e : L = (i + 1) + (L - (i + 1)) := by omega
      have z := tot_split (i + 1) (L - (i + 1)) (fun w => wl w (!b)) (fun w => wl w (!b))
      rw [← e] at z
      show totB L (fun w => wl (w.take (i + 1)) (!b) * wl (w.drop (i + 1)) (!b)) = catT.getD (i + 1) 0 * catT.getD (L - (i + 1)) 0
      rw [z, tot_wl n (i + 1) (!b) (by omega) (by omega) (by omega), tot_wl n (L - (i + 1)) (!b) (by omega) (by omega) (by omega)]
/-- words by the figures of a number, the lowest first -/
def bitW : Nat → Nat → List Bool
  | 0, _ => []
  | k + 1, n => decide (n % 2 = 0) :: bitW k (n / 2)
theorem sum_even_odd (n : Nat) (f : Nat → Int) : sumN (2 * n) f = sumN n (fun i => f (2 * i)) + sumN n (fun i => f (2 * i + 1)) := by
  induction n with
  | zero => rfl
  | succ n ih => rw [show 2 * (n + 1) = (2 * n + 1) + 1 by omega, sumN_s, sumN_s, ih, sumN_s, sumN_s]; omega
theorem bits_tot : ∀ (L : Nat) (F : List Bool → Int), sumN (2 ^ L) (fun n => F (bitW L n)) = totB L F
  | 0, F => by rw [tot_0]; show sumN 1 _ = _; rw [sumN_s, sumN_0]; simp [bitW]
  | L + 1, F => by
    rw [Nat.pow_succ, Nat.mul_comm, sum_even_odd, tot_s]
    congr 1
    · rw [← bits_tot L (fun w => F (true :: w))]
      refine sumN_congr fun i _ => ?_
      show F (decide (2 * i % 2 = 0) :: bitW L (2 * i / 2)) = _
      rw [show 2 * i % 2 = 0 by omega, show 2 * i / 2 = i by omega]; rfl
    · rw [← bits_tot L (fun w => F (false :: w))]
      refine sumN_congr fun i _ => ?_
      show F (decide ((2 * i + 1) % 2 = 0) :: bitW L ((2 * i + 1) / 2)) = _
      rw [show (2 * i + 1) % 2 = 1 by omega, show (2 * i + 1) / 2 = i by omega]; rfl
/-! ### two alike neighbours folded into one of the other hand -/
theorem sum_skip {k n : Nat} {f g : Nat → Int} (h1 : ∀ i, i < k → f i ≤ g i) (h2 : ∀ i, k ≤ i → i < n → f i ≤ g (i + 1)) (hk : k ≤ n) (hg : 0 ≤ g k) : sumN n f ≤ sumN (n + 1) g := by
  have e1 : n = k + (n - k) := by omega
  have e2 : n + 1 = (k + 1) + (n - k) := by omega
  rw [e1, sumN_add]
  rw [← e1, e2, sumN_add, sumN_s]
  have a := sumN_le (n := k) h1
  have b : sumN (n - k) (fun i => f (k + i)) ≤ sumN (n - k) (fun i => g (k + 1 + i)) := sumN_le fun i hi => by
    have := h2 (k + i) (by omega) (by omega)
    rw [show k + 1 + i = k + i + 1 by omega]; exact this
  omega
theorem take_l {α : Type} {a b : List α} {i : Nat} (h : i ≤ a.length) : (a ++ b).take i = a.take i := by rw [List.take_append_of_le_length h]
theorem drop_l {α : Type} {a b : List α} {i : Nat} (h : i ≤ a.length) : (a ++ b).drop i = a.drop i ++ b := List.drop_append_of_le_length h
theorem take_r {α : Type} {a b : List α} {i : Nat} : (a ++ b).take (a.length + i) = a ++ b.take i := by rw [List.take_append, List.take_of_length_le (by omega), Nat.add_sub_cancel_left]
theorem drop_r {α : Type} {a b : List α} {i : Nat} : (a ++ b).drop (a.length + i) = b.drop i := by rw [List.drop_append, List.drop_of_length_le (by omega), Nat.add_sub_cancel_left]; rfl
theorem wl_fold : ∀ (n : Nat) (u v : List Bool) (c b : Bool), u.length + v.length ≤ n → wl (u ++ [!c] ++ v) b ≤ wl (u ++ [c, c] ++ v) b
  | n, u, v, c, b, hn => by
    by_cases h0 : u.length + v.length = 0
    · have eu : u = [] := List.length_eq_zero_iff.mp (by omega)
      have ev : v = [] := List.length_eq_zero_iff.mp (by omega)
      subst eu; subst ev
      show wl [!c] b ≤ wl [c, c] b
      have z := wl_sum (w := [c, c]) b (by show 2 ≤ 2; omega)
      rw [z, wl_one]
      show (if (!c) = b then (1 : Int) else 0) ≤ sumN 1 fun i => wl ([c, c].take (i + 1)) (!b) * wl ([c, c].drop (i + 1)) (!b)
      rw [sumN_s, sumN_0]
      show (if (!c) = b then (1 : Int) else 0) ≤ 0 + wl [c] (!b) * wl [c] (!b)
      rw [wl_one]
      cases c <;> cases b <;> decide
    · obtain ⟨n', rfl⟩ : ∃ n', n = n' + 1 := ⟨n - 1, by omega⟩
      have l1 : (u ++ [!c] ++ v).length = u.length + v.length + 1 := by simp; omega
      have l2 : (u ++ [c, c] ++ v).length = u.length + v.length + 2 := by simp; omega
      rw [wl_sum b (by rw [l1]; omega), wl_sum (w := u ++ [c, c] ++ v) b (by rw [l2]; omega), l1, l2]
      show sumN (u.length + v.length) _ ≤ sumN (u.length + v.length + 1) _
      have mul : ∀ {x y x' y' : Int}, 0 ≤ x → x ≤ x' → 0 ≤ y → y ≤ y' → x * y ≤ x' * y' := fun a1 a2 a3 a4 => Int.mul_le_mul a2 a4 a3 (Int.le_trans a1 a2)
      refine sum_skip (k := u.length) (fun i hi => ?_) (fun i h1 h2 => ?_) (by omega) ?_
      · -- cut within u
        have t1 : (u ++ [!c] ++ v).take (i + 1) = u.take (i + 1) := by rw [List.append_assoc, take_l (by omega)]
        have t2 : (u ++ [c, c] ++ v).take (i + 1) = u.take (i + 1) := by rw [List.append_assoc, take_l (by omega)]
        have d1 : (u ++ [!c] ++ v).drop (i + 1) = u.drop (i + 1) ++ [!c] ++ v := by rw [List.append_assoc, drop_l (by omega), List.append_assoc]
        have d2 : (u ++ [c, c] ++ v).drop (i + 1) = u.drop (i + 1) ++ [c, c] ++ v := by rw [List.append_assoc, drop_l (by omega), List.append_assoc]
        rw [t1, t2, d1, d2]
        refine mul (wl_0 _ (by rw [List.length_take]; omega)) (Int.le_refl _) (wl_0 _ (by simp; omega)) (wl_fold n' _ _ c (!b) (by rw [List.length_drop]; omega))
      · -- cut within v
        obtain ⟨j, rfl⟩ : ∃ j, i = u.length + j := ⟨i - u.length, by omega⟩
        have lu : (u ++ [!c]).length = u.length + 1 := by simp
        have lu2 : (u ++ [c, c]).length = u.length + 2 := by simp
        have t1 : (u ++ [!c] ++ v).take (u.length + j + 1) = u ++ [!c] ++ v.take j := by
          rw [show u.length + j + 1 = (u ++ [!c]).length + j by rw [lu]; omega, take_r]
        have t2 : (u ++ [c, c] ++ v).take (u.length + j + 1 + 1) = u ++ [c, c] ++ v.take j := by
          rw [show u.length + j + 1 + 1 = (u ++ [c, c]).length + j by rw [lu2]; omega, take_r]
        have d1 : (u ++ [!c] ++ v).drop (u.length + j + 1) = v.drop j := by
          rw [show u.length + j + 1 = (u ++ [!c]).length + j by rw [lu]; omega, drop_r]
        have d2 : (u ++ [c, c] ++ v).drop (u.length + j + 1 + 1) = v.drop j := by
          rw [show u.length + j + 1 + 1 = (u ++ [c, c]).length + j by rw [lu2]; omega, drop_r]
        rw [t1, t2, d1, d2]
        refine mul (wl_0 _ (by simp; omega)) (wl_fold n' _ _ c (!b) (by rw [List.length_take]; omega)) (wl_0 _ (by rw [List.length_drop]; omega)) (Int.le_refl _)
      · exact Int.mul_nonneg (wl_0 _ (by rw [List.length_take, l2]; omega)) (wl_0 _ (by rw [List.length_drop, l2]; omega))
  termination_by n => n
theorem folds_wl {l : List Nat} (h3 : 2 ≤ l.length) (hc : ∀ c ∈ l, c = 114 ∨ c = 108) : foldsM l = wl ((l.drop 1).map bl1) false := by
  unfold foldsM
  have z := way_wl hc (l.length - 1) (s := 1) (e := l.length) false (by omega) (Nat.le_refl _) (by omega)
  rw [show ((1 : Nat) : Int) = 1 from rfl] at z
  rw [z]
  unfold slc
  rw [List.take_of_length_le (by rw [List.length_drop]; omega)]
end Pf

namespace Pf
open PySem PySem.Spec PyProof.Rows L2
/-! ### which rows can be folded -/
theorem sumN_pos {f : Nat → Int} : ∀ {n : Nat}, 0 < sumN n f → ∃ i, i < n ∧ 0 < f i
  | 0, h => by rw [sumN_0] at h; omega
  | n + 1, h => by
    rw [sumN_s] at h
    by_cases c : 0 < f n
    · exact ⟨n, by omega, c⟩
    · obtain ⟨i, hi, hf⟩ := sumN_pos (n := n) (f := f) (by omega)
      exact ⟨i, by omega, hf⟩
theorem sumN_one {f : Nat → Int} {n k : Nat} (hk : k < n) (h : ∀ i, i < n → 0 ≤ f i) : f k ≤ sumN n f := by
  have e : n = k + (1 + (n - k - 1)) := by omega
  rw [e, sumN_add, sumN_add]
  have a := sumN_nn (n := k) (f := f) (fun i hi => h i (by omega))
  have b := sumN_nn (n := n - k - 1) (f := fun i => f (k + (1 + i))) (fun i hi => h _ (by omega))
  have c : sumN 1 (fun i => f (k + i)) = f k := by rw [sumN_s, sumN_0]; simp
  rw [c]
  omega
def sgL (w : List Bool) : Int := (w.map sg).sum
theorem sgL_app (a b : List Bool) : sgL (a ++ b) = sgL a + sgL b := by unfold sgL; rw [List.map_append, List.sum_append]
theorem wl_parts {w : List Bool} {b : Bool} (h2 : 2 ≤ w.length) (h : 0 < wl w b) : ∃ i, i + 1 < w.length ∧ 0 < wl (w.take (i + 1)) (!b) ∧ 0 < wl (w.drop (i + 1)) (!b) := by
  rw [wl_sum b h2] at h
  obtain ⟨i, hi, hf⟩ := sumN_pos h
  have n1 := wl_0 (w := w.take (i + 1)) (!b) (by rw [List.length_take]; omega)
  have n2 := wl_0 (w := w.drop (i + 1)) (!b) (by rw [List.length_drop]; omega)
  refine ⟨i, by omega, ?_, ?_⟩
  · rcases Int.lt_or_eq_of_le n1 with z | z
    · exact z
    · rw [← z, Int.zero_mul] at hf; omega
  · rcases Int.lt_or_eq_of_le n2 with z | z
    · exact z
    · rw [← z, Int.mul_zero] at hf; omega
theorem wl_sg : ∀ (n : Nat) (w : List Bool) (b : Bool), 1 ≤ w.length → w.length ≤ n → 0 < wl w b → (sgL w - sg b) % 3 = 0
  | 0, w, b, h1, hn, _ => by exfalso; omega
  | n + 1, w, b, h1, hn, h => by
    by_cases h2 : w.length = 1
    · obtain ⟨c, rfl⟩ := List.length_eq_one_iff.mp h2
      rw [wl_one] at h
      by_cases z : c = b
      · subst z; unfold sgL; simp
      · rw [if_neg z] at h; omega
    · obtain ⟨i, hi, a, c⟩ := wl_parts (by omega) h
      have x := wl_sg n (w.take (i + 1)) (!b) (by rw [List.length_take]; omega) (by rw [List.length_take]; omega) a
      have y := wl_sg n (w.drop (i + 1)) (!b) (by rw [List.length_drop]; omega) (by rw [List.length_drop]; omega) c
      have e : sgL w = sgL (w.take (i + 1)) + sgL (w.drop (i + 1)) := by rw [← sgL_app, List.take_append_drop]
      rw [sg_not] at x y
      rw [e]; omega
theorem wl_alike : ∀ (n : Nat) (w : List Bool) (b : Bool), 2 ≤ w.length → w.length ≤ n → 0 < wl w b → ∃ i, i + 1 < w.length ∧ w[i]? = w[i + 1]?
  | 0, w, b, h1, hn, _ => by exfalso; omega
  | n + 1, w, b, h1, hn, h => by
    obtain ⟨i, hi, a, c⟩ := wl_parts h1 h
    by_cases c1 : i + 1 = 1
    · by_cases c2 : w.length = 2
      · refine ⟨0, by omega, ?_⟩
        have i0 : i = 0 := by omega
        subst i0
        match w, c2 with
        | [x, y], _ =>
          have a : 0 < wl [x] (!b) := a
          have c : 0 < wl [y] (!b) := c
          rw [wl_one] at a c
          have e1 : x = !b := by by_cases z : x = !b; exact z; rw [if_neg z] at a; omega
          have e2 : y = !b := by by_cases z : y = !b; exact z; rw [if_neg z] at c; omega
          rw [e1, e2]; rfl
      · obtain ⟨j, hj, e⟩ := wl_alike n (w.drop (i + 1)) (!b) (by rw [List.length_drop]; omega) (by rw [List.length_drop]; omega) c
        rw [List.length_drop] at hj
        rw [List.getElem?_drop, List.getElem?_drop] at e
        exact ⟨i + 1 + j, by omega, e⟩
    · obtain ⟨j, hj, e⟩ := wl_alike n (w.take (i + 1)) (!b) (by rw [List.length_take]; omega) (by rw [List.length_take]; omega) a
      rw [List.length_take] at hj
      rw [List.getElem?_take_of_lt (by omega), List.getElem?_take_of_lt (by omega)] at e
      exact ⟨j, by omega, e⟩
/-- in how many ways a ring of hands can be folded -/
def ringW : List Bool → Int
  | [] => 0
  | c :: w => wl w (!c)
def alikeR (l : List Bool) : Prop := ∃ i, i < l.length ∧ l[i]? = l[(i + 1) % l.length]?
def okR (l : List Bool) : Prop := sgL l % 3 = 0 ∧ alikeR l
theorem ring_ok {l : List Bool} (h3 : 3 ≤ l.length) (h : 0 < ringW l) : okR l := by
  match l, h3, h with
  | c :: w, h3, h =>
    have h : 0 < wl w (!c) := h
    have h3 : 3 ≤ w.length + 1 := h3
    refine ⟨?_, ?_⟩
    · have z := wl_sg w.length w (!c) (by omega) (Nat.le_refl _) h
      rw [sg_not] at z
      have e : sgL (c :: w) = sg c + sgL w := by unfold sgL; rw [List.map_cons, List.sum_cons]
      rw [e]; omega
    · obtain ⟨i, hi, e⟩ := wl_alike w.length w (!c) (by omega) (Nat.le_refl _) h
      refine ⟨i + 1, by show i + 1 < w.length + 1; omega, ?_⟩
      rw [Nat.mod_eq_of_lt (show i + 1 + 1 < (c :: w).length by show i + 1 + 1 < w.length + 1; omega)]
      exact e
/-- two alike neighbours of the ring folded into one of the other hand -/
def foldR (l : List Bool) (i : Nat) (c : Bool) : List Bool := if i + 1 = l.length then (!c) :: (l.drop 1).dropLast else l.take i ++ [!c] ++ l.drop (i + 2)
theorem foldR_cases {l : List Bool} {i : Nat} {c : Bool} (h3 : 3 ≤ l.length) (hi : i < l.length) (e1 : l[i]? = some c) (e2 : l[(i + 1) % l.length]? = some c) :
    (i + 1 = l.length ∧ ∃ m, l = c :: (m ++ [c]) ∧ foldR l i c = (!c) :: m ∧ 1 ≤ m.length) ∨ (i + 1 < l.length ∧ l = l.take i ++ [c, c] ++ l.drop (i + 2) ∧ foldR l i c = l.take i ++ [!c] ++ l.drop (i + 2)) := by
  by_cases z : i + 1 = l.length
  · refine .inl ⟨z, (l.drop 1).dropLast, ?_, by unfold foldR; rw [if_pos z], by rw [List.length_dropLast, List.length_drop]; omega⟩
    rw [z, Nat.mod_self] at e2
    match l, h3 with
    | x :: r, h3 =>
      have ex : x = c := by simpa using e2
      subst ex
      have hr : r ≠ [] := fun q => by subst q; exact absurd h3 (by show ¬ 3 ≤ 1; decide)
      have hlast : r.getLast hr = x := by
        rw [List.getLast_eq_getElem]
        have z : i + 1 = r.length + 1 := z
        have hp := List.length_pos_iff.mpr hr
        have e1 : (x :: r)[r.length]? = some x := by rw [show r.length = i by omega]; exact e1
        rw [show r.length = (r.length - 1) + 1 by omega, List.getElem?_cons_succ, List.getElem?_eq_getElem (by omega)] at e1
        exact Option.some.inj e1
      show x :: r = x :: (r.dropLast ++ [x])
      congr 1
      conv => lhs; rw [← List.dropLast_concat_getLast hr, hlast]
  · have hi2 : i + 1 < l.length := by omega
    refine .inr ⟨hi2, ?_, by unfold foldR; rw [if_neg z]⟩
    rw [Nat.mod_eq_of_lt hi2] at e2
    conv => lhs; rw [← List.take_append_drop i l]
    rw [List.append_assoc]
    congr 1
    rw [List.drop_eq_getElem_cons (by omega), List.drop_eq_getElem_cons (by omega)]
    rw [List.getElem?_eq_getElem (by omega)] at e1 e2
    rw [Option.some.inj e1, Option.some.inj e2]
    rfl
theorem foldR_le {l : List Bool} {i : Nat} {c : Bool} (h3 : 4 ≤ l.length) (hi : i < l.length) (e1 : l[i]? = some c) (e2 : l[(i + 1) % l.length]? = some c) :
    ringW (foldR l i c) ≤ ringW l ∧ (foldR l i c).length + 1 = l.length ∧ (sgL (foldR l i c) - sgL l) % 3 = 0 := by
  have s2 : ∀ c : Bool, (sg (!c) - (sg c + sg c)) % 3 = 0 := by decide
  have one : ∀ c : Bool, sgL [c] = sg c := fun c => by unfold sgL; simp
  rcases foldR_cases (by omega) hi e1 e2 with ⟨_, m, hl, hf, hm⟩ | ⟨hi2, hl, hf⟩
  · rw [hf, hl]
    refine ⟨?_, by simp, ?_⟩
    · show wl m (!!c) ≤ wl (m ++ [c]) (!c)
      rw [wl_sum (w := m ++ [c]) (!c) (by rw [List.length_append]; show 2 ≤ m.length + 1; omega), List.length_append]
      have z := sumN_one (n := m.length + 1 - 1) (k := m.length - 1) (f := fun i => wl ((m ++ [c]).take (i + 1)) (!!c) * wl ((m ++ [c]).drop (i + 1)) (!!c)) (by omega) (fun i hi => Int.mul_nonneg (wl_0 _ (by rw [List.length_take, List.length_append]; show 1 ≤ min (i + 1) (m.length + 1); omega)) (wl_0 _ (by rw [List.length_drop, List.length_append]; show 1 ≤ m.length + 1 - (i + 1); omega)))
      have z : wl ((m ++ [c]).take (m.length - 1 + 1)) (!!c) * wl ((m ++ [c]).drop (m.length - 1 + 1)) (!!c) ≤ _ := z
      rw [show m.length - 1 + 1 = m.length by omega, List.take_left, List.drop_left, wl_one, Bool.not_not, if_pos rfl, Int.mul_one] at z
      rw [Bool.not_not]
      exact z
    · have e : sgL (c :: (m ++ [c])) = sg c + (sgL m + sg c) := by rw [show c :: (m ++ [c]) = [c] ++ (m ++ [c]) from rfl, sgL_app, sgL_app, one]
      have e' : sgL ((!c) :: m) = sg (!c) + sgL m := by rw [show (!c) :: m = [!c] ++ m from rfl, sgL_app, one]
      rw [e, e']
      have := s2 c
      omega
  · rw [hf]
    have hlen : (l.take i ++ [!c] ++ l.drop (i + 2)).length + 1 = l.length := by rw [List.length_append, List.length_append, List.length_take, List.length_drop]; show min i l.length + 1 + (l.length - (i + 2)) + 1 = _; omega
    refine ⟨?_, hlen, ?_⟩
    · conv => rhs; rw [hl]
      by_cases i0 : i = 0
      · subst i0
        show wl (l.drop 2) (!!c) ≤ wl (c :: l.drop 2) (!c)
        have hd : 1 ≤ (l.drop 2).length := by rw [List.length_drop]; omega
        rw [wl_sum (w := c :: l.drop 2) (!c) (by show 2 ≤ (l.drop 2).length + 1; omega)]
        have z := sumN_one (n := (c :: l.drop 2).length - 1) (k := 0) (f := fun i => wl ((c :: l.drop 2).take (i + 1)) (!!c) * wl ((c :: l.drop 2).drop (i + 1)) (!!c)) (by show 0 < (l.drop 2).length + 1 - 1; omega) (fun i hi => by
          have hi : i < (l.drop 2).length + 1 - 1 := hi
          exact Int.mul_nonneg (wl_0 _ (by rw [List.length_take]; show 1 ≤ min (i + 1) ((l.drop 2).length + 1); omega)) (wl_0 _ (by rw [List.length_drop]; show 1 ≤ (l.drop 2).length + 1 - (i + 1); omega)))
        have z : wl [c] (!!c) * wl (l.drop 2) (!!c) ≤ _ := z
        rw [wl_one, Bool.not_not, if_pos rfl, Int.one_mul] at z
        rw [Bool.not_not]
        exact z
      · obtain ⟨x, r, hx⟩ : ∃ x r, l.take i = x :: r := by
          cases e : l.take i with
          | nil =>
            have := congrArg List.length e
            rw [List.length_take] at this
            have : min i l.length = 0 := this
            omega
          | cons x r => exact ⟨x, r, rfl⟩
        rw [hx]
        show wl (r ++ [!c] ++ l.drop (i + 2)) (!x) ≤ wl (r ++ [c, c] ++ l.drop (i + 2)) (!x)
        exact wl_fold _ _ _ c _ (Nat.le_refl _)
    · conv => lhs; lhs; rhs; rw [hl]
      rw [sgL_app, sgL_app, sgL_app, sgL_app, one]
      have e : sgL [c, c] = sg c + sg c := by rw [show [c, c] = [c] ++ [c] from rfl, sgL_app, one]
      rw [e]
      have := s2 c
      omega
theorem foldR_alike {l : List Bool} {i : Nat} {c : Bool} (h4 : 4 ≤ l.length) (hi : i < l.length) (e1 : l[i]? = some c) (e2 : l[(i + 1) % l.length]? = some c) (e0 : l[(i + (l.length - 1)) % l.length]? = some (!c)) : alikeR (foldR l i c) := by
  obtain ⟨_, hlen, _⟩ := foldR_le h4 hi e1 e2
  rcases foldR_cases (by omega) hi e1 e2 with ⟨hz, m, hl, hf, hm⟩ | ⟨hi2, hl, hf⟩
  · -- the pair is the last one and the first one
    have hlm : (foldR l i c).length = m.length + 1 := by rw [hf]; rfl
    refine ⟨m.length, by omega, ?_⟩
    rw [hlm, Nat.mod_self, hf]
    show ((!c) :: m)[m.length]? = some (!c)
    have hL : l.length = m.length + 2 := by rw [hl]; simp
    have e : (i + (l.length - 1)) % l.length = m.length := by
      rw [show i + (l.length - 1) = m.length + l.length by omega, Nat.add_mod_right, Nat.mod_eq_of_lt (by omega)]
    rw [e, hl, show m.length = (m.length - 1) + 1 by omega, List.getElem?_cons_succ, List.getElem?_append_left (by omega)] at e0
    rw [show m.length = (m.length - 1) + 1 by omega, List.getElem?_cons_succ]
    exact e0
  · have hlt : (l.take i).length = i := by rw [List.length_take]; omega
    have at1 : (foldR l i c)[i]? = some (!c) := by
      rw [hf, List.append_assoc, List.getElem?_append_right (by omega), hlt, Nat.sub_self]; rfl
    by_cases i0 : i = 0
    · subst i0
      refine ⟨l.length - 2, by omega, ?_⟩
      rw [show (l.length - 2 + 1) % (foldR l 0 c).length = 0 by rw [show l.length - 2 + 1 = (foldR l 0 c).length by omega, Nat.mod_self], at1]
      rw [Nat.zero_add, Nat.mod_eq_of_lt (by omega)] at e0
      rw [hf]
      show ((!c) :: l.drop 2)[l.length - 2]? = _
      rw [show l.length - 2 = (l.length - 3) + 1 by omega, List.getElem?_cons_succ, List.getElem?_drop, show 2 + (l.length - 3) = l.length - 1 by omega]
      exact e0
    · refine ⟨i - 1, by omega, ?_⟩
      rw [show (i - 1 + 1) % (foldR l i c).length = i by rw [show i - 1 + 1 = i by omega, Nat.mod_eq_of_lt (by omega)], at1]
      have e : (i + (l.length - 1)) % l.length = i - 1 := by
        rw [show i + (l.length - 1) = (i - 1) + l.length by omega, Nat.add_mod_right, Nat.mod_eq_of_lt (by omega)]
      rw [e] at e0
      rw [hf, List.append_assoc, List.getElem?_append_left (by omega), List.getElem?_take_of_lt (by omega)]
      exact e0
/-- where no pair has an unlike one ahead, all are alike -/
abbrev NoGood (l : List Bool) : Prop := ∀ j c, j < l.length → l[j]? = some c → l[(j + 1) % l.length]? = some c → l[(j + (l.length - 1)) % l.length]? = some c
theorem pair_down {l : List Bool} {c : Bool} (hno : NoGood l) {j : Nat} (hj : j < l.length) (e1 : l[j]? = some c) (e2 : l[(j + 1) % l.length]? = some c) : ∀ k, k ≤ j → l[j - k]? = some c ∧ l[(j - k + 1) % l.length]? = some c
  | 0, _ => ⟨e1, e2⟩
  | k + 1, hk => by
    obtain ⟨a, b⟩ := pair_down hno hj e1 e2 k (by omega)
    have n := hno (j - k) c (by omega) a b
    have e : (j - k + (l.length - 1)) % l.length = j - (k + 1) := by
      rw [show j - k + (l.length - 1) = (j - (k + 1)) + l.length by omega, Nat.add_mod_right, Nat.mod_eq_of_lt (by omega)]
    rw [e] at n
    refine ⟨n, ?_⟩
    rw [show j - (k + 1) + 1 = j - k by omega, Nat.mod_eq_of_lt (by omega)]
    exact a
theorem all_eq {l : List Bool} {i : Nat} {c : Bool} (hi : i < l.length) (e1 : l[i]? = some c) (e2 : l[(i + 1) % l.length]? = some c) (hno : NoGood l) : ∀ j, j < l.length → l[j]? = some c := fun j hj => by
  obtain ⟨a, b⟩ := pair_down hno hi e1 e2 i (Nat.le_refl _)
  rw [Nat.sub_self] at a b
  have n := hno 0 c (by omega) a b
  rw [Nat.zero_add, Nat.mod_eq_of_lt (by omega)] at n
  have z := (pair_down hno (j := l.length - 1) (by omega) n (by rw [show l.length - 1 + 1 = l.length by omega, Nat.mod_self]; exact a) (l.length - 1 - j) (by omega)).1
  rw [show l.length - 1 - (l.length - 1 - j) = j by omega] at z
  exact z
theorem same_alike {l : List Bool} {c : Bool} (h4 : 4 ≤ l.length) (hall : ∀ j, j < l.length → l[j]? = some c) : alikeR (foldR l 0 c) := by
  have hf : foldR l 0 c = (!c) :: l.drop 2 := by unfold foldR; rw [if_neg (by omega)]; rfl
  have hlen : (foldR l 0 c).length = l.length - 1 := by rw [hf]; show (l.drop 2).length + 1 = _; rw [List.length_drop]; omega
  refine ⟨1, by omega, ?_⟩
  rw [hlen, Nat.mod_eq_of_lt (by omega), hf, List.getElem?_cons_succ, List.getElem?_cons_succ, List.getElem?_drop, List.getElem?_drop, hall _ (by omega), hall _ (by omega)]
/-- a ring that can be folded further, one that the law finds too -/
theorem ok_ring : ∀ (n : Nat) (l : List Bool), l.length = n → 3 ≤ n → okR l → 0 < ringW l
  | 0, l, hl, h3, _ => by omega
  | n + 1, l, hl, h3, h => by
    obtain ⟨hs, i, hi, he⟩ := h
    obtain ⟨c, hc⟩ : ∃ c, l[i]? = some c := ⟨_, List.getElem?_eq_getElem hi⟩
    have hc2 : l[(i + 1) % l.length]? = some c := by rw [← he]; exact hc
    by_cases z : l.length = 3
    · match l, z with
      | [x, y, w], _ =>
        have a : sgL [x, y, w] % 3 = 0 := hs
        revert a
        cases x <;> cases y <;> cases w <;> decide +kernel
    · have h4 : 4 ≤ l.length := by omega
      by_cases g : ∃ j c, j < l.length ∧ l[j]? = some c ∧ l[(j + 1) % l.length]? = some c ∧ l[(j + (l.length - 1)) % l.length]? = some (!c)
      · obtain ⟨j, c, hj, e1, e2, e0⟩ := g
        obtain ⟨le, ln, sgn⟩ := foldR_le h4 hj e1 e2
        have ih := ok_ring n (foldR l j c) (by omega) (by omega) ⟨by omega, foldR_alike h4 hj e1 e2 e0⟩
        omega
      · have hno : NoGood l := fun j c hj e1 e2 => by
          obtain ⟨d, hd⟩ : ∃ d, l[(j + (l.length - 1)) % l.length]? = some d := ⟨_, List.getElem?_eq_getElem (Nat.mod_lt _ (by omega))⟩
          by_cases q : d = c
          · rw [hd, q]
          · exfalso
            refine g ⟨j, c, hj, e1, e2, ?_⟩
            rw [hd]
            congr 1
            cases d <;> cases c <;> first | rfl | exact absurd rfl q
        have hall := all_eq hi hc hc2 hno
        have e1 := hall 0 (by omega)
        have e2 : l[(0 + 1) % l.length]? = some c := by rw [Nat.mod_eq_of_lt (by omega)]; exact hall 1 (by omega)
        obtain ⟨le, ln, sgn⟩ := foldR_le h4 (i := 0) (by omega) e1 e2
        have ih := ok_ring n (foldR l 0 c) (by omega) (by omega) ⟨by omega, same_alike h4 hall⟩
        omega
theorem ring_iff {l : List Bool} (h3 : 3 ≤ l.length) : 0 < ringW l ↔ okR l := ⟨ring_ok h3, ok_ring l.length l rfl h3⟩
end Pf

namespace Pf
open PySem PySem.Spec PyProof.Rows L2
/-! ### zip of two texts -/
def ItzS (x y : Str) : It :=
  ⟨fun i _ => i < x.cps.size ∧ i < y.cps.size,
    fun i H v H' => ∃ T c d, v = .ref T ∧ H T = none ∧ H' = upd H T (.tup [.str ⟨#[c]⟩, .str ⟨#[d]⟩]) ∧ x.cps[i]? = some c ∧ y.cps[i]? = some d,
    fun i _ => x.cps.size ≤ i ∨ y.cps.size ≤ i⟩
theorem turn_zipS {P : Program} {w : World} {K : PySem.W.Frag} {elts : List Expr} {kk : Nat} {tpos : Pos} {z TI TO i1 i2 : Addr} {x y : Str} {t u : Tok} (S : ZipSep2 z TI TO i1 i2 [i1] [i2]) :
    Turn P w K (.Tuple elts kk tpos) (ItzS x y) [z, TI, TO, i1, i2] z (fun i h => IsZip h z TI TO .none ∧ IsTupOf2 h TI (.ref i1) (.ref i2) ∧ (∃ a b, IsTupOf2 h TO a b) ∧ h.IsStrIter i1 (strIterType x) x t i ∧ h.IsStrIter i2 (strIterType y) y u i ∧ i ≤ x.cps.size ∧ i ≤ y.cps.size) where
  mem := by simp
  obj := fun i h st c hc => by
    obtain ⟨hz, hTI, ⟨a, b, hTO⟩, ⟨o1, e1, _, d1⟩, ⟨o2, e2, _, d2⟩, _⟩ := st
    have e' : c = z ∨ c = TI ∨ c = TO ∨ c = i1 ∨ c = i2 := by simpa using hc
    rcases e' with q | q | q | q | q
    · rw [q]; exact ⟨_, hz, fun v q => nomatch q⟩
    · rw [q]; exact ⟨_, hTI, fun v q => nomatch q⟩
    · rw [q]; exact ⟨_, hTO, fun v q => nomatch q⟩
    · rw [q]; exact ⟨o1, e1, fun v q => by rw [d1] at q; cases q⟩
    · rw [q]; exact ⟨o2, e2, fun v q => by rw [d2] at q; cases q⟩
  keep := fun i h h' st k => by
    obtain ⟨hz, hTI, ⟨a, b, hTO⟩, ⟨o1, h1, r1⟩, ⟨o2, h2, r2⟩, le⟩ := st
    exact ⟨k z (by simp) _ hz, k TI (by simp) _ hTI, ⟨a, b, k TO (by simp) _ hTO⟩, ⟨o1, k i1 (by simp) _ h1, r1⟩, ⟨o2, k i2 (by simp) _ h2, r2⟩, le⟩
  item := by
    intro X hP hw hK hc i pins s σ H E I hf st hg
    subst hP hw hK
    obtain ⟨hz, hTI, ⟨x0, y0, hTO⟩, h1, h2, l1, l2⟩ := st
    have hh : X.A.in1.handled = none := I.ok.hd hc
    have hzl : z < s.heap.objs.size := Heap.lt_size hz
    refine wpAny_pyNext_zipD2_item S (Draws.text hh i1 x t) (Draws.text hh i2 y u) hz hTI hTO h1 h2 hg.1 hg.2 fun x1 x2 h' tk p1 p2 z' TO' h1' h2' hT hsz hk => ?_
    obtain ⟨c, u1, hc1, rfl⟩ := p1
    obtain ⟨d, u2, hd1, rfl⟩ := p2
    refine ⟨_, rfl, wpAny_letOwnedTupleGo_zip (s := { s with heap := h', toks := tk }) z' fun h'' z'' sb => ?_⟩
    have hT2 : h''.get? s.heap.objs.size = some { cls := .type "tuple", data := .seq #[.str ⟨#[c]⟩ u1, .str ⟨#[d]⟩ u2] } := (sb.2 _ (Nat.ne_of_gt hzl)).trans hT
    have new : ObjOk X.prog X.w (upd H s.heap.objs.size (.tup [.str ⟨#[c]⟩, .str ⟨#[d]⟩])) h'' s.heap.objs.size (.tup [.str ⟨#[c]⟩, .str ⟨#[d]⟩]) :=
      ⟨by show 2 ≤ sizeLine; decide, [.str ⟨#[c]⟩ u1, .str ⟨#[d]⟩ u2], .cons ⟨u1, rfl⟩ (.cons ⟨u2, rfl⟩ .nil), ⟨_, hT2, rfl, _, rfl⟩⟩
    have I1 : Inv X pins σ (upd H s.heap.objs.size (.tup [.str ⟨#[c]⟩, .str ⟨#[d]⟩])) { s with heap := h'', toks := tk } :=
      I.turnedNew (t' := tk) (ch := [z, TI, TO, i1, i2]) (fun c o hb q => (sb.2 c (fun q' => hb (by simp [q']))).trans (hk c o (fun q' => hb (by simp [q'])) (fun q' => hb (by simp [q'])) (fun q' => hb (by simp [q'])) (fun q' => hb (by simp [q'])) q)) hf (Nat.le_refl _) new
    refine ⟨.ref s.heap.objs.size, _, I1, rfl, ⟨_, c, d, rfl, I.hok.fresh (Nat.le_refl _), rfl, hc1, hd1⟩, ⟨z'', ?_, ⟨.str ⟨#[c]⟩ u1, .str ⟨#[d]⟩ u2, ?_⟩, ?_, ?_, hg.1, hg.2⟩, fun c hcm => ?_⟩
    · exact (sb.2 _ S.TIz).trans (hk _ _ S.TIz S.TITO S.TIi1 S.TIi2 hTI)
    · exact (sb.2 _ S.TOz).trans TO'
    · obtain ⟨o, e, r⟩ := h1'
      exact ⟨o, (sb.2 _ (Ne.symm S.zi1)).trans e, r⟩
    · obtain ⟨o, e, r⟩ := h2'
      exact ⟨o, (sb.2 _ (Ne.symm S.zi2)).trans e, r⟩
    · have hlt : c < s.heap.objs.size := by
        have e' : c = z ∨ c = TI ∨ c = TO ∨ c = i1 ∨ c = i2 := by simpa using hcm
        rcases e' with q | q | q | q | q
        · rw [q]; exact hzl
        · rw [q]; exact Heap.lt_size hTI
        · rw [q]; exact Heap.lt_size hTO
        · rw [q]; obtain ⟨_, e1, _⟩ := h1; exact Heap.lt_size e1
        · rw [q]; obtain ⟨_, e2, _⟩ := h2; exact Heap.lt_size e2
      rw [upd_ne (Nat.ne_of_lt hlt)]
      exact (hf c hcm).1
  done := by
    intro X hP hw hK hc i pins s σ H E I hf st hg
    subst hP hw hK
    obtain ⟨hz, hTI, ⟨x0, y0, hTO⟩, h1, h2, l1, l2⟩ := st
    have hh : X.A.in1.handled = none := I.ok.hd hc
    exact wpAny_pyNext_zipD2_end S (Draws.text hh i1 x t) (Draws.text hh i2 y u) hz hTI hTO h1 h2 l1 l2 (hg.elim (fun q => .inl (Nat.le_antisymm l1 q)) fun q => .inr (Nat.le_antisymm l2 q)) fun h' tk hk => ⟨rfl, I.turnedL (t' := tk) (ch := [z, TI, TO, i1, i2]) (fun c o hb q =>
      hk c o (fun q' => hb (by simp [q'])) (fun q' => hb (by simp [q'])) (fun q' => hb (by simp [q'])) (fun q' => hb (by simp [q'])) q) hf⟩
  self := fun A i s Q E st h => wpAny_pyIter_zip st.1 h

def iZipS (ta : TA) : TI := fun σ H R => ta σ H fun vs H1 => ∃ x y, vs = [.str x, .str y] ∧ R (ItzS x y) H1
theorem pi_zipS {X : Cx} {e e2 : Expr} {ta : TA} {p pos tpos : Pos} {elts : List Expr} {kk : Nat} (hg : Gl X "zip") (hm : X.mg "zip" = none) (ha : PA X [e, e2] ta)
    (hs : starEach [e, e2] X.env = (false, eval e X.env) :: starEach [e2] X.env := by rfl) (hpl : (backTo pos (starEach [e2] X.env)).any (·.1) = false := by rfl) :
    PI X (.Tuple elts kk tpos) (.Call (.Name "zip" p) [e, e2] [] pos) (iZipS ta) := by
  refine ⟨fun pins s σ H R I h => ?_⟩
  refine Call_ (ld_blt I hg hm PyProof.Rows.boot_zip (PyProof.Rows.callWith_type1 (thn (ha.run pos pins s σ H _ I h) fun us s1 ⟨vs, H1, I1, r1, q1⟩ => ?_) hs hpl))
  obtain ⟨x, y, ex, q⟩ := q1
  subst ex
  cases r1 with
  | cons r rr =>
    cases rr with
    | cons r' rr =>
      cases rr
      obtain ⟨t, rfl⟩ := r
      obtain ⟨u, rfl⟩ := r'
      refine zip_begins2 (begins_text x t) (begins_text y u) trivial trivial fun h' hz hTI hTO h1 h2 hsz hk => wpAny_pyIter_zip hz ?_
      have I2 : Inv X pins σ H1 { s1 with heap := h' } := I1.kept (t' := s1.toks) hk
      refine ⟨s1.heap.objs.size + 4, [s1.heap.objs.size + 4, s1.heap.objs.size + 2, s1.heap.objs.size + 3, s1.heap.objs.size, s1.heap.objs.size + 1], _, _, H1, rfl, I2, turn_zipS (x := x) (y := y) (t := t) (u := u) (zip_sep2 (fp1 := []) (fp2 := []) (by simp) (by simp)), ⟨hz, hTI, ⟨_, _, hTO⟩, ⟨_, h1, rfl, rfl⟩, ⟨_, h2, rfl, rfl⟩, Nat.zero_le _, Nat.zero_le _⟩, fun c hcm => ?_, q⟩
      have e' : c = s1.heap.objs.size + 4 ∨ c = s1.heap.objs.size + 2 ∨ c = s1.heap.objs.size + 3 ∨ c = s1.heap.objs.size ∨ c = s1.heap.objs.size + 1 := by simpa using hcm
      have hle : s1.heap.objs.size ≤ c := by
        rcases e' with z | z | z | z | z
        · rw [z]; exact Nat.le_add_right _ _
        · rw [z]; exact Nat.le_add_right _ _
        · rw [z]; exact Nat.le_add_right _ _
        · rw [z]; exact Nat.le_refl _
        · rw [z]; exact Nat.le_add_right _ _
      exact I1.fpOk hle (I1.hok.fresh hle)
theorem cut_takeL {l : List Nat} {k : Nat} (h : k ≤ l.length) : cutS (tx l) none (some (k : Int)) = tx (l.take k) := by
  unfold cutS
  rw [HT.sIx_none, HT.sIx_nat]
  show (⟨((l.drop 0).take (min k (tx l).length - 0)).toArray⟩ : Str) = _
  rw [tx_len, List.drop_zero, Nat.sub_zero, Nat.min_eq_left h]
theorem cut_dropL {l : List Nat} {k : Nat} (h : k ≤ l.length) : cutS (tx l) (some (k : Int)) none = tx (l.drop k) := by
  unfold cutS
  rw [HT.sIx_none, HT.sIx_nat]
  show (⟨((l.drop (min k (tx l).length)).take ((tx l).length - min k (tx l).length)).toArray⟩ : Str) = _
  rw [tx_len, Nat.min_eq_left h, List.take_of_length_le (by rw [List.length_drop]; omega)]
def sigs (x : Str) : List Str := x.cps.toList.map fun c => (⟨#[c]⟩ : Str)
section
variable {σ : L2.St} {G : Hp} {ta tb : TE}
theorem ei_zipS {x y : Str} (ha : Ev ta σ G x) (hb : Ev tb σ G y) : EvI (iZipS (tCons ta (tCons tb tNil))) σ G ((sigs x).zip (sigs y)) := fun H i R q =>
  ha H i _ fun v G1 H1 g1 k1 => (hb.mono g1.g) H1 g1.i _ fun w G2 H2 g2 k2 => by
    cases k1
    cases k2
    refine ⟨x, y, rfl, q _ G2 H2 (g1.trans g2) ⟨fun k H s l => ?_, fun k H s l => ?_, fun k H v H' Ga z s1 s2 yl e => ?_⟩⟩
    · simp only [List.length_zip, sigs, List.length_map, Array.length_toList] at l
      exact ⟨show k < x.cps.size by omega, show k < y.cps.size by omega⟩
    · simp only [List.length_zip, sigs, List.length_map, Array.length_toList] at l
      show x.cps.size ≤ k ∨ y.cps.size ≤ k
      omega
    · obtain ⟨T, c, d, rfl, nT, rfl, f1, f2⟩ := yl
      have ex : z = (⟨#[c]⟩, ⟨#[d]⟩) := by
        rw [List.getElem?_zip_eq_some] at e
        obtain ⟨e3, e4⟩ := e
        have c1 : x.cps.toList[k]? = some c := by rw [← f1]; simp
        have c2 : y.cps.toList[k]? = some d := by rw [← f2]; simp
        rw [sigs, List.getElem?_map, c1] at e3
        rw [sigs, List.getElem?_map, c2] at e4
        cases z
        exact congr (congrArg Prod.mk (Option.some.inj e3).symm) (Option.some.inj e4).symm
      subst ex
      have gn := gr_new (o := .tup [.str ⟨#[c]⟩, .str ⟨#[d]⟩]) s2 nT
      exact ⟨upd Ga T (.tup [.str ⟨#[c]⟩, .str ⟨#[d]⟩]), gn, T, .str ⟨#[c]⟩, .str ⟨#[d]⟩, rfl, upd_same, rfl, rfl⟩
end
end Pf

namespace Pf
open PySem PySem.Spec PyProof.Rows L2
open TL (tl numL)
private theorem room65 {k : Nat} {A : Around} (r : Room k A) : A.units + 65 < cLine := by have := r.un; omega
local macro_rules | `(tactic| walk_at "pf_sm") => `(tactic| first
  | assumption | exact Same.refl _ | exact Gr.g (by assumption)
  | ((refine' Same.trans ?_ (Gr.g (by assumption))); walk_at "pf_sm")
  | ((refine' Same.trans ?_ (by assumption)); walk_at "pf_sm"))
local macro_rules | `(tactic| walk_at "pf_rp") => `(tactic| first
  | assumption | exact rfl
  | ((refine' Rep.mono ?s ?h); (case h => assumption); (case s => walk_at "pf_sm")))
local macro_rules | `(tactic| walk_at "pf_side") => `(tactic| first
  | assumption | omega | decide | (exact Nat.le_of_ble_eq_true rfl) | (exact ⟨by omega, by omega⟩) | (exact .inr ⟨by decide, by decide⟩) | (exact .inl ⟨by decide, by decide⟩) | (exact .inr ⟨by omega, by omega⟩) | (exact .inl ⟨by omega, by omega⟩))
local macro_rules | `(tactic| walk_at "pf_ev") => `(tactic| (with_reducible show (_ : Prop)); first
  | with_reducible exact ev_int | with_reducible exact ev_bl | with_reducible exact ev_str
  | ((with_reducible show Ev (tVar _) _ _ _); exact ev_var (by rfl) (by walk_at "pf_rp"))
  | ((with_reducible refine' ev_add ?_ ?_) <;> try walk_at "pf_ev")
  | ((with_reducible refine' ev_sub ?_ ?_) <;> try walk_at "pf_ev")
  | ((with_reducible refine' ev_mul ?_ ?_ ?_) <;> try walk_at "pf_ev")
  | ((with_reducible refine' ev_fdiv ?_ ?_ ?_) <;> try walk_at "pf_ev")
  | ((with_reducible refine' ev_mod ?_ ?_ ?_) <;> try walk_at "pf_ev")
  | ((with_reducible refine' ev_lt ?_ ?_) <;> try walk_at "pf_ev")
  | ((with_reducible refine' ev_le ?_ ?_) <;> try walk_at "pf_ev")
  | ((with_reducible refine' ev_gt ?_ ?_) <;> try walk_at "pf_ev")
  | ((with_reducible refine' ev_ge ?_ ?_) <;> try walk_at "pf_ev")
  | ((with_reducible refine' ev_eqI ?_ ?_) <;> try walk_at "pf_ev")
  | ((with_reducible refine' ev_neI ?_ ?_) <;> try walk_at "pf_ev")
  | ((with_reducible refine' ev_neg ?_) <;> try walk_at "pf_ev")
  | ((with_reducible refine' ev_ixL ?_ ?_ ?_) <;> try walk_at "pf_ev")
  | ((with_reducible refine' ev_tup2 ?_ ?_) <;> try walk_at "pf_ev")
  | ((with_reducible refine' ev_tup3 ?_ ?_ ?_) <;> try walk_at "pf_ev")
  | ((with_reducible refine' ev_lenL ?_) <;> try walk_at "pf_ev")
  | ((with_reducible refine' ev_sum ?_) <;> try walk_at "pf_ev")
  | ((with_reducible refine' ev_all ?_) <;> try walk_at "pf_ev")
  | ((with_reducible refine' ev_any ?_) <;> try walk_at "pf_ev")
  | ((with_reducible refine' ev_abs ?_) <;> try walk_at "pf_ev")
  | ((with_reducible refine' ev_min2 ?_ ?_) <;> try walk_at "pf_ev")
  | ((with_reducible refine' ev_max2 ?_ ?_) <;> try walk_at "pf_ev")
  | ((with_reducible refine' ev_intB ?_) <;> try walk_at "pf_ev")
  | ((with_reducible refine' ev_call1 ?_ ?_) <;> try walk_at "pf_ev")
  | ((with_reducible refine' ev_call2 ?_ ?_ ?_) <;> try walk_at "pf_ev")
  | ((with_reducible refine' ev_call3 ?_ ?_ ?_ ?_) <;> try walk_at "pf_ev")
  | ((with_reducible refine' ev_call4 ?_ ?_ ?_ ?_ ?_) <;> try walk_at "pf_ev")
  | ((with_reducible refine' et_test ?_) <;> try walk_at "pf_ev")
  | ((with_reducible refine' et_B ?_) <;> try walk_at "pf_ev")
  | with_reducible exact et_yes
  | ((with_reducible refine' et_not ?_) <;> try walk_at "pf_ev")
  | ((with_reducible refine' et_and ?_ (fun _ => ?_)) <;> try walk_at "pf_ev")
  | ((with_reducible refine' et_or ?_ (fun _ => ?_)) <;> try walk_at "pf_ev")
  | ((with_reducible refine' ev_andV ?_ (fun _ => ?_)) <;> try walk_at "pf_ev")
  | ((with_reducible refine' ev_orV ?_ (fun _ => ?_)) <;> try walk_at "pf_ev")
  | ((with_reducible refine' ev_notV ?_) <;> try walk_at "pf_ev")
  | ((with_reducible refine' ei_r1 ?_ ?_) <;> try walk_at "pf_ev")
  | ((with_reducible refine' ei_r2 ?_ ?_ ?_) <;> try walk_at "pf_ev")
  | ((with_reducible refine' ei_list ?_) <;> try walk_at "pf_ev")
  | ((with_reducible refine' ei_tup ?_) <;> try walk_at "pf_ev")
  | with_reducible exact evs_nil
  | ((with_reducible refine' evs_cons ?_ ?_) <;> try walk_at "pf_ev")
  | ((with_reducible refine' ev_lst ?_ ?_) <;> try walk_at "pf_ev")
  | walk_at "pf_side")

def topS (i : Nat) : Stmt := PySem.Challenge.pw_pinchfold_k49_deeds_written_and_read.main.body.getD i (.Pass ⟨0, 0, 0, 0⟩)
abbrev s__law_bag : Stmt := topS 33
abbrev N__law_bag : List Str := ["_law_script", "_law_cells", "_law_one", "_law_salt"]
theorem sc__law_bag : FnScope N__law_bag ["_law_script"] (defScope s__law_bag) := ⟨rfl, rfl, rfl, by decide +kernel, rfl, by decide +kernel, by decide +kernel⟩
abbrev s__law_pull : Stmt := topS 40
abbrev N__law_pull : List Str := ["_law_bag_here", "_law_many", "_law_seed", "_law_blend", "_law_drawn"]
theorem sc__law_pull : FnScope N__law_pull ["_law_bag_here", "_law_many"] (defScope s__law_pull) := ⟨rfl, rfl, rfl, by decide +kernel, rfl, by decide +kernel, by decide +kernel⟩
abbrev s__law_alike : Stmt := topS 31
abbrev N__law_alike : List Str := ["_law_found", "_law_due", "_law_at"]
theorem sc__law_alike : FnScope N__law_alike ["_law_found", "_law_due"] (defScope s__law_alike) := ⟨rfl, rfl, rfl, by decide +kernel, rfl, by decide +kernel, by decide +kernel⟩
abbrev s__law_whole : Stmt := topS 41
abbrev N__law_whole : List Str := ["_law_found"]
theorem sc__law_whole : FnScope N__law_whole ["_law_found"] (defScope s__law_whole) := ⟨rfl, rfl, rfl, by decide +kernel, rfl, by decide +kernel, by decide +kernel⟩
abbrev s__law_pair : Stmt := topS 37
abbrev N__law_pair : List Str := ["_law_one", "_law_other"]
theorem sc__law_pair : FnScope N__law_pair ["_law_one", "_law_other"] (defScope s__law_pair) := ⟨rfl, rfl, rfl, by decide +kernel, rfl, by decide +kernel, by decide +kernel⟩
abbrev s__law_plan : Stmt := topS 38
abbrev N__law_plan : List Str := ["_law_bag_here", "_law_most", "_law_faces"]
theorem sc__law_plan : FnScope N__law_plan ["_law_bag_here", "_law_most"] (defScope s__law_plan) := ⟨rfl, rfl, rfl, by decide +kernel, rfl, by decide +kernel, by decide +kernel⟩
abbrev s__law_drawn_plan : Stmt := topS 36
abbrev N__law_drawn_plan : List Str := ["_law_bag_here", "_law_faces", "_law_rows", "_law_low", "_law_high"]
theorem sc__law_drawn_plan : FnScope N__law_drawn_plan ["_law_bag_here", "_law_faces"] (defScope s__law_drawn_plan) := ⟨rfl, rfl, rfl, by decide +kernel, rfl, by decide +kernel, by decide +kernel⟩
abbrev s__law_cut_arc : Stmt := topS 34
abbrev N__law_cut_arc : List Str := ["_law_bag_here", "_law_start", "_law_end", "_law_found", "_law_wide", "_law_way", "_law_middle"]
theorem sc__law_cut_arc : FnScope N__law_cut_arc ["_law_bag_here", "_law_start", "_law_end", "_law_found"] (defScope s__law_cut_arc) := ⟨rfl, rfl, rfl, by decide +kernel, rfl, by decide +kernel, by decide +kernel⟩
abbrev s__law_any_deed : Stmt := topS 32
abbrev N__law_any_deed : List Str := ["_law_bag_here", "_law_words", "_law_word", "_law_name", "_law_k", "_law_plan_here", "_law_some", "_law_slot"]
theorem sc__law_any_deed : FnScope N__law_any_deed ["_law_bag_here"] (defScope s__law_any_deed) := ⟨rfl, rfl, rfl, by decide +kernel, rfl, by decide +kernel, by decide +kernel⟩
abbrev s__law_deed_text : Stmt := topS 35
abbrev N__law_deed_text : List Str := ["_law_deed", "_law_words", "_law_thing"]
theorem sc__law_deed_text : FnScope N__law_deed_text ["_law_deed"] (defScope s__law_deed_text) := ⟨rfl, rfl, rfl, by decide +kernel, rfl, by decide +kernel, by decide +kernel⟩
abbrev s__law_plan_text : Stmt := topS 39
abbrev N__law_plan_text : List Str := ["_law_plan_here", "_law_low", "_law_high"]
theorem sc__law_plan_text : FnScope N__law_plan_text ["_law_plan_here"] (defScope s__law_plan_text) := ⟨rfl, rfl, rfl, by decide +kernel, rfl, by decide +kernel, by decide +kernel⟩
abbrev s_is_letter : Stmt := topS 7
abbrev N_is_letter : List Str := ["text"]
theorem sc_is_letter : FnScope N_is_letter ["text"] (defScope s_is_letter) := ⟨rfl, rfl, rfl, by decide +kernel, rfl, by decide +kernel, by decide +kernel⟩
abbrev s_is_name : Stmt := topS 11
abbrev N_is_name : List Str := ["text", "letter"]
theorem sc_is_name : FnScope N_is_name ["text"] (defScope s_is_name) := ⟨rfl, rfl, rfl, by decide +kernel, rfl, by decide +kernel, by decide +kernel⟩
abbrev s_plan_text : Stmt := topS 15
abbrev N_plan_text : List Str := ["plan", "faces", "cuts", "pairs", "low", "high"]
theorem sc_plan_text : FnScope N_plan_text ["plan"] (defScope s_plan_text) := ⟨rfl, rfl, rfl, by decide +kernel, rfl, by decide +kernel, by decide +kernel⟩
abbrev s_deed_text : Stmt := topS 16
abbrev N_deed_text : List Str := ["deed", "thing"]
theorem sc_deed_text : FnScope N_deed_text ["deed"] (defScope s_deed_text) := ⟨rfl, rfl, rfl, by decide +kernel, rfl, by decide +kernel, by decide +kernel⟩
abbrev s_thing_text : Stmt := topS 17
abbrev N_thing_text : List Str := ["thing"]
theorem sc_thing_text : FnScope N_thing_text ["thing"] (defScope s_thing_text) := ⟨rfl, rfl, rfl, by decide +kernel, rfl, by decide +kernel, by decide +kernel⟩
abbrev s_read_name : Stmt := topS 18
abbrev N_read_name : List Str := ["text"]
theorem sc_read_name : FnScope N_read_name ["text"] (defScope s_read_name) := ⟨rfl, rfl, rfl, by decide +kernel, rfl, by decide +kernel, by decide +kernel⟩
abbrev s_read_way : Stmt := topS 19
abbrev N_read_way : List Str := ["text"]
theorem sc_read_way : FnScope N_read_way ["text"] (defScope s_read_way) := ⟨rfl, rfl, rfl, by decide +kernel, rfl, by decide +kernel, by decide +kernel⟩
abbrev s_read_colour : Stmt := topS 20
abbrev N_read_colour : List Str := ["text"]
theorem sc_read_colour : FnScope N_read_colour ["text"] (defScope s_read_colour) := ⟨rfl, rfl, rfl, by decide +kernel, rfl, by decide +kernel, by decide +kernel⟩
abbrev s_read_letter : Stmt := topS 21
abbrev N_read_letter : List Str := ["text"]
theorem sc_read_letter : FnScope N_read_letter ["text"] (defScope s_read_letter) := ⟨rfl, rfl, rfl, by decide +kernel, rfl, by decide +kernel, by decide +kernel⟩
abbrev s_read_number : Stmt := topS 22
abbrev N_read_number : List Str := ["text"]
theorem sc_read_number : FnScope N_read_number ["text"] (defScope s_read_number) := ⟨rfl, rfl, rfl, by decide +kernel, rfl, by decide +kernel, by decide +kernel⟩
abbrev s_is_number : Stmt := topS 23
abbrev N_is_number : List Str := ["text", "figure"]
theorem sc_is_number : FnScope N_is_number ["text"] (defScope s_is_number) := ⟨rfl, rfl, rfl, by decide +kernel, rfl, by decide +kernel, by decide +kernel⟩
abbrev s_read_plan : Stmt := topS 24
abbrev N_read_plan : List Str := ["text", "faces", "colon", "pairs", "cuts", "pair"]
theorem sc_read_plan : FnScope N_read_plan ["text"] (defScope s_read_plan) := ⟨rfl, rfl, rfl, by decide +kernel, rfl, by decide +kernel, by decide +kernel⟩
abbrev s_read_cut : Stmt := topS 25
abbrev N_read_cut : List Str := ["text", "low", "dash", "high"]
theorem sc_read_cut : FnScope N_read_cut ["text"] (defScope s_read_cut) := ⟨rfl, rfl, rfl, by decide +kernel, rfl, by decide +kernel, by decide +kernel⟩
abbrev s_read_things : Stmt := topS 27
abbrev N_read_things : List Str := ["kinds", "words", "kind", "word"]
theorem sc_read_things : FnScope N_read_things ["kinds", "words"] (defScope s_read_things) := ⟨rfl, rfl, rfl, by decide +kernel, rfl, by decide +kernel, by decide +kernel⟩
abbrev s_read_thing : Stmt := topS 28
abbrev N_read_thing : List Str := ["kind", "word", "reader"]
theorem sc_read_thing : FnScope N_read_thing ["kind", "word"] (defScope s_read_thing) := ⟨rfl, rfl, rfl, by decide +kernel, rfl, by decide +kernel, by decide +kernel⟩
abbrev s_read_deed : Stmt := topS 29
abbrev N_read_deed : List Str := ["text", "first", "words", "things"]
theorem sc_read_deed : FnScope N_read_deed ["text"] (defScope s_read_deed) := ⟨rfl, rfl, rfl, by decide +kernel, rfl, by decide +kernel, by decide +kernel⟩
/-- what the text has -/
structure Tg (K : Fg) (mg : Str → Option Value) : Prop where
  _law_bag : Tx K mg "_law_bag" ["_law_script"] s__law_bag
  _law_pull : Tx K mg "_law_pull" ["_law_bag_here", "_law_many"] s__law_pull
  _law_alike : Tx K mg "_law_alike" ["_law_found", "_law_due"] s__law_alike
  _law_whole : Tx K mg "_law_whole" ["_law_found"] s__law_whole
  _law_pair : Tx K mg "_law_pair" ["_law_one", "_law_other"] s__law_pair
  _law_plan : Tx K mg "_law_plan" ["_law_bag_here", "_law_most"] s__law_plan
  _law_drawn_plan : Tx K mg "_law_drawn_plan" ["_law_bag_here", "_law_faces"] s__law_drawn_plan
  _law_cut_arc : Tx K mg "_law_cut_arc" ["_law_bag_here", "_law_start", "_law_end", "_law_found"] s__law_cut_arc
  _law_any_deed : Tx K mg "_law_any_deed" ["_law_bag_here"] s__law_any_deed
  _law_deed_text : Tx K mg "_law_deed_text" ["_law_deed"] s__law_deed_text
  _law_plan_text : Tx K mg "_law_plan_text" ["_law_plan_here"] s__law_plan_text
  is_letter : Tx K mg "is_letter" ["text"] s_is_letter
  is_name : Tx K mg "is_name" ["text"] s_is_name
  plan_text : Tx K mg "plan_text" ["plan"] s_plan_text
  deed_text : Tx K mg "deed_text" ["deed"] s_deed_text
  thing_text : Tx K mg "thing_text" ["thing"] s_thing_text
  read_name : Tx K mg "read_name" ["text"] s_read_name
  read_way : Tx K mg "read_way" ["text"] s_read_way
  read_colour : Tx K mg "read_colour" ["text"] s_read_colour
  read_letter : Tx K mg "read_letter" ["text"] s_read_letter
  read_number : Tx K mg "read_number" ["text"] s_read_number
  is_number : Tx K mg "is_number" ["text"] s_is_number
  read_plan : Tx K mg "read_plan" ["text"] s_read_plan
  read_cut : Tx K mg "read_cut" ["text"] s_read_cut
  read_things : Tx K mg "read_things" ["kinds", "words"] s_read_things
  read_thing : Tx K mg "read_thing" ["kind", "word"] s_read_thing
  read_deed : Tx K mg "read_deed" ["text"] s_read_deed
  LONGEST_NAME : ∃ t, mg "LONGEST_NAME" = some (.int 8 t)
  MOST_FIGURES : ∃ t, mg "MOST_FIGURES" = some (.int 4 t)
  LETTERS : ∃ t, mg "LETTERS" = some (.str "abcdefghijklmnopqrstuvwxyz" t)
  FIGURES : ∃ t, mg "FIGURES" = some (.str "0123456789" t)
  WAYS : ∃ a, mg "WAYS" = some (.ref a) ∧ ∀ H, SqT K H a [.str "even", .str "odd"]
  COLOURS : ∃ a, mg "COLOURS" = some (.ref a) ∧ ∀ H, SqT K H a [.str "red", .str "blue", .str "gold"]
  bl : Bl mg
abbrev ReadersW (w : World) (K : Fg) (mg : Str → Option Value) : Prop := ∃ a, mg "READERS" = some (.ref a) ∧ (∃ f, KDct K w a "name" (.ref f) ∧ mg "read_name" = some (.ref f)) ∧ (∃ f, KDct K w a "plan" (.ref f) ∧ mg "read_plan" = some (.ref f)) ∧ (∃ f, KDct K w a "way" (.ref f) ∧ mg "read_way" = some (.ref f)) ∧ (∃ f, KDct K w a "slot" (.ref f) ∧ mg "read_number" = some (.ref f)) ∧ (∃ f, KDct K w a "colour" (.ref f) ∧ mg "read_colour" = some (.ref f)) ∧ (∃ f, KDct K w a "letter" (.ref f) ∧ mg "read_letter" = some (.ref f))
def KindAt (w : World) (K : Fg) (a : Addr) (e : Str × List Str) : Prop := ∃ b, KDct K w a e.1 (.ref b) ∧ ∀ H, SqT K H b (e.2.map V.str)
abbrev ThingsW (w : World) (K : Fg) (mg : Str → Option Value) : Prop := ∃ a, mg "THINGS" = some (.ref a) ∧ (a == sysModules) = false ∧ ∀ e ∈ kindsL, KindAt w K a e
section
variable {σ : L2.St} {G H : Hp} {ta tb te : TE} {K : Fg} {w : World}
theorem ev_notInKD {a : Addr} {z : Str} {v : V} (ha : Ev ta σ G z) (hk : KDct K w a z v) (hs : (a == sysModules) = false) : Ev (tOp (rInKD K w true) ta (tC (.ref a))) σ G false := fun H i Q q => ha H i _ fun u G1 H1 g1 k1 => ⟨a, z, rep_str k1, rfl, hs, .inl ⟨⟨v, hk⟩, q _ G1 H1 g1 rfl⟩⟩
theorem sig_all (l : List Nat) (p : Nat → Bool) : (((l.map fun c => (⟨#[c]⟩ : Str)).map fun y => y.cps.toList.all p).all id) = l.all p := by
  induction l with
  | nil => rfl
  | cons c l ih => rw [List.map_cons, List.map_cons, List.all_cons, List.all_cons, ih]; simp
theorem one_sig {z : Str} (h : z.length = 1) : ∃ c, z = ⟨#[c]⟩ := by
  obtain ⟨⟨l⟩⟩ := z
  match l, h with
  | [c], _ => exact ⟨c, rfl⟩
end
section
variable {P : Program} {w : World} {K : Fg} {mg : Str → Option Value} {base : Heap}
theorem q_is_letter (T : Tg K mg) : Df P w K mg base 1 "is_letter" ["text"] (sp1 (fun (z : Str) => z.length ≤ 90000) letB) := by
  refine T.is_letter.ok sc_is_letter (fun vs H Q E h => ?_) (fun cdv f A outer s H vs Q E hr h => ?_)
  · obtain ⟨v, x, G, rfl, _⟩ := h
    rfl
  obtain ⟨v, z, G, rfl, i, r1, hl, q⟩ := h
  cases r1
  have bl := T.bl
  obtain ⟨t_L, m_LETTERS⟩ := T.LETTERS
  refine ⟨_, (pss_one (ps_ret (pe_and (pe_cmpR op_eq (pe_callB call_len_str (by rfl) (bl "len" (by decide)) (by decide +kernel) (pa_cons (pv 0) pa_nil)) pe_int (nomark _)) (pe_one (pe_cmpR op_inC (pv 0) (pe_glob (v := .str "abcdefghijklmnopqrstuvwxyz") (by rfl) m_LETTERS ⟨_, rfl⟩) (by rfl)))))), ?_⟩
  refine st_ret (G := G) (x := letB z) (Ev.cast (ev_andV (b := z.cps.toList.all lowB) (ev_eqI (ev_lenS (ev_var (x := z) rfl rfl) (by omega)) ev_int) (fun hb => ?_)) ?_) i (fun v G' H' g r => q v G' H' g r)
  · obtain ⟨c, rfl⟩ := one_sig (z := z) (by have := of_decide_eq_true hb; omega)
    exact Ev.cast (ev_inC (c := c) (ev_var rfl rfl) ev_str) (by simp [lowB])
  · unfold letB
    congr 1
    exact decide_eq_decide.mpr (by omega)
theorem q_is_name (T : Tg K mg) : Df P w K mg base 1 "is_name" ["text"] (sp1 (fun (z : Str) => z.length ≤ 90000) nameB) := by
  refine T.is_name.ok sc_is_name (fun vs H Q E h => ?_) (fun cdv f A outer s H vs Q E hr h => ?_)
  · obtain ⟨v, x, G, rfl, _⟩ := h
    rfl
  obtain ⟨v, z, G, rfl, i, r1, hl, q⟩ := h
  cases r1
  have bl := T.bl
  obtain ⟨t_L, m_LETTERS⟩ := T.LETTERS
  obtain ⟨t_N, m_LONGEST_NAME⟩ := T.LONGEST_NAME
  refine ⟨_, (pss_cons (ps_if (PW.pt (pw_or (pt_cmpR op_lt (pe_callB call_len_str (by rfl) (bl "len" (by decide)) (by decide +kernel) (pa_cons (pv 0) pa_nil)) pe_int (nomark _)) (pw_or1 (pt_cmpR op_gt (pe_callB call_len_str (by rfl) (bl "len" (by decide)) (by decide +kernel) (pa_cons (pv 0) pa_nil)) (pe_glob (v := .int 8) (by rfl) m_LONGEST_NAME ⟨_, rfl⟩) (nomark _)))))
      (pss_one (ps_ret pe_bl))
      pss_nil)
    (pss_one (ps_ret (pe_callB (cr_allK (K := K) rfl rfl) (by rfl) (bl "all" (by decide)) (by decide +kernel) (pa_cons (pe_lc (own := [("letter", 1)]) rfl sc_is_name.nd (pi_str (pv 0)) (blkOk_by (own := [("letter", 1)]) (N := N_is_name) (sc := defScope s_is_name) (by decide +kernel)) (fun _ _ _ _ _ => (pg_name (i := 1) sc_is_name.nd rfl (by first | exact .inl rfl | exact .inr rfl))) (fun _ _ _ _ _ => pts_nil) (fun _ _ _ _ _ => (pe_cmpR op_inC (pv 1) (pe_glob (v := .str "abcdefghijklmnopqrstuvwxyz") (by rfl) m_LETTERS ⟨_, rfl⟩) (by rfl)))) pa_nil))))), ?_⟩
  have e1 : decide ((z.length : Int) < 1) = decide (z.length < 1) := decide_eq_decide.mpr (by omega)
  have e2 : decide ((z.length : Int) > 8) = decide (8 < z.length) := decide_eq_decide.mpr (by omega)
  refine sq_ifn (G := G) (et_or (et_test (ev_lt (ev_lenS (ev_var (x := z) rfl rfl) (by omega)) ev_int)) (fun _ => et_test (ev_gt (ev_lenS (ev_var (x := z) rfl rfl) (by omega)) ev_int))) i (fun hb G1 H1 g1 => ?_) (fun hb G1 H1 g1 => ?_)
  · refine st_ret (G := G1) (x := nameB z) (Ev.cast (ev_bl (n := false)) ?_) g1.i (fun v G' H' g r => q v G' H' (g1.trans g) r)
    rw [e1, e2] at hb
    unfold nameB
    rw [hb]; rfl
  · refine st_ret (G := G1) (x := nameB z) (Ev.cast (ev_all (ev_lc (xs := z.cps.toList.map fun c => (⟨#[c]⟩ : Str)) (f := fun y => y.cps.toList.all lowB) (ei_str (ev_var (x := z) rfl rfl)) (by rw [List.length_map, ← TL.len_tl]; omega) ?_)) ?_) g1.i (fun v G' H' g r => q v G' H' (g1.trans g) r)
    · intro y hy v1 G9 s9 rx
      obtain ⟨c, _, rfl⟩ := List.mem_map.mp hy
      exact gb_name ⟨rfl, Ev.cast (ev_inC (c := c) (ev_var rfl rx) ev_str) (by simp [lowB])⟩
    · rw [e1, e2] at hb
      rw [sig_all]
      unfold nameB
      rw [hb]; rfl
theorem q_is_number (T : Tg K mg) : Df P w K mg base 1 "is_number" ["text"] (sp1 (fun (z : Str) => z.length ≤ 90000) numB) := by
  refine T.is_number.ok sc_is_number (fun vs H Q E h => ?_) (fun cdv f A outer s H vs Q E hr h => ?_)
  · obtain ⟨v, x, G, rfl, _⟩ := h
    rfl
  obtain ⟨v, z, G, rfl, i, r1, hl, q⟩ := h
  cases r1
  have bl := T.bl
  obtain ⟨t_L, m_FIGURES⟩ := T.FIGURES
  obtain ⟨t_N, m_MOST_FIGURES⟩ := T.MOST_FIGURES
  refine ⟨_, (pss_cons (ps_if (PW.pt (pw_or (pt_cmpR op_lt (pe_callB call_len_str (by rfl) (bl "len" (by decide)) (by decide +kernel) (pa_cons (pv 0) pa_nil)) pe_int (nomark _)) (pw_or1 (pt_cmpR op_gt (pe_callB call_len_str (by rfl) (bl "len" (by decide)) (by decide +kernel) (pa_cons (pv 0) pa_nil)) (pe_glob (v := .int 4) (by rfl) m_MOST_FIGURES ⟨_, rfl⟩) (nomark _)))))
      (pss_one (ps_ret pe_bl))
      pss_nil)
    (pss_cons (ps_if (pt_not (pt_val (pe_callB (cr_allK (K := K) rfl rfl) (by rfl) (bl "all" (by decide)) (by decide +kernel) (pa_cons (pe_lc (own := [("figure", 1)]) rfl sc_is_number.nd (pi_str (pv 0)) (blkOk_by (own := [("figure", 1)]) (N := N_is_number) (sc := defScope s_is_number) (by decide +kernel)) (fun _ _ _ _ _ => (pg_name (i := 1) sc_is_number.nd rfl (by first | exact .inl rfl | exact .inr rfl))) (fun _ _ _ _ _ => pts_nil) (fun _ _ _ _ _ => (pe_cmpR op_inC (pv 1) (pe_glob (v := .str "0123456789") (by rfl) m_FIGURES ⟨_, rfl⟩) (by rfl)))) pa_nil))))
      (pss_one (ps_ret pe_bl))
      pss_nil)
    (pss_one (ps_ret (pe_or (pe_cmpR op_eq (pv 0) pe_str (nomark _)) (pe_one (pe_cmpR op_ne (pe_ix ix_str (pv 0) pe_int (fun _ _ => rfl)) pe_str (nomark _)))))))), ?_⟩
  have e1 : decide ((z.length : Int) < 1) = decide (z.length < 1) := decide_eq_decide.mpr (by omega)
  have e2 : decide ((z.length : Int) > 4) = decide (4 < z.length) := decide_eq_decide.mpr (by omega)
  refine sq_ifn (G := G) (et_or (et_test (ev_lt (ev_lenS (ev_var (x := z) rfl rfl) (by omega)) ev_int)) (fun _ => et_test (ev_gt (ev_lenS (ev_var (x := z) rfl rfl) (by omega)) ev_int))) i (fun hb G1 H1 g1 => ?_) (fun hb G1 H1 g1 => ?_)
  · refine st_ret (G := G1) (x := numB z) (Ev.cast (ev_bl (n := false)) ?_) g1.i (fun v G' H' g r => q v G' H' (g1.trans g) r)
    rw [e1, e2] at hb
    unfold numB
    rw [hb]; rfl
  rw [e1, e2] at hb
  refine sq_ifn (G := G1) (b := !(z.cps.toList.all figB)) (et_not (et_B (Ev.cast (ev_all (ev_lc (xs := z.cps.toList.map fun c => (⟨#[c]⟩ : Str)) (f := fun y => y.cps.toList.all figB) (ei_str (ev_var (x := z) rfl rfl)) (by rw [List.length_map, ← TL.len_tl]; omega) ?_)) (sig_all _ _)))) g1.i (fun hb2 G2 H2 g2 => ?_) (fun hb2 G2 H2 g2 => ?_)
  · intro y hy v1 G9 s9 rx
    obtain ⟨c, _, rfl⟩ := List.mem_map.mp hy
    exact gb_name ⟨rfl, Ev.cast (ev_inC (c := c) (ev_var rfl rx) ev_str) (by simp [figB])⟩
  · refine st_ret (G := G2) (x := numB z) (Ev.cast (ev_bl (n := false)) ?_) g2.i (fun v G' H' g r => q v G' H' ((g1.trans g2).trans g) r)
    have hb2 : z.cps.toList.all figB = false := by simpa using hb2
    unfold numB
    rw [hb, hb2]; rfl
  · have hb2 : z.cps.toList.all figB = true := by simpa using hb2
    have hlen : 1 ≤ z.length := by
      simp only [Bool.or_eq_false_iff, decide_eq_false_iff_not] at hb
      omega
    obtain ⟨c, hc⟩ : ∃ c, z.cps.toList[0]? = some c := ⟨_, List.getElem?_eq_getElem (by rw [← TL.len_tl]; omega)⟩
    refine st_ret (G := G2) (x := numB z) (Ev.cast (ev_orV (b := !decide ((⟨#[c]⟩ : Str) = "0")) (ev_eqS (ev_var (x := z) rfl rfl) ev_str) (fun _ => ev_neS (ev_ixS (c := c) (n := 0) (ev_var (x := z) rfl rfl) ev_int (by omega) ?_) ev_str)) ?_) g2.i (fun v G' H' g r => q v G' H' ((g1.trans g2).trans g) r)
    · exact atI_nat hc
    · unfold numB
      rw [hb, hb2, hc]
      have e0 : (("0" : Str)) = ⟨#[48]⟩ := by decide +kernel
      have e3 : decide ((⟨#[c]⟩ : Str) = "0") = decide (some c = some 48) := decide_eq_decide.mpr ⟨fun z => by rw [e0] at z; injection z with z; simp at z; rw [z], fun z => by rw [e0, Option.some.inj z]⟩
      rw [e3]; rfl
theorem q_read_name (T : Tg K mg) : Df P w K mg base 2 "read_name" ["text"] (sp1 (fun (z : Str) => z.length ≤ 90000 ∧ nameB z = true) (fun z => z)) := by
  refine T.read_name.ok sc_read_name (fun vs H Q E h => ?_) (fun cdv f A outer s H vs Q E hr h => ?_)
  · obtain ⟨v, x, G, rfl, _⟩ := h
    rfl
  obtain ⟨v, z, G, rfl, i, r1, ⟨hl, hn⟩, q⟩ := h
  have bl := T.bl
  refine ⟨_, (pss_cons (ps_if (pt_not (pt_val (pe_df (q_is_name T) hr (by first | decide | omega) (by rfl) (pa_cons (pv 0) pa_nil))))
      (pss_one ps_never)
      pss_nil)
    (pss_one (ps_ret (pv 0)))), ?_⟩
  refine sq_ifn (G := G) (et_not (et_B (Ev.cast (ev_call1 (f := nameB) (ev_var rfl r1) hl) hn))) i (fun hb _ _ _ => by cases hb) (fun _ G1 H1 g1 => ?_)
  exact st_ret (G := G1) (ev_var rfl (Rep.mono g1.g r1)) g1.i (fun v G' H' g r => q v G' H' (g1.trans g) r)
theorem q_read_letter (T : Tg K mg) : Df P w K mg base 2 "read_letter" ["text"] (sp1 (fun (z : Str) => z.length ≤ 90000 ∧ letB z = true) (fun z => z)) := by
  refine T.read_letter.ok sc_read_letter (fun vs H Q E h => ?_) (fun cdv f A outer s H vs Q E hr h => ?_)
  · obtain ⟨v, x, G, rfl, _⟩ := h
    rfl
  obtain ⟨v, z, G, rfl, i, r1, ⟨hl, hn⟩, q⟩ := h
  have bl := T.bl
  refine ⟨_, (pss_cons (ps_if (pt_not (pt_val (pe_df (q_is_letter T) hr (by first | decide | omega) (by rfl) (pa_cons (pv 0) pa_nil))))
      (pss_one ps_never)
      pss_nil)
    (pss_one (ps_ret (pv 0)))), ?_⟩
  refine sq_ifn (G := G) (et_not (et_B (Ev.cast (ev_call1 (f := letB) (ev_var rfl r1) hl) hn))) i (fun hb _ _ _ => by cases hb) (fun _ G1 H1 g1 => ?_)
  exact st_ret (G := G1) (ev_var rfl (Rep.mono g1.g r1)) g1.i (fun v G' H' g r => q v G' H' (g1.trans g) r)
theorem q_read_number (T : Tg K mg) : Df P w K mg base 2 "read_number" ["text"] (sp1 (fun (z : Str) => z.length ≤ 90000 ∧ numB z = true) intM) := by
  refine T.read_number.ok sc_read_number (fun vs H Q E h => ?_) (fun cdv f A outer s H vs Q E hr h => ?_)
  · obtain ⟨v, x, G, rfl, _⟩ := h
    rfl
  obtain ⟨v, z, G, rfl, i, r1, ⟨hl, hn⟩, q⟩ := h
  have bl := T.bl
  obtain ⟨n1, n2⟩ := numB_some hn
  refine ⟨_, (pss_cons (ps_if (pt_not (pt_val (pe_df (q_is_number T) hr (by first | decide | omega) (by rfl) (pa_cons (pv 0) pa_nil))))
      (pss_one ps_never)
      pss_nil)
    (pss_one (ps_ret (pe_callTy call_int_str (by rfl) (bl "int" (by decide)) (by decide +kernel) (pa_cons (pv 0) pa_nil))))), ?_⟩
  refine sq_ifn (G := G) (et_not (et_B (Ev.cast (ev_call1 (f := numB) (ev_var rfl r1) hl) hn))) i (fun hb _ _ _ => by cases hb) (fun _ G1 H1 g1 => ?_)
  exact st_ret (G := G1) (ev_intS (ev_var rfl (Rep.mono g1.g r1)) n1 (by omega)) g1.i (fun v G' H' g r => q v G' H' (g1.trans g) r)
end


open TL (tl numL)
section
variable {P : Program} {w : World} {K : Fg} {mg : Str → Option Value} {base : Heap}
theorem q_read_way (T : Tg K mg) : Df P w K mg base 1 "read_way" ["text"] (sp1 (fun (z : Str) => z ∈ waysL) (fun z => z)) := by
  refine T.read_way.ok sc_read_way (fun vs H Q E h => ?_) (fun cdv f A outer s H vs Q E hr h => ?_)
  · obtain ⟨v, x, G, rfl, _⟩ := h
    rfl
  obtain ⟨v, z, G, rfl, i, r1, hm, q⟩ := h
  obtain ⟨a_WAYS, m_WAYS, hS⟩ := T.WAYS
  refine ⟨_, (pss_cons (ps_if (pt_cmpR op_notIn_seq (pv 0) (pe_glob (v := .ref a_WAYS) (by rfl) m_WAYS rfl) (by rfl))
      (pss_one ps_never)
      pss_nil)
    (pss_one (ps_ret (pv 0)))), ?_⟩
  refine sq_ifn (G := G) (et_test (Ev.cast (ev_notInS (ys := waysL) (ev_var rfl r1) hS) (by rw [decide_eq_true hm]))) i (fun hb _ _ _ => by cases hb) (fun _ G1 H1 g1 => ?_)
  exact st_ret (G := G1) (ev_var rfl (Rep.mono g1.g r1)) g1.i (fun v G' H' g r => q v G' H' (g1.trans g) r)
theorem q_read_colour (T : Tg K mg) : Df P w K mg base 1 "read_colour" ["text"] (sp1 (fun (z : Str) => z ∈ coloursL) (fun z => z)) := by
  refine T.read_colour.ok sc_read_colour (fun vs H Q E h => ?_) (fun cdv f A outer s H vs Q E hr h => ?_)
  · obtain ⟨v, x, G, rfl, _⟩ := h
    rfl
  obtain ⟨v, z, G, rfl, i, r1, hm, q⟩ := h
  obtain ⟨a_COLOURS, m_COLOURS, hS⟩ := T.COLOURS
  refine ⟨_, (pss_cons (ps_if (pt_cmpR op_notIn_seq (pv 0) (pe_glob (v := .ref a_COLOURS) (by rfl) m_COLOURS rfl) (by rfl))
      (pss_one ps_never)
      pss_nil)
    (pss_one (ps_ret (pv 0)))), ?_⟩
  refine sq_ifn (G := G) (et_test (Ev.cast (ev_notInS (ys := coloursL) (ev_var rfl r1) hS) (by rw [decide_eq_true hm]))) i (fun hb _ _ _ => by cases hb) (fun _ G1 H1 g1 => ?_)
  exact st_ret (G := G1) (ev_var rfl (Rep.mono g1.g r1)) g1.i (fun v G' H' g r => q v G' H' (g1.trans g) r)
theorem part_len (z y : Str) (hy : y.length = 1) : (Txt.partition z y).1.length ≤ z.length ∧ (Txt.partition z y).2.2.length ≤ z.length := ⟨(PyProof.Rows.fact_partition z y).1, (PyProof.Rows.fact_partition z y).2.2⟩
theorem q_read_cut (T : Tg K mg) : Df P w K mg base 3 "read_cut" ["text"] (sp1 (fun (z : Str) => z.length ≤ 80000 ∧ cutOk z = true) cutM2) := by
  refine T.read_cut.ok sc_read_cut (fun vs H Q E h => ?_) (fun cdv f A outer s H vs Q E hr h => ?_)
  · obtain ⟨v, x, G, rfl, _⟩ := h
    rfl
  obtain ⟨v, z, G, rfl, i, r1, ⟨hl, hc⟩, q⟩ := h
  unfold cutOk at hc
  rw [Bool.and_eq_true] at hc
  obtain ⟨l1, l2⟩ := part_len z "-" (by decide +kernel)
  refine ⟨_, (pss_cons (ps_asg (pe_partition (pv 0) pe_str) (pg_tupK (K := K) (n := 3) rfl (pg_tup rfl (pgs_cons (pg_name (i := 1) sc_read_cut.nd rfl (by first | exact .inl rfl | exact .inr rfl)) (pgs_cons (pg_name (i := 2) sc_read_cut.nd rfl (by first | exact .inl rfl | exact .inr rfl)) (pgs_cons (pg_name (i := 3) sc_read_cut.nd rfl (by first | exact .inl rfl | exact .inr rfl)) pgs_nil))))))
    (pss_one (ps_ret (pe_tup (pa_cons (pe_df (q_read_number T) hr (by first | decide | omega) (by rfl) (pa_cons (pv 1) pa_nil)) (pa_cons (pe_df (q_read_number T) hr (by first | decide | omega) (by rfl) (pa_cons (pv 3) pa_nil)) pa_nil)))))), ?_⟩
  refine sq_tri (G := G) (ev_partS (b := "-") (ev_var rfl r1) ev_str (by decide +kernel) (by omega)) i (fun v1 v2 v3 G1 H1 g1 k1 k2 k3 => ?_)
  exact st_ret (G := G1) (x := cutM2 z) (ev_tup2 (ev_call1 (f := intM) (ev_var rfl k1) ⟨by omega, hc.1⟩) (ev_call1 (f := intM) (ev_var rfl k3) ⟨by omega, hc.2⟩)) g1.i (fun v G' H' g r => q v G' H' (g1.trans g) r)
theorem q_read_plan (T : Tg K mg) : Df P w K mg base 4 "read_plan" ["text"] (sp1 (fun (z : Str) => z.length ≤ 80000 ∧ planOk z = true) planM2) := by
  refine T.read_plan.ok sc_read_plan (fun vs H Q E h => ?_) (fun cdv f A outer s H vs Q E hr h => ?_)
  · obtain ⟨v, x, G, rfl, _⟩ := h
    rfl
  obtain ⟨v, z, G, rfl, i, r1, ⟨hl, hc⟩, q⟩ := h
  have bl := T.bl
  unfold planOk at hc
  simp only [Bool.and_eq_true, Bool.not_eq_true', decide_eq_false_iff_not, Bool.or_eq_true, decide_eq_true_eq] at hc
  obtain ⟨c1, c2, c3⟩ := hc
  obtain ⟨l1, l2⟩ := part_len z ":" (by decide +kernel)
  refine ⟨_, (pss_cons (ps_asg (pe_partition (pv 0) pe_str) (pg_tupK (K := K) (n := 3) rfl (pg_tup rfl (pgs_cons (pg_name (i := 1) sc_read_plan.nd rfl (by first | exact .inl rfl | exact .inr rfl)) (pgs_cons (pg_name (i := 2) sc_read_plan.nd rfl (by first | exact .inl rfl | exact .inr rfl)) (pgs_cons (pg_name (i := 3) sc_read_plan.nd rfl (by first | exact .inl rfl | exact .inr rfl)) pgs_nil))))))
    (pss_cons (ps_if (pt_cmpR op_eq (pv 2) pe_str (nomark _))
      (pss_one ps_never)
      pss_nil)
    (pss_cons (ps_set (i := 4) sc_read_plan.nd rfl (by first | exact .inl rfl | exact .inr rfl) (pe_ifExp (pt_cmpR op_eq (pv 3) pe_str (nomark _)) (pe_lst pa_nil) (pe_lc (own := [("pair", 5)]) rfl sc_read_plan.nd (pi_listK (K := K) rfl (pe_split (pv 3) pe_str)) (blkOk_by (own := [("pair", 5)]) (N := N_read_plan) (sc := defScope s_read_plan) (by decide +kernel)) (fun _ _ _ _ _ => (pg_name (i := 5) sc_read_plan.nd rfl (by first | exact .inl rfl | exact .inr rfl))) (fun _ _ _ _ _ => pts_nil) (fun _ _ _ _ _ => (pe_df (q_read_cut T) hr (by first | decide | omega) (by rfl) (pa_cons (pv 5) pa_nil))))))
    (pss_one (ps_ret (pe_tup (pa_cons (pe_df (q_read_number T) hr (by first | decide | omega) (by rfl) (pa_cons (pv 1) pa_nil)) (pa_cons (pe_callTy (call_tupleK (K := K) rfl) (by rfl) (bl "tuple" (by decide)) (by decide +kernel) (pa_cons (pv 4) pa_nil)) pa_nil)))))))), ?_⟩
  refine sq_tri (G := G) (ev_partS (b := ":") (ev_var rfl r1) ev_str (by decide +kernel) (by omega)) i (fun v1 v2 v3 G1 H1 g1 k1 k2 k3 => ?_)
  refine sq_ifn (G := G1) (et_test (Ev.cast (ev_eqS (ev_var rfl k2) ev_str) (decide_eq_false c1))) g1.i (fun hb _ _ _ => by cases hb) (fun _ G2 H2 g2 => ?_)
  have k32 := Rep.mono g2.g k3
  have hsl := PyProof.Rows.split_le (Txt.partition z ":").2.2 ","
  refine sq_set (G := G2) (x := (planM2 z).2.l) (Ev.cast (ev_if (b := decide ((Txt.partition z ":").2.2 = "")) (x := ([] : List (Int × Int))) (y := (Txt.split (Txt.partition z ":").2.2 ",").map cutM2) (et_test (ev_eqS (ev_var rfl k32) ev_str)) (fun _ => ev_lst evs_nil (by decide)) (fun hb => ?_)) ?_) g2.i (fun cv G3 H3 g3 rc => ?_)
  · have hb := of_decide_eq_false hb
    have c3 := c3.resolve_left hb
    refine ev_lc (xs := Txt.split (Txt.partition z ":").2.2 ",") (f := cutM2) (ei_list (ev_splitS (a := (Txt.partition z ":").2.2) (b := ",") (ev_var rfl k32) ev_str (by decide +kernel) (by omega))) (by omega) ?_
    intro y hy v1 G9 s9 rx
    have hyl := PyProof.Rows.part_short hy
    exact gb_name ⟨rfl, ev_call1 (f := cutM2) (ev_var rfl rx) ⟨by omega, List.all_eq_true.mp c3 y hy⟩⟩
  · unfold planM2
    by_cases e : (Txt.partition z ":").2.2 = ""
    · rw [decide_eq_true e, if_pos rfl, if_pos e]
    · rw [decide_eq_false e, if_neg (by decide), if_neg e]
  have k13 := Rep.mono (g2.g.trans g3.g) k1
  exact st_ret (G := G3) (x := planM2 z) (ev_tup2 (ev_call1 (f := intM) (ev_var rfl k13) ⟨by omega, c2⟩) (ev_tupleL (ev_var rfl rc))) g3.i (fun v G' H' g r => q v G' H' (((g1.trans g2).trans g3).trans g) r)
theorem q_read_thing (T : Tg K mg) (R : ReadersW w K mg) : Df P w K mg base 5 "read_thing" ["kind", "word"] (sp2 (fun (k z : Str) => z.length ≤ 80000 ∧ thOk k z = true) thgM) := by
  obtain ⟨a_READERS, m_READERS, ⟨f1, k1, m1⟩, ⟨f2, k2, m2⟩, ⟨f3, k3, m3⟩, ⟨f4, k4, m4⟩, ⟨f5, k5, m5⟩, ⟨f6, k6, m6⟩⟩ := R
  refine T.read_thing.ok sc_read_thing (fun vs H Q E h => ?_) (fun cdv f A outer s H vs Q E hr h => ?_)
  · obtain ⟨v, x, v2, x2, G, rfl, _⟩ := h
    rfl
  obtain ⟨v, k, v2, z, G, rfl, i, r1, r2, ⟨hl, hok⟩, q⟩ := h
  cases r1; cases r2
  refine ⟨_, (pss_cons (ps_set (i := 2) sc_read_thing.nd rfl (by first | exact .inl rfl | exact .inr rfl) (pe_ix ix_kdict (pe_glob (v := .ref a_READERS) (by rfl) m_READERS rfl) (pv 0) (fun _ _ => rfl)))
    (pss_one (ps_ret (pe_callD (P := P) (w := w) (K := K) (mg := mg) (base := base) (k := 4) (i := 2) rfl rfl rfl rfl rfl (hr.mono (by first | decide | omega)) rfl (by first | exact Or.inl rfl | exact Or.inr (Or.inl rfl) | exact Or.inr (Or.inr rfl)) (pa_cons (pv 1) pa_nil))))), ?_⟩
  have fin : ∀ (f : Addr) (sp : Sp), KDct K w a_READERS k (.ref f) → Held P w K mg base 4 f sp → (sp [.str z] H (fun v H' => Q v H') E0) → tSeq (tAsg (tOp (rIxD K w) (tC (.ref a_READERS)) (tVar 0)) (gName 2)) (tRet (tCallD P w K mg base 4 2 (tCons (tVar 1) tNil))) { nx := fun _ H' => Q .non H', rt := Q } (start N_read_thing [.str k, .str z]) H := fun f sp hk hh hs =>
    ⟨.str k, rfl, a_READERS, k, .ref f, rfl, rfl, hk, f, sp, rfl, hh, .str z, rfl, hs⟩
  unfold thOk at hok
  split at hok
  · next e =>
    subst e
    refine fin f1 _ k1 (((q_read_name T).mono (by decide)).held m1) ⟨_, z, G, rfl, i, rfl, ⟨by omega, hok⟩, fun v' G' H' g r => q v' G' H' g ?_⟩
    unfold thgM; rw [if_neg (by decide +kernel), if_neg (by decide +kernel)]; exact r
  split at hok
  · next e =>
    subst e
    refine fin f2 _ k2 ((q_read_plan T).held m2) ⟨_, z, G, rfl, i, rfl, ⟨by omega, hok⟩, fun v' G' H' g r => q v' G' H' g ?_⟩
    unfold thgM; rw [if_pos rfl]; exact r
  split at hok
  · next e =>
    subst e
    refine fin f3 _ k3 (((q_read_way T).mono (by decide)).held m3) ⟨_, z, G, rfl, i, rfl, of_decide_eq_true hok, fun v' G' H' g r => q v' G' H' g ?_⟩
    unfold thgM; rw [if_neg (by decide +kernel), if_neg (by decide +kernel)]; exact r
  split at hok
  · next e =>
    subst e
    refine fin f4 _ k4 (((q_read_number T).mono (by decide)).held m4) ⟨_, z, G, rfl, i, rfl, ⟨by omega, hok⟩, fun v' G' H' g r => q v' G' H' g ?_⟩
    unfold thgM; rw [if_neg (by decide +kernel), if_pos rfl]; exact r
  split at hok
  · next e =>
    subst e
    refine fin f5 _ k5 (((q_read_colour T).mono (by decide)).held m5) ⟨_, z, G, rfl, i, rfl, of_decide_eq_true hok, fun v' G' H' g r => q v' G' H' g ?_⟩
    unfold thgM; rw [if_neg (by decide +kernel), if_neg (by decide +kernel)]; exact r
  split at hok
  · next e =>
    subst e
    refine fin f6 _ k6 (((q_read_letter T).mono (by decide)).held m6) ⟨_, z, G, rfl, i, rfl, ⟨by omega, hok⟩, fun v' G' H' g r => q v' G' H' g ?_⟩
    unfold thgM; rw [if_neg (by decide +kernel), if_neg (by decide +kernel)]; exact r
  · cases hok
def thingsM (ks ws : List Str) : List Th := (ks.zip ws).map fun kw => thgM kw.1 kw.2
def spThings (K : Fg) : Sp := fun vs H Q _ => ∃ b v2 ks ws G, vs = [.ref b, v2] ∧ (∀ H, SqT K H b (ks.map V.str)) ∧ rep G v2 (ws : List Str) ∧ ks.length = ws.length ∧ ks.length ≤ 100 ∧ (∀ kw ∈ ks.zip ws, kw.2.length ≤ 80000 ∧ thOk kw.1 kw.2 = true) ∧ Same G H ∧ ∀ v G' H', Gr M0 G H G' H' → rep G' v (thingsM ks ws) → Q v H'
theorem q_read_things (T : Tg K mg) (R : ReadersW w K mg) : Df P w K mg base 6 "read_things" ["kinds", "words"] (spThings K) := by
  have D1 := q_read_thing (P := P) (base := base) T R
  refine T.read_things.ok sc_read_things (fun vs H Q E h => ?_) (fun cdv f A outer s H vs Q E hr h => ?_)
  · obtain ⟨b, v2, ks, ws, G, rfl, _⟩ := h
    rfl
  obtain ⟨b, v2, ks, ws, G, rfl, hS, r2, hl, h100, hok, i, q⟩ := h
  have bl := T.bl
  refine ⟨_, (pss_cons (ps_if (pt_cmpR op_ne (pe_callB (call_lenK (K := K) rfl) (by rfl) (bl "len" (by decide)) (by decide +kernel) (pa_cons (pv 1) pa_nil)) (pe_callB (call_lenK (K := K) rfl) (by rfl) (bl "len" (by decide)) (by decide +kernel) (pa_cons (pv 0) pa_nil)) (nomark _))
      (pss_one ps_never)
      pss_nil)
    (pss_one (ps_ret (pe_lc (own := [("kind", 2), ("word", 3)]) rfl sc_read_things.nd (pi_zipM (K := K) rfl (by rfl) (bl "zip" (by decide)) (pa_cons (pv 0) (pa_cons (pv 1) pa_nil))) (blkOk_by (own := [("kind", 2), ("word", 3)]) (N := N_read_things) (sc := defScope s_read_things) (by decide +kernel)) (fun _ _ _ _ _ => (pg_tupK (K := K) (n := 2) rfl (pg_tup rfl (pgs_cons (pg_name (i := 2) sc_read_things.nd rfl (by first | exact .inl rfl | exact .inr rfl)) (pgs_cons (pg_name (i := 3) sc_read_things.nd rfl (by first | exact .inl rfl | exact .inr rfl)) pgs_nil))))) (fun _ _ _ _ _ => pts_nil) (fun _ _ _ _ _ => (pe_df D1 hr (by first | decide | omega) (by rfl) (pa_cons (pv 2) (pa_cons (pv 3) pa_nil)))))))), ?_⟩
  have lk : Ev (tCB (rLen K) (tCons (tVar 0) tNil)) (start N_read_things [.ref b, v2]) G ((ks.map V.str).length : Int) := fun H i Q q => ⟨.ref b, rfl, b, ks.map V.str, rfl, .inr (hS H), q _ G H (Gr.refl i) rfl⟩
  refine sq_ifn (G := G) (et_test (Ev.cast (ev_neI (ev_lenL (xs := ws) (ev_var rfl r2)) lk) (x' := false) (by rw [List.length_map, hl]; simp))) i (fun hb _ _ _ => by cases hb) (fun _ G1 H1 g1 => ?_)
  refine st_ret (G := G1) (x := thingsM ks ws) (ev_lc (xs := ks.zip ws) (f := fun kw => thgM kw.1 kw.2) (ei_zipK (i := 0) rfl hS (ev_var rfl (Rep.mono g1.g r2))) (by rw [List.length_zip]; omega) ?_) g1.i (fun v G' H' g r => q v G' H' (g1.trans g) r)
  intro kw hkw v1 G9 s9 rx
  exact gb_pair' rx fun u1 w1 ru rw' => ⟨rfl, ev_call2 (f := thgM) (ev_var rfl ru) (ev_var rfl rw') (hok kw hkw)⟩
theorem q_read_deed (T : Tg K mg) (R : ReadersW w K mg) (O : ThingsW w K mg) : Df P w K mg base 7 "read_deed" ["text"] (sp1 (fun (z : Str) => z.length ≤ 80000 ∧ (deedM z).isSome = true) (fun z => Tup.mk ((deedM z).getD []))) := by
  have D1 := q_read_things (P := P) (base := base) T R
  obtain ⟨a_THINGS, m_THINGS, hs, hk⟩ := O
  refine T.read_deed.ok sc_read_deed (fun vs H Q E h => ?_) (fun cdv f A outer s H vs Q E hr h => ?_)
  · obtain ⟨v, x, G, rfl, _⟩ := h
    rfl
  obtain ⟨v, z, G, rfl, i, r1, ⟨hl, hd⟩, q⟩ := h
  obtain ⟨d, hd⟩ := Option.isSome_iff_exists.mp hd
  have q : ∀ v' G' H', Gr M0 G H G' H' → rep G' v' (Tup.mk d) → Q v' H' := fun v' G' H' g r => q v' G' H' g (by
    show rep G' v' (Tup.mk ((deedM z).getD []))
    rw [hd]; exact r)
  have parts : ∃ w0 ws ks, Txt.split z " " = w0 :: ws ∧ kindsOf w0 = some ks ∧ ks.length = ws.length ∧ ((ks.zip ws).all fun kw => thOk kw.1 kw.2) = true ∧ d = .s w0 :: thingsM ks ws := by
    unfold deedM at hd
    split at hd
    · cases hd
    · next w0 ws e =>
      split at hd
      · cases hd
      · next ks e2 =>
        split at hd
        · next e3 => exact ⟨w0, ws, ks, e, e2, e3.1, e3.2, (Option.some.inj hd).symm⟩
        · cases hd
  obtain ⟨w0, ws, ks, e1, e2, e3, e4, rfl⟩ := parts
  obtain ⟨_, _, kl, _⟩ := kinds_facts e2
  obtain ⟨b, kd, hS⟩ := hk _ (kinds_mem e2)
  have kd : KDct K w a_THINGS w0 (.ref b) := kd
  have hS : ∀ H, SqT K H b (ks.map V.str) := hS
  refine ⟨_, (pss_cons (ps_asg (pe_split (pv 0) pe_str) (pg_starL (K := K) rfl rfl (pgs_cons (pg_name (i := 1) sc_read_deed.nd rfl (by first | exact .inl rfl | exact .inr rfl)) (pgs_starred (pg_name (i := 2) sc_read_deed.nd rfl (by first | exact .inl rfl | exact .inr rfl)) pgs_nil))))
    (pss_cons (ps_if (pt_cmpR (op_notInKD (K := K) (w := w) rfl rfl) (pv 1) (pe_glob (v := .ref a_THINGS) (by rfl) m_THINGS rfl) (by rfl))
      (pss_one ps_never)
      pss_nil)
    (pss_cons (ps_set (i := 3) sc_read_deed.nd rfl (by first | exact .inl rfl | exact .inr rfl) (pe_df D1 hr (by first | decide | omega) (by rfl) (pa_cons (pe_ix ix_kdict (pe_glob (v := .ref a_THINGS) (by rfl) m_THINGS rfl) (pv 1) (fun _ _ => rfl)) (pa_cons (pv 2) pa_nil))))
    (pss_one (ps_ret (pe_tup (pa_cons (pv 1) (pa_starK (K := K) rfl (pv 3) pa_nil)))))))), ?_⟩
  refine sq_starL (G := G) (x := w0) (xs := ws) (Ev.cast (ev_splitS (a := z) (b := " ") (ev_var rfl r1) ev_str (by decide +kernel) (by omega)) e1) i (by omega) (fun fv p G1 H1 g1 rf rw' => ?_)
  refine sq_ifn (G := G1) (et_test (ev_notInKD (z := w0) (ev_var rfl rf) kd hs)) g1.i (fun hb _ _ _ => by cases hb) (fun _ G2 H2 g2 => ?_)
  have rf2 := Rep.mono g2.g rf
  have rw2 := Rep.mono g2.g rw'
  have hws : ∀ kw ∈ ks.zip ws, kw.2.length ≤ 80000 ∧ thOk kw.1 kw.2 = true := fun kw hkw => by
    have h2 : kw.2 ∈ Txt.split z " " := by rw [e1]; exact List.mem_cons_of_mem _ (List.of_mem_zip hkw).2
    have := PyProof.Rows.part_short h2
    exact ⟨by omega, List.all_eq_true.mp e4 kw hkw⟩
  refine sq_set (G := G2) (x := thingsM ks ws) (fun H5 i5 Q5 q5 => ?_) g2.i (fun tv G3 H3 g3 rt => ?_)
  · cases rf2
    exact ⟨_, rfl, a_THINGS, w0, .ref b, rfl, rfl, kd, .ref p, rfl, b, .ref p, ks, ws, G2, rfl, hS, rw2, e3, by omega, hws, i5, fun v G' H' g r => q5 v G' H' g r⟩
  have rf3 := Rep.mono g3.g rf2
  refine st_ret (G := G3) (x := Tup.mk (Th.s w0 :: thingsM ks ws)) (ev_tupStar (x := Th.s w0) (xs := thingsM ks ws) (fun H i Q q => ev_var (x := w0) rfl rf3 H i Q q) (ev_var rfl rt) (by unfold thingsM; rw [List.length_map, List.length_zip]; omega)) g3.i (fun v G' H' g r => q v G' H' (((g1.trans g2).trans g3).trans g) r)
/-! writing -/
theorem foldl3 (a b c : Str) : ([a, b, c].foldl (fun x y => x ++ y) Str.empty) = a ++ b ++ c := TL.ext_tl (by
  show tl (Str.empty ++ a ++ b ++ c) = _
  rw [TL.tl_append, TL.tl_append, TL.tl_append, TL.tl_append, TL.tl_append]
  rfl)
theorem q_plan_text (T : Tg K mg) : Df P w K mg base 1 "plan_text" ["plan"] (sp1 smP planS) := by
  refine T.plan_text.ok sc_plan_text (fun vs H Q E h => ?_) (fun cdv f A outer s H vs Q E hr h => ?_)
  · obtain ⟨v, x, G, rfl, _⟩ := h
    rfl
  obtain ⟨v, p, G, rfl, i, r1, hp, q⟩ := h
  have hsl := plan_slen hp
  obtain ⟨h1, h2, h3⟩ := hp
  have n1 := numS_len h1.1 h1.2
  refine ⟨_, (pss_cons (ps_asg (pv 0) (pg_tupK (K := K) (n := 2) rfl (pg_tup rfl (pgs_cons (pg_name (i := 1) sc_plan_text.nd rfl (by first | exact .inl rfl | exact .inr rfl)) (pgs_cons (pg_name (i := 2) sc_plan_text.nd rfl (by first | exact .inl rfl | exact .inr rfl)) pgs_nil)))))
    (pss_cons (ps_set (i := 3) sc_plan_text.nd rfl (by first | exact .inl rfl | exact .inr rfl) (pe_bm PySem.F.plainAttrs_str PySem.F.slot_str_join PySem.F.type_str_join (mt_joinK (K := K) rfl) pe_str (pa_cons (pe_lc (own := [("low", 4), ("high", 5)]) rfl sc_plan_text.nd (pi_tupK (K := K) rfl (pv 2)) (blkOk_by (own := [("low", 4), ("high", 5)]) (N := N_plan_text) (sc := defScope s_plan_text) (by decide +kernel)) (fun _ _ _ _ _ => (pg_tupK (K := K) (n := 2) rfl (pg_tup rfl (pgs_cons (pg_name (i := 4) sc_plan_text.nd rfl (by first | exact .inl rfl | exact .inr rfl)) (pgs_cons (pg_name (i := 5) sc_plan_text.nd rfl (by first | exact .inl rfl | exact .inr rfl)) pgs_nil))))) (fun _ _ _ _ _ => pts_nil) (fun _ _ _ _ _ => (pe_joined (.cons (pe_fmt (pv 4)) (.cons pe_str (.cons (pe_fmt (pv 5)) .nil)))))) pa_nil)))
    (pss_one (ps_ret (pe_joined (.cons (pe_fmt (pv 1)) (.cons pe_str (.cons (pe_fmt (pv 3)) .nil)))))))), ?_⟩
  refine sq_pair (G := G) (x := p) (ev_var rfl r1) i (fun fv cv G1 H1 g1 rf rc => ?_)
  have lsum := lenSum_le (m := 9) (ys := p.2.l.map cutS2) (fun y hy => by
    obtain ⟨c, hc, rfl⟩ := List.mem_map.mp hy
    exact cut2_len (h2 c hc).1 (h2 c hc).2)
  rw [List.length_map] at lsum
  have l1 : (("," : Str)).length = 1 := by decide +kernel
  refine sq_set (G := G1) (x := Txt.join "," (p.2.l.map cutS2)) (ev_joinS (ev_lc (xs := p.2.l) (f := cutS2) (ei_tup (ev_var rfl rc)) (by omega) ?_) (by rw [List.length_map, l1]; omega)) g1.i (fun pv G2 H2 g2 rp => ?_)
  · intro c hc v1 G9 s9 rx
    refine gb_pair' rx fun u1 w1 ru rw' => ⟨rfl, ?_⟩
    have m1 := numS_len (h2 c hc).1.1 (h2 c hc).1.2
    have m2 := numS_len (h2 c hc).2.1 (h2 c hc).2.2
    exact Ev.cast (ev_js (ys := [numS c.1, "-", numS c.2]) (ej_cons (ev_fmtI (ev_var rfl ru) (log_ok (h2 c hc).1.1 (by have := (h2 c hc).1.2; omega))) (ej_cons ev_str (ej_cons (ev_fmtI (ev_var rfl rw') (log_ok (h2 c hc).2.1 (by have := (h2 c hc).2.2; omega))) ej_nil))) (by show (numS c.1).length + (1 + ((numS c.2).length + 0)) ≤ 100000; omega)) (foldl3 _ _ _)
  have rf2 := Rep.mono g2.g rf
  have jl := join_len "," (p.2.l.map cutS2)
  rw [List.length_map, l1] at jl
  refine st_ret (G := G2) (x := planS p) (Ev.cast (ev_js (ys := [numS p.1, ":", Txt.join "," (p.2.l.map cutS2)]) (ej_cons (ev_fmtI (ev_var rfl rf2) (log_ok h1.1 (by have := h1.2; omega))) (ej_cons ev_str (ej_cons (ev_fmtS (ev_var rfl rp) (by omega)) ej_nil))) (by show (numS p.1).length + (1 + ((Txt.join "," (p.2.l.map cutS2)).length + 0)) ≤ 100000; omega)) (foldl3 _ _ _)) g2.i (fun v G' H' g r => q v G' H' ((g1.trans g2).trans g) r)
def smT : Th → Prop
  | .s x => x.length ≤ 1000
  | .n i => smN i
  | .p p => smP p
theorem q_thing_text (T : Tg K mg) : Df P w K mg base 2 "thing_text" ["thing"] (sp1 smT thS) := by
  refine T.thing_text.ok sc_thing_text (fun vs H Q E h => ?_) (fun cdv f A outer s H vs Q E hr h => ?_)
  · obtain ⟨v, x, G, rfl, _⟩ := h
    rfl
  obtain ⟨v, t, G, rfl, i, r1, ht, q⟩ := h
  have bl := T.bl
  refine ⟨_, (pss_cons (ps_if (pt_val (pe_callB (call_isiKK (K := K) rfl) (by rfl) (bl "isinstance" (by decide)) (by decide +kernel) (pa_cons (pv 0) (pa_cons (pe_bltn (v := .ty "tuple") (by rfl) (bl "tuple" (by decide)) boot_tuple rfl) pa_nil))))
      (pss_one (ps_ret (pe_df (q_plan_text T) hr (by first | decide | omega) (by rfl) (pa_cons (pv 0) pa_nil))))
      pss_nil)
    (pss_one (ps_ret (pe_callTy call_strT (by rfl) (bl "str" (by decide)) (by decide +kernel) (pa_cons (pv 0) pa_nil))))), ?_⟩
  have isi := et_B (ev_isi (K := K) (T := "tuple") (d := dat t) (ev_dat (ev_var (σ := start N_thing_text [v]) (i := 0) (x := t) rfl r1)) (by decide))
  cases t with
  | s x =>
    refine sq_ifn (G := G) isi i (fun hb _ _ _ => by cases hb) (fun _ G1 H1 g1 => ?_)
    exact st_ret (G := G1) (x := x) (ev_strS (ev_var rfl (Rep.mono (α := Str) g1.g r1))) g1.i (fun v G' H' g r => q v G' H' (g1.trans g) r)
  | n x =>
    refine sq_ifn (G := G) isi i (fun hb _ _ _ => by cases hb) (fun _ G1 H1 g1 => ?_)
    exact st_ret (G := G1) (x := numS x) (ev_numS (ev_var rfl (Rep.mono (α := Int) g1.g r1)) (log_ok ht.1 (by have := ht.2; omega))) g1.i (fun v G' H' g r => q v G' H' (g1.trans g) r)
  | p x =>
    refine sq_ifn (G := G) isi i (fun _ G1 H1 g1 => ?_) (fun hb _ _ _ => by cases hb)
    exact st_ret (G := G1) (x := planS x) (ev_call1 (f := planS) (ev_var rfl (Rep.mono (α := Plan) g1.g r1)) ht) g1.i (fun v G' H' g r => q v G' H' (g1.trans g) r)
theorem q_deed_text (T : Tg K mg) : Df P w K mg base 3 "deed_text" ["deed"] (sp1 (fun (d : Tup Th) => d.l.length ≤ 10 ∧ ∀ t ∈ d.l, smT t ∧ (thS t).length ≤ 1000) (fun d => deedS d.l)) := by
  refine T.deed_text.ok sc_deed_text (fun vs H Q E h => ?_) (fun cdv f A outer s H vs Q E hr h => ?_)
  · obtain ⟨v, x, G, rfl, _⟩ := h
    rfl
  obtain ⟨v, d, G, rfl, i, r1, ⟨hl, ht⟩, q⟩ := h
  refine ⟨_, (pss_one (ps_ret (pe_bm PySem.F.plainAttrs_str PySem.F.slot_str_join PySem.F.type_str_join (mt_joinK (K := K) rfl) pe_str (pa_cons (pe_lc (own := [("thing", 1)]) rfl sc_deed_text.nd (pi_tupK (K := K) rfl (pv 0)) (blkOk_by (own := [("thing", 1)]) (N := N_deed_text) (sc := defScope s_deed_text) (by decide +kernel)) (fun _ _ _ _ _ => (pg_name (i := 1) sc_deed_text.nd rfl (by first | exact .inl rfl | exact .inr rfl))) (fun _ _ _ _ _ => pts_nil) (fun _ _ _ _ _ => (pe_df (q_thing_text T) hr (by first | decide | omega) (by rfl) (pa_cons (pv 1) pa_nil)))) pa_nil)))), ?_⟩
  have lsum := lenSum_le (m := 1000) (ys := d.l.map thS) (fun y hy => by
    obtain ⟨c, hc, rfl⟩ := List.mem_map.mp hy
    exact (ht c hc).2)
  rw [List.length_map] at lsum
  refine st_ret (G := G) (x := deedS d.l) (ev_joinS (ev_lc (xs := d.l) (f := thS) (ei_tup (ev_var rfl r1)) (by omega) ?_) (by rw [List.length_map, show ((" " : Str)).length = 1 by decide +kernel]; omega)) i (fun v G' H' g r => q v G' H' g r)
  intro c hc v1 G9 s9 rx
  exact gb_name ⟨rfl, ev_call1 (f := thS) (ev_var rfl rx) (ht c hc).1⟩
end


open TL (tl numL)

def isWhole (d : PyData) : Bool := isTy "int" d && !isTy "bool" d
section
variable {P : Program} {w : World} {K : Fg} {mg : Str → Option Value} {base : Heap}
theorem d_whole (T : Tx K mg "_law_whole" ["_law_found"] s__law_whole) (bl : Bl mg) : Df P w K mg base 1 "_law_whole" ["_law_found"] (sp1 (fun (_ : PyData) => True) isWhole) := by
  refine T.ok sc__law_whole (fun vs H Q E h => ?_) (fun cdv f A outer s H vs Q E hr h => ?_)
  · obtain ⟨v, x, G, rfl, _⟩ := h
    rfl
  obtain ⟨v, x, G, rfl, i, r1, _, q⟩ := h
  refine ⟨_, (pss_one (ps_ret (pe_and (pe_callB (call_isiKK (K := K) rfl) (by rfl) (bl "isinstance" (by decide)) (by decide +kernel) (pa_cons (pv 0) (pa_cons (pe_bltn (v := .ty "int") (by rfl) (bl "int" (by decide)) boot_int rfl) pa_nil))) (pe_one (pe_not (pe_callB (call_isiKK (K := K) rfl) (by rfl) (bl "isinstance" (by decide)) (by decide +kernel) (pa_cons (pv 0) (pa_cons (pe_bltn (v := .ty "bool") (by rfl) (bl "bool" (by decide)) boot_bool rfl) pa_nil)))))))), ?_⟩
  refine st_ret (G := G) (ev_andV (ev_isi (d := x) (by walk_at "pf_ev") (by decide)) fun _ => ev_notV (ev_isi (d := x) (by walk_at "pf_ev") (by decide))) i (fun v G' H' g r => q v G' H' g r)
theorem an_none (n : Nat) (f : PyData) : alikeN n f .none = isNone f := by cases n <;> cases f <;> simp [alikeN, isNone]
theorem an_bool (n : Nat) (f : PyData) (b : Bool) : (isTy "bool" f && alikeN n f (.bool b)) = alikeN n f (.bool b) := by cases n <;> cases f <;> simp [alikeN, isTy, tyD]
theorem an_str (n : Nat) (f : PyData) (b : Str) : (isTy "str" f && alikeN n f (.str b)) = alikeN n f (.str b) := by cases n <;> cases f <;> simp [alikeN, isTy, tyD]
theorem an_int (n : Nat) (f : PyData) (b : Int) : (isWhole f && alikeN n f (.int b)) = alikeN n f (.int b) := by cases n <;> cases f <;> simp [alikeN, isTy, tyD, isWhole]
theorem or_nd {a : Bool} {p : Prop} [Decidable p] (ha : a = true) (h : (!a || !decide p) = true) : ¬ p := by
  subst ha
  intro hp
  rw [decide_eq_true hp] at h
  cases h
theorem or_np {a : Bool} {p : Prop} [Decidable p] (h : (!a || !decide p) = false) : p := by
  by_cases hp : p
  · exact hp
  · rw [decide_eq_false hp, Bool.not_false, Bool.or_true] at h
    cases h
theorem an_len1 {m : Nat} {fs ds : List PyData} (h : ¬ ((fs.length : Int) = ds.length)) : alikeN (m + 1) (.list fs) (.list ds) = false := by
  rw [alikeN, decide_eq_false (by omega)]; rfl
theorem an_len2 {m : Nat} {fs ds : List PyData} (h : ¬ ((fs.length : Int) = ds.length)) : alikeN (m + 1) (.tuple fs) (.tuple ds) = false := by
  rw [alikeN, decide_eq_false (by omega)]; rfl
theorem an_eq1 {m : Nat} {fs ds : List PyData} (h : fs.length = ds.length) : ((rng 0 (ds.length : Int)).map fun k => alikeN m (ix fs k) (ix ds k)).all id = alikeN (m + 1) (.list fs) (.list ds) := by
  rw [alikeN, decide_eq_true h, Bool.true_and]
theorem an_eq2 {m : Nat} {fs ds : List PyData} (h : fs.length = ds.length) : ((rng 0 (ds.length : Int)).map fun k => alikeN m (ix fs k) (ix ds k)).all id = alikeN (m + 1) (.tuple fs) (.tuple ds) := by
  rw [alikeN, decide_eq_true h, Bool.true_and]
theorem eq_bool (n : Nat) {f : PyData} {b : Bool} (h : isTy "bool" f = true) : ∀ G v u, RD G f v → RD G (.bool b) u → scal v u = true ∧ decide (v = u) = alikeN n f (.bool b) := by
  intro G v u h1 h2
  cases f with
  | bool c =>
    rw [show v = .bl c from h1, show u = .bl b from h2, v_bl_eq]
    exact ⟨rfl, by cases n <;> simp [alikeN]⟩
  | _ => simp [isTy, tyD] at h
theorem eq_str (n : Nat) {f : PyData} {b : Str} (h : isTy "str" f = true) : ∀ G v u, RD G f v → RD G (.str b) u → scal v u = true ∧ decide (v = u) = alikeN n f (.str b) := by
  intro G v u h1 h2
  cases f with
  | str c =>
    rw [show v = .str c from h1, show u = .str b from h2, v_str_eq]
    exact ⟨rfl, by cases n <;> simp [alikeN]⟩
  | _ => simp [isTy, tyD] at h
theorem eq_int (n : Nat) {f : PyData} {b : Int} (h : isWhole f = true) : ∀ G v u, RD G f v → RD G (.int b) u → scal v u = true ∧ decide (v = u) = alikeN n f (.int b) := by
  intro G v u h1 h2
  cases f with
  | int c =>
    rw [show v = .int c from h1, show u = .int b from h2, v_int_eq]
    exact ⟨rfl, by cases n <;> simp [alikeN]⟩
  | _ => simp [isTy, tyD, isWhole] at h
theorem d_alike (T : Tx K mg "_law_alike" ["_law_found", "_law_due"] s__law_alike) (TW : Tx K mg "_law_whole" ["_law_found"] s__law_whole) (bl : Bl mg) : ∀ n : Nat, Df P w K mg base (n + 2) "_law_alike" ["_law_found", "_law_due"]
    (sp2 (fun (_ d : PyData) => OkN n d) (alikeN n)) := by
  have D__law_whole := d_whole (P := P) (w := w) (base := base) TW bl
  have main : ∀ n : Nat, (∀ m, n = m + 1 → Df P w K mg base (m + 2) "_law_alike" ["_law_found", "_law_due"] (sp2 (fun (_ d : PyData) => OkN m d) (alikeN m))) →
      Df P w K mg base (n + 2) "_law_alike" ["_law_found", "_law_due"] (sp2 (fun (_ d : PyData) => OkN n d) (alikeN n)) := by
    intro n IH
    refine T.ok (k := n + 1) sc__law_alike (fun vs H Q E h => ?_) (fun cdv f A outer s H vs Q E hr h => ?_)
    · obtain ⟨v, x, v2, x2, G, rfl, _⟩ := h
      rfl
    obtain ⟨v, x, v2, x2, G, rfl, i, r1, r2, ok, q⟩ := h
    by_cases hs : isSeq x2 = true
    · obtain ⟨m, rfl⟩ : ∃ m, n = m + 1 := by
        cases n with
        | zero => rw [ok.1] at hs; cases hs
        | succ m => exact ⟨m, rfl⟩
      have D__law_alike := IH m rfl
      refine ⟨_, (pss_cons (ps_if (pt_cmpR op_isN (pv 1) pe_non (nomark _))
      (pss_one (ps_ret (pe_cmpR op_isN (pv 0) pe_non (nomark _))))
      pss_nil)
    (pss_cons (ps_if (pt_val (pe_callB (call_isiKK (K := K) rfl) (by rfl) (bl "isinstance" (by decide)) (by decide +kernel) (pa_cons (pv 1) (pa_cons (pe_bltn (v := .ty "bool") (by rfl) (bl "bool" (by decide)) boot_bool rfl) pa_nil))))
      (pss_one (ps_ret (pe_and (pe_callB (call_isiKK (K := K) rfl) (by rfl) (bl "isinstance" (by decide)) (by decide +kernel) (pa_cons (pv 0) (pa_cons (pe_bltn (v := .ty "bool") (by rfl) (bl "bool" (by decide)) boot_bool rfl) pa_nil))) (pe_one (pe_cmpR op_eq (pv 0) (pv 1) (nomark _))))))
      pss_nil)
    (pss_cons (ps_if (pt_val (pe_callB (call_isiKK (K := K) rfl) (by rfl) (bl "isinstance" (by decide)) (by decide +kernel) (pa_cons (pv 1) (pa_cons (pe_bltn (v := .ty "int") (by rfl) (bl "int" (by decide)) boot_int rfl) pa_nil))))
      (pss_one (ps_ret (pe_and (pe_df D__law_whole hr (by first | decide | omega) (by rfl) (pa_cons (pv 0) pa_nil)) (pe_one (pe_cmpR op_eq (pv 0) (pv 1) (nomark _))))))
      pss_nil)
    (pss_cons (ps_if (pt_val (pe_callB (call_isiKK (K := K) rfl) (by rfl) (bl "isinstance" (by decide)) (by decide +kernel) (pa_cons (pv 1) (pa_cons (pe_bltn (v := .ty "str") (by rfl) (bl "str" (by decide)) boot_str rfl) pa_nil))))
      (pss_one (ps_ret (pe_and (pe_callB (call_isiKK (K := K) rfl) (by rfl) (bl "isinstance" (by decide)) (by decide +kernel) (pa_cons (pv 0) (pa_cons (pe_bltn (v := .ty "str") (by rfl) (bl "str" (by decide)) boot_str rfl) pa_nil))) (pe_one (pe_cmpR op_eq (pv 0) (pv 1) (nomark _))))))
      pss_nil)
    (pss_cons (ps_if (PW.pt (pw_or (pt_cmpR op_ne (pe_callB (call_isiKK (K := K) rfl) (by rfl) (bl "isinstance" (by decide)) (by decide +kernel) (pa_cons (pv 1) (pa_cons (pe_bltn (v := .ty "list") (by rfl) (bl "list" (by decide)) boot_list rfl) pa_nil))) (pe_callB (call_isiKK (K := K) rfl) (by rfl) (bl "isinstance" (by decide)) (by decide +kernel) (pa_cons (pv 0) (pa_cons (pe_bltn (v := .ty "list") (by rfl) (bl "list" (by decide)) boot_list rfl) pa_nil))) (nomark _)) (pw_or1 (pt_cmpR op_ne (pe_callB (call_isiKK (K := K) rfl) (by rfl) (bl "isinstance" (by decide)) (by decide +kernel) (pa_cons (pv 1) (pa_cons (pe_bltn (v := .ty "tuple") (by rfl) (bl "tuple" (by decide)) boot_tuple rfl) pa_nil))) (pe_callB (call_isiKK (K := K) rfl) (by rfl) (bl "isinstance" (by decide)) (by decide +kernel) (pa_cons (pv 0) (pa_cons (pe_bltn (v := .ty "tuple") (by rfl) (bl "tuple" (by decide)) boot_tuple rfl) pa_nil))) (nomark _)))))
      (pss_one (ps_ret pe_bl))
      pss_nil)
    (pss_cons (ps_if (PW.pt (pw_or (pt_not (pt_val (pe_callB (call_isiTK (K := K) rfl) (by rfl) (bl "isinstance" (by decide)) (by decide +kernel) (pa_cons (pv 0) (pa_cons (pe_tup (pa_cons (pe_bltn (v := .ty "list") (by rfl) (bl "list" (by decide)) boot_list rfl) (pa_cons (pe_bltn (v := .ty "tuple") (by rfl) (bl "tuple" (by decide)) boot_tuple rfl) pa_nil))) pa_nil))))) (pw_or1 (pt_cmpR op_ne (pe_callB (call_lenK (K := K) rfl) (by rfl) (bl "len" (by decide)) (by decide +kernel) (pa_cons (pv 0) pa_nil)) (pe_callB (call_lenK (K := K) rfl) (by rfl) (bl "len" (by decide)) (by decide +kernel) (pa_cons (pv 1) pa_nil)) (nomark _)))))
      (pss_one (ps_ret pe_bl))
      pss_nil)
    (pss_one (ps_ret (pe_callB (cr_allK (K := K) rfl rfl) (by rfl) (bl "all" (by decide)) (by decide +kernel) (pa_cons (pe_lc (own := [("_law_at", 2)]) rfl sc__law_alike.nd (pi_range1 (by rfl) (bl "range" (by decide)) (pa_cons (pe_callB (call_lenK (K := K) rfl) (by rfl) (bl "len" (by decide)) (by decide +kernel) (pa_cons (pv 1) pa_nil)) pa_nil)) (blkOk_by (own := [("_law_at", 2)]) (N := N__law_alike) (sc := defScope s__law_alike) (by decide +kernel)) (fun _ _ _ _ _ => (pg_name (i := 2) sc__law_alike.nd rfl (by first | exact .inl rfl | exact .inr rfl))) (fun _ _ _ _ _ => pts_nil) (fun _ _ _ _ _ => (pe_df D__law_alike hr (by first | decide | omega) (by rfl) (pa_cons (pe_ix (ix_seqK (K := K) rfl) (pv 0) (pv 2) (fun _ _ => rfl)) (pa_cons (pe_ix (ix_seqK (K := K) rfl) (pv 1) (pv 2) (fun _ _ => rfl)) pa_nil))))) pa_nil)))))))))), ?_⟩
      have no : ∀ {A : Prop}, (isNone x2 = true ∨ isTy "bool" x2 = true ∨ isTy "int" x2 = true ∨ isTy "str" x2 = true) → A := by
        intro A h
        exfalso
        cases x2 <;> simp [isTy, tyD, isSeq, isNone] at h hs
      refine sq_ifn (G := G) (et_test (ev_isN (d := x2) (by walk_at "pf_ev"))) i (fun hb _ _ _ => no (.inl hb)) (fun _ G1 H1 g1 => ?_)
      refine sq_ifn (G := G1) (et_B (ev_isi (d := x2) (by walk_at "pf_ev") (by decide))) g1.i (fun hb _ _ _ => no (.inr (.inl hb))) (fun _ G2 H2 g2 => ?_)
      refine sq_ifn (G := G2) (et_B (ev_isi (d := x2) (by walk_at "pf_ev") (by decide))) g2.i (fun hb _ _ _ => no (.inr (.inr (.inl hb)))) (fun _ G3 H3 g3 => ?_)
      refine sq_ifn (G := G3) (et_B (ev_isi (d := x2) (by walk_at "pf_ev") (by decide))) g3.i (fun hb _ _ _ => no (.inr (.inr (.inr hb)))) (fun _ G4 H4 g4 => ?_)
      have g14 := ((g1.trans g2).trans g3).trans g4
      refine sq_ifn (G := G4) (et_or (et_test (ev_neB (ev_isi (d := x2) (by walk_at "pf_ev") (by decide)) (ev_isi (d := x) (by walk_at "pf_ev") (by decide)))) (fun _ => et_test (ev_neB (ev_isi (d := x2) (by walk_at "pf_ev") (by decide)) (ev_isi (d := x) (by walk_at "pf_ev") (by decide))))) g4.i (fun hb G' H' g => ?_) (fun hb5 G5 H5 g5 => ?_)
      · refine st_ret (G := G') ev_bl g.i (fun v G2 H2 g2 r => q v G2 H2 ((g14.trans g).trans g2) ?_)
        have e : alikeN (m + 1) x x2 = false := by
          cases x2 <;> cases x <;> simp [isTy, tyD, isSeq, alikeN] at hb hs ⊢
        rw [e]; exact r
      have g15 := g14.trans g5
      have hk2 : (∃ fs ds, x = .list fs ∧ x2 = .list ds) ∨ (∃ fs ds, x = .tuple fs ∧ x2 = .tuple ds) := by
        cases x2 <;> cases x <;> simp [isTy, tyD, isSeq] at hb5 hs ⊢
      have hk : isSeq x = true := by
        rcases hk2 with ⟨fs, ds, rfl, rfl⟩ | ⟨fs, ds, rfl, rfl⟩ <;> rfl
      refine sq_ifn (G := G5) (et_or (et_not (et_B (ev_isiT (d := x) (by walk_at "pf_ev") (by decide) (by decide)))) (fun _ => et_test (ev_neI (ev_lenD (d := x) (by walk_at "pf_ev") hk) (ev_lenD (d := x2) (by walk_at "pf_ev") hs)))) g5.i (fun hb G' H' g => ?_) (fun hb6 G6 H6 g6 => ?_)
      · refine st_ret (G := G') ev_bl g.i (fun v G2 H2 g2 r => q v G2 H2 ((g15.trans g).trans g2) ?_)
        have e : alikeN (m + 1) x x2 = false := by
          rcases hk2 with ⟨fs, ds, rfl, rfl⟩ | ⟨fs, ds, rfl, rfl⟩
          · exact an_len1 (or_nd (by simp [isTy, tyD]) hb)
          · exact an_len2 (or_nd (by simp [isTy, tyD]) hb)
        rw [e]; exact r
      have hl : (itemsD x).length = (itemsD x2).length := by
        rcases hk2 with ⟨fs, ds, rfl, rfl⟩ | ⟨fs, ds, rfl, rfl⟩
        · have z : ((fs.length : Int) = ds.length) := or_np hb6
          exact Int.ofNat.inj z
        · have z : ((fs.length : Int) = ds.length) := or_np hb6
          exact Int.ofNat.inj z
      have e : ((rng 0 ((itemsD x2).length : Int)).map fun k => alikeN m (ix (itemsD x) k) (ix (itemsD x2) k)).all id = alikeN (m + 1) x x2 := by
        rcases hk2 with ⟨fs, ds, rfl, rfl⟩ | ⟨fs, ds, rfl, rfl⟩
        · exact an_eq1 hl
        · exact an_eq2 hl
      have okl := ok.2.1
      refine st_ret (G := G6) ((ev_all (ev_lc (f := fun k => alikeN m (ix (itemsD x) k) (ix (itemsD x2) k)) (ei_r1 (ev_lenD (d := x2) (by walk_at "pf_ev") hs) (by omega)) (by rw [rng_len]; omega) ?_)).cast e) g6.i (fun v G2 H2 g2 r => q v G2 H2 ((g15.trans g6).trans g2) r)
      intro c hc v4 G4' s4 r4
      rw [rng_mem] at hc
      refine gb_name ⟨rfl, ?_⟩
      refine ev_call2 (x := ix (itemsD x) c) (x2 := ix (itemsD x2) c) (ev_ixD (d := x) ?_ ?_ hk (by omega)) (ev_ixD (d := x2) ?_ ?_ hs (by omega)) ?_
      all_goals try walk_at "pf_ev"
      have hc2 : c.toNat < (itemsD x2).length := by omega
      have ec : ix (itemsD x2) c = (itemsD x2)[c.toNat] := by unfold ix; rw [List.getElem?_eq_getElem hc2]; rfl
      rw [ec]
      exact ok.2.2 _ (List.getElem_mem hc2)
    · have hs : isSeq x2 = false := by simpa using hs
      refine ⟨_, (pss_cons (ps_if (pt_cmpR op_isN (pv 1) pe_non (nomark _))
      (pss_one (ps_ret (pe_cmpR op_isN (pv 0) pe_non (nomark _))))
      pss_nil)
    (pss_cons (ps_if (pt_val (pe_callB (call_isiKK (K := K) rfl) (by rfl) (bl "isinstance" (by decide)) (by decide +kernel) (pa_cons (pv 1) (pa_cons (pe_bltn (v := .ty "bool") (by rfl) (bl "bool" (by decide)) boot_bool rfl) pa_nil))))
      (pss_one (ps_ret (pe_and (pe_callB (call_isiKK (K := K) rfl) (by rfl) (bl "isinstance" (by decide)) (by decide +kernel) (pa_cons (pv 0) (pa_cons (pe_bltn (v := .ty "bool") (by rfl) (bl "bool" (by decide)) boot_bool rfl) pa_nil))) (pe_one (pe_cmpR op_eq (pv 0) (pv 1) (nomark _))))))
      pss_nil)
    (pss_cons (ps_if (pt_val (pe_callB (call_isiKK (K := K) rfl) (by rfl) (bl "isinstance" (by decide)) (by decide +kernel) (pa_cons (pv 1) (pa_cons (pe_bltn (v := .ty "int") (by rfl) (bl "int" (by decide)) boot_int rfl) pa_nil))))
      (pss_one (ps_ret (pe_and (pe_df D__law_whole hr (by first | decide | omega) (by rfl) (pa_cons (pv 0) pa_nil)) (pe_one (pe_cmpR op_eq (pv 0) (pv 1) (nomark _))))))
      pss_nil)
    (pss_cons (ps_if (pt_val (pe_callB (call_isiKK (K := K) rfl) (by rfl) (bl "isinstance" (by decide)) (by decide +kernel) (pa_cons (pv 1) (pa_cons (pe_bltn (v := .ty "str") (by rfl) (bl "str" (by decide)) boot_str rfl) pa_nil))))
      (pss_one (ps_ret (pe_and (pe_callB (call_isiKK (K := K) rfl) (by rfl) (bl "isinstance" (by decide)) (by decide +kernel) (pa_cons (pv 0) (pa_cons (pe_bltn (v := .ty "str") (by rfl) (bl "str" (by decide)) boot_str rfl) pa_nil))) (pe_one (pe_cmpR op_eq (pv 0) (pv 1) (nomark _))))))
      pss_nil)
    pss_never)))), ?_⟩
      refine sq_ifn (G := G) (et_test (ev_isN (d := x2) (by walk_at "pf_ev"))) i (fun hb G' H' g => ?_) (fun hb G1 H1 g1 => ?_)
      · have e : x2 = .none := by cases x2 <;> first | rfl | cases hb
        subst e
        refine st_ret (G := G') (ev_isN (d := x) (by walk_at "pf_ev")) g.i (fun v G2 H2 g2 r => q v G2 H2 (g.trans g2) (by rw [an_none]; exact r))
      refine sq_ifn (G := G1) (et_B (ev_isi (d := x2) (by walk_at "pf_ev") (by decide))) g1.i (fun hb G' H' g => ?_) (fun hb2 G2 H2 g2 => ?_)
      · obtain ⟨b, rfl⟩ : ∃ b, x2 = .bool b := by cases x2 <;> first | exact ⟨_, rfl⟩ | simp [isTy, tyD] at hb
        refine st_ret (G := G') ((ev_andV (ev_isi (d := x) (by walk_at "pf_ev") (by decide)) (fun h => ev_eqD (d := x) (e := .bool b) (by walk_at "pf_ev") (by walk_at "pf_ev") _ (eq_bool n h))).cast (an_bool n x b)) g.i (fun v G2 H2 g2 r => q v G2 H2 ((g1.trans g).trans g2) r)
      have g12 := g1.trans g2
      refine sq_ifn (G := G2) (et_B (ev_isi (d := x2) (by walk_at "pf_ev") (by decide))) g2.i (fun hb G' H' g => ?_) (fun hb3 G3 H3 g3 => ?_)
      · obtain ⟨b, rfl⟩ : ∃ b, x2 = .int b := by cases x2 <;> first | exact ⟨_, rfl⟩ | simp [isTy, tyD] at hb hb2
        refine st_ret (G := G') ((ev_andV (ev_call1 (x := x) (by walk_at "pf_ev") trivial) (fun h => ev_eqD (d := x) (e := .int b) (by walk_at "pf_ev") (by walk_at "pf_ev") _ (eq_int n h))).cast (an_int n x b)) g.i (fun v G2 H2 g2 r => q v G2 H2 ((g12.trans g).trans g2) r)
      have g13 := g12.trans g3
      refine sq_ifn (G := G3) (et_B (ev_isi (d := x2) (by walk_at "pf_ev") (by decide))) g3.i (fun hb G' H' g => ?_) (fun hb4 G4 H4 g4 => ?_)
      · obtain ⟨b, rfl⟩ : ∃ b, x2 = .str b := by cases x2 <;> first | exact ⟨_, rfl⟩ | simp [isTy, tyD] at hb hb2
        refine st_ret (G := G') ((ev_andV (ev_isi (d := x) (by walk_at "pf_ev") (by decide)) (fun h => ev_eqD (d := x) (e := .str b) (by walk_at "pf_ev") (by walk_at "pf_ev") _ (eq_str n h))).cast (an_str n x b)) g.i (fun v G2 H2 g2 r => q v G2 H2 ((g13.trans g).trans g2) r)
      · exfalso
        have okd : isDict x2 = false := by cases n <;> first | exact ok.2 | exact ok.1
        cases x2 <;> simp [isTy, tyD, isSeq, isNone, isDict] at hb hb2 hb3 hb4 hs okd
  intro n
  induction n with
  | zero => exact main 0 fun m h => by cases h
  | succ n ih => exact main (n + 1) fun m h => by cases h; exact ih
end


section
variable {P : Program} {w : World} {K : Fg} {mg : Str → Option Value} {base : Heap}
theorem d_pull (T : Tx K mg "_law_pull" ["_law_bag_here", "_law_many"] s__law_pull) (bl : Bl mg) : Df P w K mg base 1 "_law_pull" ["_law_bag_here", "_law_many"] spPull := by
  refine T.ok sc__law_pull (fun vs H Q E h => ?_) (fun cdv f A outer s H vs Q E hr h => ?_)
  · obtain ⟨b, many, G, rfl, _⟩ := h
    rfl
  obtain ⟨b, many, G, rfl, i, ⟨nb, cv, c1, c2, c3, cells, eb, rc, p1, p2, p3, p4⟩, hm, hl, q⟩ := h
  refine ⟨_, (pss_cons (ps_if (pt_cmpR op_lt (pe_ix (ix_listK (K := K) rfl) (pv 0) pe_int (fun _ _ => rfl)) pe_int (nomark _))
      (pss_cons (ps_augS (pv 0) pe_int (get_listK (K := K) rfl) pe_int ip_add set_list)
      (pss_cons (ps_set (i := 2) sc__law_pull.nd rfl (by first | exact .inl rfl | exact .inr rfl) (pe_ix (ix_listK (K := K) rfl) (pv 0) pe_int (fun _ _ => rfl)))
      (C8.pss_cut (ps_if (pt_cmpR op_le (pe_ix (ix_listK (K := K) rfl) (pv 0) pe_int (fun _ _ => rfl)) (pe_callB (call_lenK (K := K) rfl) (by rfl) (bl "len" (by decide)) (by decide +kernel) (pa_cons (pe_ix (ix_listK (K := K) rfl) (pv 0) pe_int (fun _ _ => rfl)) pa_nil)) (nomark _))
        (pss_cons (ps_set (i := 2) sc__law_pull.nd rfl (by first | exact .inl rfl | exact .inr rfl) (pe_ix (ix_listK (K := K) rfl) (pe_ix (ix_listK (K := K) rfl) (pv 0) pe_int (fun _ _ => rfl)) (pe_op op_sub (pe_ix (ix_listK (K := K) rfl) (pv 0) pe_int (fun _ _ => rfl)) pe_int) (fun _ _ => rfl)))
        (pss_one (ps_if (pt_cmpR op_ge (pv 2) (pe_op op_pow pe_int pe_int) (nomark _))
          (pss_cons (ps_asg (pe_op op_fdivW (pv 2) (pv 1)) (pg_sub (pv 0) pe_int set_list))
          (pss_one (ps_ret (pe_op op_mod (pv 2) (pv 1)))))
          pss_nil)))
        pss_nil)
      (pss_cons (ps_set (i := 3) sc__law_pull.nd rfl (by first | exact .inl rfl | exact .inr rfl) (pe_op op_mod (pe_op op_add (pe_op op_add (pv 2) (pe_op op_mul (pe_ix (ix_listK (K := K) rfl) (pv 0) pe_int (fun _ _ => rfl)) pe_int)) (pe_op op_mul (pe_ix (ix_listK (K := K) rfl) (pv 0) pe_int (fun _ _ => rfl)) pe_int)) pe_int))
      (pss_cons (ps_set (i := 3) sc__law_pull.nd rfl (by first | exact .inl rfl | exact .inr rfl) (pe_op op_mod (pe_op op_add (pe_op op_mul (pv 3) (pv 3)) pe_int) pe_int))
      (pss_one (ps_ret (pe_op op_mod (pe_op op_fdivW (pe_op op_mod (pe_op op_add (pe_op op_mul (pv 3) (pv 3)) (pe_ix (ix_listK (K := K) rfl) (pv 0) pe_int (fun _ _ => rfl))) pe_int) pe_int) (pv 1)))))))))
      pss_nil)
    (pss_cons (ps_set (i := 4) sc__law_pull.nd rfl (by first | exact .inl rfl | exact .inr rfl) (pe_op op_mod (pe_ix (ix_listK (K := K) rfl) (pv 0) pe_int (fun _ _ => rfl)) (pv 1)))
    (pss_cons (ps_asg (pe_op op_fdivW (pe_ix (ix_listK (K := K) rfl) (pv 0) pe_int (fun _ _ => rfl)) (pv 1)) (pg_sub (pv 0) pe_int set_list))
    (pss_one (ps_ret (pv 4)))))), ?_⟩
  have cd : CDivW 0 many := ⟨hm, hl⟩
  have c19 : CDivW 0 19 := ⟨by decide, by decide⟩
  have ia : Same (upd G b (.lst [cv, .int c1, .int c2, .int c3])) H := same_still i eb
  have sG : ∀ o, Same G (upd G b o) := fun o => same_new nb
  refine sq_ifF (G := G) (et_test (ev_lt (ev_at (i := 0) (n := 2) rfl upd_same rfl rfl) ev_int)) ia i (fun hb H1 g1 s1 => ?_) (fun hb H1 g1 s1 => ?_)
  · -- the next cell
    refine sq_up (i := 0) (n := 1) (a := c1) (k := 1) rfl (s1 _ _ eb) rfl ?_
    have i0 : Same G (upd H1 b (.lst [cv, .int (c1 + 1), .int c2, .int c3])) := same_mut g1.i nb
    have e0 : (upd H1 b (.lst [cv, .int (c1 + 1), .int c2, .int c3])) b = some (.lst [cv, .int (c1 + 1), .int c2, .int c3]) := upd_same
    have gb0 : Gr (Mb b) G H G (upd H1 b (.lst [cv, .int (c1 + 1), .int c2, .int c3])) := gr_bag (gr_b0 g1) nb
    show tSeq _ _ _ _ (upd H1 b (.lst [cv, .int (c1 + 1), .int c2, .int c3]))
    generalize upd H1 b (.lst [cv, .int (c1 + 1), .int c2, .int c3]) = Ha at i0 e0 gb0
    have ea : ∀ {H : Hp}, Same G H → H b = some (.lst [cv, .int (c1 + 1), .int c2, .int c3]) → Same (upd G b (.lst [cv, .int (c1 + 1), .int c2, .int c3])) H := fun i e => same_still i e
    refine sq_setF (G := G) (ev_at (x := c1 + 1) (i := 0) (n := 1) rfl (upd_same (H := G)) rfl rfl) (ea i0 e0) i0 (fun v H2 g2 s2 r2 => ?_)
    cases r2
    have e2 := s2 _ _ e0
    refine sq_cut (fun σ' H' => ∃ seed : Int, 0 ≤ seed ∧ σ' = [some (.ref b), some (.int many), some (.int seed), none, none] ∧ Same H2 H') ?_ ?_
    · refine st_ifF (G := G) (et_test (ev_le (ev_at (i := 0) (n := 1) rfl (upd_same (H := G)) rfl rfl) (ev_lenL (ev_at (x := cells) (i := 0) (n := 0) rfl (upd_same (H := G)) rfl (Rep.mono (sG _) rc))))) (ea g2.i e2) g2.i (fun hc H3 g3 s3 => ?_) (fun hc H3 g3 s3 => ?_)
      · have hc : c1 + 1 ≤ cells.length := of_decide_eq_true hc
        have e3 := s3 _ _ e2
        refine sq_setF (G := G) (ev_ixL (xs := cells) (ev_at (i := 0) (n := 0) rfl (upd_same (H := G)) rfl (Rep.mono (sG _) rc)) (ev_sub (ev_at (i := 0) (n := 1) rfl (upd_same (H := G)) rfl rfl) ev_int) (by omega)) (ea g3.i e3) g3.i (fun v H4 g4 s4 r4 => ?_)
        cases r4
        have hx : 0 ≤ ix cells (c1 + 1 - 1) := by
          unfold ix
          rw [List.getElem?_eq_getElem (show (c1 + 1 - 1).toNat < cells.length by omega)]
          exact p4 _ (List.getElem_mem _)
        generalize ix cells (c1 + 1 - 1) = seed at hx
        have e4 := s4 _ _ e3
        refine st_ifF (G := G) (et_test (ev_ge (ev_var rfl rfl) (ev_pow ev_int ev_int ⟨by decide, by decide, by decide⟩))) g4.i g4.i (fun hd H5 g5 s5 => ?_) (fun hd H5 g5 s5 => ?_)
        · have e5 := s5 _ _ e4
          refine sq_put (G := G) (i := 0) (n := 2) rfl e5 (by show 2 < 4; decide) (ev_fdivW (i := seed) (ev_var rfl rfl) (ev_var rfl rfl) ⟨hm, hl⟩) g5.i g5.i nb (fun v H6 s6 i6 r6 => ?_)
          cases r6
          refine st_retF (G := G) (ev_mod (i := seed) (ev_var rfl rfl) (ev_var rfl rfl) hm) i6 i6 (fun v H7 g7 s7 r7 => ?_)
          cases r7
          refine q _ H7 (Int.emod_nonneg _ (by omega)) (Int.emod_lt_of_pos _ hm) ?_ ⟨nb, cv, c1 + 1, seed / many, c3, cells, s7 _ _ upd_same, rc, by omega, Int.ediv_nonneg hx (by omega), p3, p4⟩
          exact gr_bt (gr_bag (gr_bt gb0 ⟨Same.refl G, i0.trans (s2.trans (s3.trans (s4.trans (s5.trans s6)))), SB.of (s2.trans (s3.trans (s4.trans (s5.trans s6)))), fun _ _ e => .inl e⟩ nb) nb) (gr_b0 g7) nb
        · exact ⟨seed, hx, rfl, s3.trans (s4.trans s5)⟩
      · exact ⟨c1 + 1, by omega, rfl, s3⟩
    · rintro σ' H3 ⟨seed, hs0, rfl, s3⟩
      have e3 := s3 _ _ e2
      have i3 : Same G H3 := g2.i.trans s3
      refine sq_setF (G := G) (ev_mod (ev_add (ev_add (i := seed) (ev_var rfl rfl) (ev_mul (ev_at (x := c3) (i := 0) (n := 3) rfl (upd_same (H := G)) rfl rfl) ev_int (.inr ⟨by decide, by decide⟩))) (ev_mul (ev_at (x := c1 + 1) (i := 0) (n := 1) rfl (upd_same (H := G)) rfl rfl) ev_int (.inr ⟨by decide, by decide⟩))) ev_int (by decide)) (ea i3 e3) i3 (fun v H4 g4 s4 r4 => ?_)
      cases r4
      have b1 : ∀ z : Int, 0 ≤ z % 2147483629 ∧ z % 2147483629 < 2147483629 := fun z => ⟨Int.emod_nonneg _ (by decide), Int.emod_lt_of_pos _ (by decide)⟩
      have b1 := b1 (seed + c3 * 31 + (c1 + 1) * 69061)
      generalize (seed + c3 * 31 + (c1 + 1) * 69061) % 2147483629 = bl1 at b1
      refine sq_setF (G := G) (ev_mod (ev_add (ev_mul (i := bl1) (j := bl1) (ev_var rfl rfl) (ev_var rfl rfl) (.inr ⟨by omega, by omega⟩)) ev_int) ev_int (by decide)) g4.i g4.i (fun v H5 g5 s5 r5 => ?_)
      cases r5
      have b2 : ∀ z : Int, 0 ≤ z % 2147483587 ∧ z % 2147483587 < 2147483587 := fun z => ⟨Int.emod_nonneg _ (by decide), Int.emod_lt_of_pos _ (by decide)⟩
      have b2 := b2 (bl1 * bl1 + 40961)
      generalize (bl1 * bl1 + 40961) % 2147483587 = bl2 at b2
      have e5 := s5 _ _ (s4 _ _ e3)
      refine st_retF (G := G) (ev_mod (ev_fdivW (ev_mod (ev_add (ev_mul (i := bl2) (j := bl2) (ev_var rfl rfl) (ev_var rfl rfl) (.inr ⟨by omega, by omega⟩)) (ev_at (x := c1 + 1) (i := 0) (n := 1) rfl (upd_same (H := G)) rfl rfl)) ev_int (by decide)) ev_int ⟨by decide, by decide⟩) (ev_var rfl rfl) hm) (ea g5.i e5) g5.i (fun v H6 g6 s6 r6 => ?_)
      cases r6
      refine q _ H6 (Int.emod_nonneg _ (by omega)) (Int.emod_lt_of_pos _ hm) ?_ ⟨nb, cv, c1 + 1, c2, c3, cells, s6 _ _ e5, rc, by omega, p2, p3, p4⟩
      exact gr_bt gb0 ⟨Same.refl G, i0.trans (s2.trans (s3.trans (s4.trans (s5.trans s6)))), SB.of (s2.trans (s3.trans (s4.trans (s5.trans s6)))), fun _ _ e => .inl e⟩ nb
  · -- of the rest
    have hb2 : ¬ c2 < 2 := of_decide_eq_false hb
    show tSeq _ _ _ _ _
    have e1 := s1 _ _ eb
    refine sq_setF (G := G) (ev_mod (ev_at (i := 0) (n := 2) rfl (upd_same (H := G)) rfl rfl) (ev_var rfl rfl) hm) (same_still g1.i e1) g1.i (fun v H2 g2 s2 r2 => ?_)
    cases r2
    have e2 := s2 _ _ e1
    refine sq_put (G := G) (i := 0) (n := 2) rfl e2 (by show 2 < 4; decide) (ev_fdivW (ev_at (i := 0) (n := 2) rfl (upd_same (H := G)) rfl rfl) (ev_var rfl rfl) ⟨hm, hl⟩) (same_still g2.i e2) g2.i nb (fun v H3 s3 i3 r3 => ?_)
    cases r3
    refine st_ret (G := G) (x := c2 % many) (ev_var rfl rfl) i3 (fun v G4 H4 g4 r4 => ?_)
    cases r4
    have gb : Gr (Mb b) G H G (upd H3 b (.lst [cv, .int c1, .int (c2 / many), .int c3])) := gr_bag ⟨Same.refl G, i.trans (s1.trans (s2.trans s3)), SB.of (s1.trans (s2.trans s3)), fun _ _ e => .inl e⟩ nb
    have g4' : Gr (Mb b) G (upd H3 b (.lst [cv, .int c1, .int (c2 / many), .int c3])) G H4 := ⟨Same.refl G, g4.g.trans g4.i, SB.of g4.same, fun _ _ e => .inl e⟩
    refine q _ H4 (Int.emod_nonneg _ (by omega)) (Int.emod_lt_of_pos _ hm) (gr_bt gb g4' nb) ⟨nb, cv, c1, c2 / many, c3, cells, g4.same _ _ upd_same, rc, p1, Int.ediv_nonneg p2 (by omega), p3, p4⟩
theorem d_bag (T : Tx K mg "_law_bag" ["_law_script"] s__law_bag) (bl : Bl mg) : Df P w K mg base 1 "_law_bag" ["_law_script"] (spBag K) := by
  refine T.ok sc__law_bag (fun vs H Q E h => ?_) (fun cdv f A outer s H vs Q E hr h => ?_)
  · obtain ⟨a, ns, G, rfl, _⟩ := h
    rfl
  obtain ⟨a, ns, G, rfl, i, hq, hl, q⟩ := h
  refine ⟨_, (pss_cons (ps_setLc (i := 1) (own := [("_law_one", 2)]) rfl sc__law_bag.nd rfl rfl (sw_true rfl rfl rfl (by decide +kernel)) (pi_listK (K := K) rfl (pe_slice (sl_listK (K := K) rfl) (pv 0) po_none (po_some pe_int))) (blkOk_by (own := [("_law_one", 2)]) (N := N__law_bag) (sc := defScope s__law_bag) (by decide +kernel)) (fun _ _ _ _ _ => (pg_name (i := 2) sc__law_bag.nd rfl (by first | exact .inl rfl | exact .inr rfl))) (fun _ _ _ _ _ => pts_nil) (fun _ _ _ _ _ => (pe_callB call_abs (by rfl) (bl "abs" (by decide)) (by decide +kernel) (pa_cons (pv 2) pa_nil))))
    (pss_cons (ps_set (i := 3) sc__law_bag.nd rfl (by first | exact .inl rfl | exact .inr rfl) (pe_op op_add pe_int (pe_callB (call_lenK (K := K) rfl) (by rfl) (bl "len" (by decide)) (by decide +kernel) (pa_cons (pv 1) pa_nil))))
    (pss_cons (ps_for PassesOwn.never rfl (pi_listK (K := K) rfl (pe_slice (sl_listK (K := K) rfl) (pv 0) po_none (po_some pe_int))) (pg_name (i := 2) sc__law_bag.nd rfl (by first | exact .inl rfl | exact .inr rfl))
      (pss_one (ps_set (i := 3) sc__law_bag.nd rfl (by first | exact .inl rfl | exact .inr rfl) (pe_op op_mod (pe_op op_add (pe_op op_add (pe_op op_mul (pv 3) pe_int) (pe_callB call_abs (by rfl) (bl "abs" (by decide)) (by decide +kernel) (pa_cons (pv 2) pa_nil))) (pe_op op_mul pe_int (pe_callTy call_int1 (by rfl) (bl "int" (by decide)) (by decide +kernel) (pa_cons (pe_cmpR op_lt (pv 2) pe_int (nomark _)) pa_nil)))) pe_int))))
    (pss_one (ps_ret (pe_lst (pa_cons (pv 1) (pa_cons pe_int (pa_cons pe_int (pa_cons (pv 3) pa_nil)))))))))), ?_⟩
  refine sq_set (G := G) (ev_lc (f := fun (n : Int) => if n < 0 then -n else n) (ei_list (ev_script rfl hq hl)) (by omega) ?_) i (fun cv G1 H1 g1 r1 => ?_)
  · intro n hn v G1 s1 r1
    exact gb_name ⟨rfl, ev_abs (ev_var rfl r1)⟩
  refine sq_set (G := G1) (x := 1 + ((ns.map fun (n : Int) => if n < 0 then -n else n).length : Int)) (ev_add ev_int (ev_lenL (ev_var rfl r1))) g1.i (fun v G2 H2 g2 r2 => ?_)
  cases r2
  have g12 := g1.trans g2
  refine sq_for (G := G2) (xs := ns) (fun k σ G' H' => ∃ o salt, σ = [some (.ref a), some cv, o, some (.int salt)] ∧ 0 ≤ salt ∧ Gr M0 G H G' H' ∧ rep G' cv (ns.map fun (n : Int) => if n < 0 then -n else n)) (ei_list (ev_script rfl ((g1.g.trans g2.g).seq hq) hl)) g2.i ?_ ?_ ?_
  · intro G3 H3 g3
    exact ⟨none, _, rfl, by omega, g12.trans g3, Rep.mono (g2.g.trans g3.g) r1⟩
  · intro k n v σ' G3 H3 G4 H4 hk e1 e2 hP g4 r4
    obtain ⟨o, salt, rfl, h0, gr, rc⟩ := hP
    cases r4
    refine gn ?_
    refine st_set (G := G4) (ev_mod (ev_add (ev_add (ev_mul (i := salt) (ev_var rfl rfl) ev_int (.inr ⟨by decide, by decide⟩)) (ev_abs (i := n) (ev_var rfl rfl))) (ev_mul ev_int (ev_intB (ev_lt (i := n) (ev_var rfl rfl) ev_int)) (.inl ⟨by decide, by decide⟩))) ev_int (by decide)) g4.i (fun v G5 H5 g5 r5 => ?_)
    cases r5
    exact ⟨G5, g4.g.trans g5.g, g5.i, _, _, rfl, Int.emod_nonneg _ (by decide), (gr.trans g4).trans g5, Rep.mono (g4.g.trans g5.g) rc⟩
  · intro σ' G3 H3 e1 e2 hP
    obtain ⟨o, salt, rfl, h0, gr, rc⟩ := hP
    refine ⟨cv, rfl, .int salt, rfl, (by show 4 ≤ sizeLine; decide), fun p np => ?_⟩
    have nG : G3 p = none := up_none e2 np
    refine q p G3 _ (gr.mut (.inl (up_none gr.same np)) nG) (up_none gr.same np) ⟨nG, cv, 0, 0, salt, _, upd_same, rc, by decide, by decide, h0, fun x hx => ?_⟩
    obtain ⟨n, _, rfl⟩ := List.mem_map.mp hx
    show 0 ≤ if n < 0 then -n else n
    split <;> omega
end


section
variable {P : Program} {w : World} {K : Fg} {mg : Str → Option Value} {base : Heap}
theorem d_pair (T : Tx K mg "_law_pair" ["_law_one", "_law_other"] s__law_pair) (bl : Bl mg) : Df P w K mg base 1 "_law_pair" ["_law_one", "_law_other"] (sp2 (fun (_ _ : Int) => True) lawPair) := by
  refine T.ok sc__law_pair (fun vs H Q E h => ?_) (fun cdv f A outer s H vs Q E hr h => ?_)
  · obtain ⟨v, x, v2, x2, G, rfl, _⟩ := h
    rfl
  obtain ⟨v, x, v2, x2, G, rfl, i, r1, r2, _, q⟩ := h
  refine ⟨_, (pss_one (ps_ret (pe_tup (pa_cons (pe_callB (call_min2 rfl) (by rfl) (bl "min" (by decide)) (by decide +kernel) (pa_cons (pv 0) (pa_cons (pv 1) pa_nil))) (pa_cons (pe_callB (call_max2 rfl) (by rfl) (bl "max" (by decide)) (by decide +kernel) (pa_cons (pv 0) (pa_cons (pv 1) pa_nil))) pa_nil))))), ?_⟩
  exact st_retC (y := lawPair x x2) (G := G) (by walk_at "pf_ev") i (by rfl) (fun v G' H' g r => q v G' H' g r)
end


abbrev Mbp (b p : Addr) : Addr → Prop := fun a => a = b ∨ a = p
def spCut (n : Nat) : Sp := fun vs H Q _ => ∃ (b : Addr) (s e : Int) (p : Addr) (G : Hp) (xs : List (Int × Int)), vs = [.ref b, .int s, .int e, .ref p] ∧ Same G H ∧ Bag G H b ∧ Ml G H p xs ∧ b ≠ p ∧ s < e ∧ e - s ≤ n ∧ e - s ≤ 1000 ∧ (xs.length : Int) + 2 * (e - s) ≤ 10000 ∧
  ∀ A G' H', CutT s e A → Gr (Mbp b p) G H G' H' → Bag G' H' b → Ml G' H' p (xs ++ A) → Q (.ref p) H'
theorem gr_tbp {b p : Addr} {G H G1 H1 G2 H2 : Hp} (x : Gr (Mbp b p) G H G1 H1) (y : Gr (Mbp b p) G1 H1 G2 H2) (nb : G2 b = none) (np : G2 p = none) : Gr (Mbp b p) G H G2 H2 :=
  x.trans y fun a e => .inl (by rcases e with rfl | rfl <;> assumption)
theorem gr_wb {b p : Addr} {G H G1 H1 : Hp} (x : Gr (Mb b) G H G1 H1) : Gr (Mbp b p) G H G1 H1 := ⟨x.g, x.i, fun a o m e => x.h a o (fun z => m (.inl z)) e, x.n⟩
theorem log_small {n : Int} (h1 : 0 < n) (h2 : n ≤ 1000) : n.natAbs.log2 < 9000 := by
  have h0 : n.natAbs ≠ 0 := by omega
  have : n.natAbs < 2 ^ 10 := by omega
  exact Nat.lt_of_lt_of_le ((Nat.log2_lt h0).mpr this) (by decide)
theorem Ml.bag {G H H' : Hp} {b p : Addr} {xs : List (Int × Int)} (m : Ml G H p xs) (g : Gr (Mb b) G H G H') (ne : b ≠ p) : Ml G H' p xs := m.step g fun z => ne z.symm
section
variable {P : Program} {w : World} {K : Fg} {mg : Str → Option Value} {base : Heap}
theorem d_cut_arc (T : Tx K mg "_law_cut_arc" ["_law_bag_here", "_law_start", "_law_end", "_law_found"] s__law_cut_arc) (TP : Tx K mg "_law_pull" ["_law_bag_here", "_law_many"] s__law_pull) (bl : Bl mg) :
    ∀ n : Nat, Df P w K mg base (n + 1) "_law_cut_arc" ["_law_bag_here", "_law_start", "_law_end", "_law_found"] (spCut n) := by
  have D__law_pull := d_pull (P := P) (w := w) (base := base) TP bl
  intro n
  induction n with
  | zero =>
    obtain ⟨f, fd, F, b, m⟩ := T.ex
    have no : ∀ vs H Q E, ¬ spCut 0 vs H Q E := fun vs H Q E h => by
      obtain ⟨b, s, e, p, G, xs, _, _, _, _, _, h1, h2, _⟩ := h
      omega
    exact ⟨f, fd, ⟨fun vs H Q E h => absurd h (no vs H Q E), fun A outer s H args us vs Q E _ _ _ _ h => absurd h (no vs H Q E)⟩, b, F.kp, m⟩
  | succ n ih =>
    have D__law_cut_arc := ih
    refine T.ok (k := n + 1) sc__law_cut_arc (fun vs H Q E h => ?_) (fun cdv f A outer s H vs Q E hr h => ?_)
    · obtain ⟨b, s, e, p, G, xs, rfl, _⟩ := h
      rfl
    obtain ⟨b, s0, e, p, G, xs, rfl, i, bg, ml, nbp, hse, hn, h1000, hlen, q⟩ := h
    refine ⟨_, (C8.pss_cut (ps_if (pt_cmpR op_gt (pe_op op_sub (pv 2) (pv 1)) pe_int (nomark _))
      (pss_cons (ps_set (i := 4) sc__law_cut_arc.nd rfl (by first | exact .inl rfl | exact .inr rfl) (pe_op op_sub (pe_op op_sub (pv 2) (pv 1)) pe_int))
      (pss_cons (ps_set (i := 5) sc__law_cut_arc.nd rfl (by first | exact .inl rfl | exact .inr rfl) (pe_df D__law_pull hr (by first | decide | omega) (by rfl) (pa_cons (pv 0) (pa_cons pe_int pa_nil))))
      (pss_cons (ps_set (i := 6) sc__law_cut_arc.nd rfl (by first | exact .inl rfl | exact .inr rfl) (pe_op op_add (pe_op op_add (pv 1) pe_int) (pe_ix (ix_listK (K := K) rfl) (pe_lst (pa_cons (pe_df D__law_pull hr (by first | decide | omega) (by rfl) (pa_cons (pv 0) (pa_cons (pv 4) pa_nil))) (pa_cons pe_int (pa_cons (pe_op op_sub (pv 4) pe_int) (pa_cons (pe_op op_fdiv (pv 4) pe_int) (pa_cons (pe_df D__law_pull hr (by first | decide | omega) (by rfl) (pa_cons (pv 0) (pa_cons (pv 4) pa_nil))) pa_nil)))))) (pv 5) (fun _ _ => rfl))))
      (pss_cons (ps_expr (pe_bm PySem.F.plainAttrs_list PySem.F.slot_list_append PySem.F.type_list_append mt_append (pv 3) (pa_cons (pe_tup (pa_cons (pv 1) (pa_cons (pv 6) pa_nil))) pa_nil)))
      (pss_cons (ps_expr (pe_bm PySem.F.plainAttrs_list PySem.F.slot_list_append PySem.F.type_list_append mt_append (pv 3) (pa_cons (pe_tup (pa_cons (pv 6) (pa_cons (pv 2) pa_nil))) pa_nil)))
      (pss_cons (ps_expr (pe_df D__law_cut_arc hr (by first | decide | omega) (by rfl) (pa_cons (pv 0) (pa_cons (pv 1) (pa_cons (pv 6) (pa_cons (pv 3) pa_nil))))))
      (pss_one (ps_expr (pe_df D__law_cut_arc hr (by first | decide | omega) (by rfl) (pa_cons (pv 0) (pa_cons (pv 6) (pa_cons (pv 2) (pa_cons (pv 3) pa_nil)))))))))))))
      pss_nil)
    (pss_one (ps_ret (pv 3)))), ?_⟩
    refine sq_cut (fun σ' H' => ∃ A G', σ'[3]? = some (some (.ref p)) ∧ CutT s0 e A ∧ Gr (Mbp b p) G H G' H' ∧ Bag G' H' b ∧ Ml G' H' p (xs ++ A)) ?_ ?_
    · refine st_if (G := G) (b := decide (1 < e - s0)) (by walk_at "pf_ev") i (fun hb G1 H1 g1 => ?_) (fun hb G1 H1 g1 => ?_)
      · have hb : 1 < e - s0 := of_decide_eq_true hb
        refine sq_set (G := G1) (x := e - s0 - 1) (by walk_at "pf_ev") g1.i (fun v G2 H2 g2 r2 => ?_)
        cases r2
        have g12 := g1.trans g2
        have bg2 := bg.step0 g12
        have ml2 := ml.step0 g12
        refine sq_pull (b := b) (many := 5) rfl g2.i bg2 ev_int (by decide) (by decide) (fun way H3 a1 a2 g3 bg3 => ?_)
        have ml3 := ml2.bag g3 nbp
        have hw0 : 0 < e - s0 - 1 := by omega
        have hw1 := log_small hw0 (by omega)
        refine ⟨.int s0, rfl, s0, 1, rfl, rfl, ?_⟩
        refine rd_pull (E := E0) (b := b) (many := e - s0 - 1) (i := 0) (tm := tVar 4) rfl g3.i bg3 (ev_var rfl rfl) hw0 hw1 (fun r1 H4 b1 b2 g4 bg4 => ?_)
        refine ⟨.int (e - s0 - 1), rfl, e - s0 - 1, 1, rfl, rfl, ?_⟩
        refine ⟨.int (e - s0 - 1), rfl, e - s0 - 1, 2, rfl, rfl, ⟨by decide, by decide⟩, ?_⟩
        refine rd_pull (E := E0) (b := b) (many := e - s0 - 1) (i := 0) (tm := tVar 4) rfl g4.i bg4 (ev_var rfl rfl) hw0 hw1 (fun r2 H5 b3 b4 g5 bg5 => ?_)
        refine ⟨by show 5 ≤ sizeLine; decide, fun lq nq => ?_⟩
        have hne : b ≠ lq := by
          obtain ⟨_, _, _, _, _, _, eb, _⟩ := bg5
          exact ne_of_none eb nq
        have ml5 := (ml3.bag g4 nbp).bag g5 nbp
        have hnp : p ≠ lq := by
          obtain ⟨_, vs, ep, _⟩ := ml5
          exact ne_of_none ep nq
        obtain ⟨z, hz, hz0, hz1⟩ : ∃ z : Int, atI [V.int r1, .int 0, .int (e - s0 - 1 - 1), .int ((e - s0 - 1) / 2), .int r2] way = some (.int z) ∧ 0 ≤ z ∧ z < e - s0 - 1 := by
          have hw : way = 0 ∨ way = 1 ∨ way = 2 ∨ way = 3 ∨ way = 4 := by omega
          rcases hw with rfl | rfl | rfl | rfl | rfl
          · exact ⟨r1, rfl, b1, b2⟩
          · exact ⟨0, rfl, by omega, by omega⟩
          · exact ⟨e - s0 - 1 - 1, rfl, by omega, by omega⟩
          · exact ⟨(e - s0 - 1) / 2, rfl, by omega, by omega⟩
          · exact ⟨r2, rfl, b3, b4⟩
        refine ⟨.int way, rfl, lq, _, way, .int z, rfl, rfl, .inl (.inl upd_same), hz, s0 + 1, z, rfl, rfl, ?_⟩
        have i5 : Same G2 (upd H5 lq (.lst [V.int r1, .int 0, .int (e - s0 - 1 - 1), .int ((e - s0 - 1) / 2), .int r2])) := g5.i.trans (same_new nq)
        have bg6 := bg5.other (o := .lst [V.int r1, .int 0, .int (e - s0 - 1 - 1), .int ((e - s0 - 1) / 2), .int r2]) hne
        have ml6 := ml5.other (o := .lst [V.int r1, .int 0, .int (e - s0 - 1 - 1), .int ((e - s0 - 1) / 2), .int r2]) hnp
        have gr6 : Gr (Mbp b p) G H G2 (upd H5 lq (.lst [V.int r1, .int 0, .int (e - s0 - 1 - 1), .int ((e - s0 - 1) / 2), .int r2])) := by
          have x1 := gr_tbp (gr_tbp (gr_tbp g12.wk (gr_wb (p := p) g3) bg2.1 ml2.1) (gr_wb g4) bg2.1 ml2.1) (gr_wb g5) bg2.1 ml2.1
          exact ⟨x1.g, i5, x1.h.trans (SB.of (same_new nq)), x1.n⟩
        generalize upd H5 lq (.lst [V.int r1, .int 0, .int (e - s0 - 1 - 1), .int ((e - s0 - 1) / 2), .int r2]) = H6 at i5 bg6 ml6 gr6
        obtain ⟨m, hm⟩ : ∃ m, m = s0 + 1 + z := ⟨_, rfl⟩
        refine gn (i := 6) (v := .int (s0 + 1 + z)) ?_
        rw [← hm]
        have hm1 : s0 < m := by omega
        have hm2 : m < e := by omega
        -- two pairs are put down
        refine sq_append (G := G2) (i := 3) (p := p) (x := (s0, m)) rfl ml6 (by walk_at "pf_ev") i5 (by omega) (fun G7 H7 o7 g7 ml7 s7 => ?_)
        have bg7 := (bg6.step0 g7).other (o := o7) nbp
        have gr7 : Gr (Mbp b p) G H G7 (upd H7 p o7) := (gr_tbp gr6 g7.wk bg7.1 ml7.1).mut (.inr (.inr rfl)) ml7.1
        refine sq_append (G := G7) (i := 3) (p := p) (x := (m, e)) rfl ml7 (by walk_at "pf_ev") s7 (by rw [List.length_append]; show xs.length + 1 < 100000; omega) (fun G8 H8 o8 g8 ml8 s8 => ?_)
        have bg8 := (bg7.step0 g8).other (o := o8) nbp
        have gr8 : Gr (Mbp b p) G H G8 (upd H8 p o8) := (gr_tbp gr7 g8.wk bg8.1 ml8.1).mut (.inr (.inr rfl)) ml8.1
        -- the first arc, the second arc
        refine ⟨.ref b, rfl, .int s0, rfl, .int m, rfl, .ref p, rfl, b, s0, m, p, G8, (xs ++ [(s0, m)]) ++ [(m, e)], rfl, s8, bg8, ml8, nbp, hm1, by omega, by omega, by simp only [List.length_append, List.length_singleton]; omega, fun A1 G9 H9 c9 g9 bg9 ml9 => ?_⟩
        have gr9 := gr_tbp gr8 g9 bg9.1 ml9.1
        have hA1 := c9.len
        refine ⟨.ref b, rfl, .int m, rfl, .int e, rfl, .ref p, rfl, b, m, e, p, G9, ((xs ++ [(s0, m)]) ++ [(m, e)]) ++ A1, rfl, g9.i, bg9, ml9, nbp, hm2, by omega, by omega, by simp only [List.length_append, List.length_singleton]; omega, fun A2 G10 H10 c10 g10 bg10 ml10 => ?_⟩
        refine ⟨(s0, m) :: (m, e) :: (A1 ++ A2), G10, rfl, .node hm1 hm2 c9 c10, gr_tbp gr9 g10 bg10.1 ml10.1, bg10, ?_⟩
        have ea : xs ++ ((s0, m) :: (m, e) :: (A1 ++ A2)) = xs ++ [(s0, m)] ++ [(m, e)] ++ A1 ++ A2 := by simp
        rw [ea]
        exact ml10
      · have hb : ¬ 1 < e - s0 := of_decide_eq_false hb
        exact ⟨[], G1, rfl, .leaf (by omega), g1.wk, bg.step0 g1, by rw [List.append_nil]; exact ml.step0 g1⟩
    · rintro σ' H' ⟨A, G', hv, hc, g, bg', ml'⟩
      exact ⟨.ref p, hv, q A G' H' hc g bg' ml'⟩
def spDrawn : Sp := fun vs H Q _ => ∃ (b : Addr) (n : Int) (G : Hp), vs = [.ref b, .int n] ∧ Same G H ∧ Bag G H b ∧ 3 ≤ n ∧ n ≤ 40 ∧ ∀ A v G' H', CutT 1 n A → Gr (Mb b) G H G' H' → Bag G' H' b → rep G' v (planOf n A) → Q v H'
def spPlan : Sp := fun vs H Q _ => ∃ (b : Addr) (most : Int) (G : Hp), vs = [.ref b, .int most] ∧ Same G H ∧ Bag G H b ∧ 3 ≤ most ∧ most ≤ 40 ∧ ∀ n A v G' H', 3 ≤ n → n ≤ most → CutT 1 n A → Gr (Mb b) G H G' H' → Bag G' H' b → rep G' v (planOf n A) → Q v H'
theorem gr_bpt {b : Addr} {G H G1 H1 G2 H2 : Hp} (x : Gr (Mb b) G H G1 H1) (y : Gr (Mb b) G1 H1 G2 H2) (nb : G2 b = none) : Gr (Mb b) G H G2 H2 := x.trans y fun a e => .inl (by cases e; exact nb)
theorem d_drawn (T : Tx K mg "_law_drawn_plan" ["_law_bag_here", "_law_faces"] s__law_drawn_plan) (TA : Tx K mg "_law_cut_arc" ["_law_bag_here", "_law_start", "_law_end", "_law_found"] s__law_cut_arc) (TP : Tx K mg "_law_pull" ["_law_bag_here", "_law_many"] s__law_pull)
    (TQ : Tx K mg "_law_pair" ["_law_one", "_law_other"] s__law_pair) (bl : Bl mg) : Df P w K mg base 42 "_law_drawn_plan" ["_law_bag_here", "_law_faces"] spDrawn := by
  have D__law_cut_arc := d_cut_arc (P := P) (w := w) (base := base) TA TP bl 40
  have D__law_pair := d_pair (P := P) (w := w) (base := base) TQ bl
  refine T.ok sc__law_drawn_plan (fun vs H Q E h => ?_) (fun cdv f A outer s H vs Q E hr h => ?_)
  · obtain ⟨b, n, G, rfl, _⟩ := h
    rfl
  obtain ⟨b, n, G, rfl, i, bg, h3, h40, q⟩ := h
  refine ⟨_, (pss_cons (ps_setLc (i := 2) (own := [("_law_low", 3), ("_law_high", 4)]) rfl sc__law_drawn_plan.nd rfl rfl (sw_true rfl rfl rfl (by decide +kernel)) (pi_listK (K := K) rfl (pe_df D__law_cut_arc hr (by first | decide | omega) (by rfl) (pa_cons (pv 0) (pa_cons pe_int (pa_cons (pv 1) (pa_cons (pe_lst pa_nil) pa_nil)))))) (blkOk_by (own := [("_law_low", 3), ("_law_high", 4)]) (N := N__law_drawn_plan) (sc := defScope s__law_drawn_plan) (by decide +kernel)) (fun _ _ _ _ _ => (pg_tupK (K := K) (n := 2) rfl (pg_tup rfl (pgs_cons (pg_name (i := 3) sc__law_drawn_plan.nd rfl (by first | exact .inl rfl | exact .inr rfl)) (pgs_cons (pg_name (i := 4) sc__law_drawn_plan.nd rfl (by first | exact .inl rfl | exact .inr rfl)) pgs_nil))))) (fun _ _ _ _ _ => pts_one (pt_cmpR op_gt (pe_op op_sub (pv 4) (pv 3)) pe_int (nomark _))) (fun _ _ _ _ _ => (pe_tup (pa_cons (pv 3) (pa_cons (pv 4) pa_nil)))))
    (pss_one (ps_ret (pe_tup (pa_cons (pv 1) (pa_cons (pe_callTy (call_tupleK (K := K) rfl) (by rfl) (bl "tuple" (by decide)) (by decide +kernel) (pa_cons (pe_callB (cr_sortedPOK (K := K) rfl) (by rfl) (bl "sorted" (by decide)) (by decide +kernel) (pa_cons (pe_lc (own := [("_law_low", 3), ("_law_high", 4)]) rfl sc__law_drawn_plan.nd (pi_listK (K := K) rfl (pv 2)) (blkOk_by (own := [("_law_low", 3), ("_law_high", 4)]) (N := N__law_drawn_plan) (sc := defScope s__law_drawn_plan) (by decide +kernel)) (fun _ _ _ _ _ => (pg_tupK (K := K) (n := 2) rfl (pg_tup rfl (pgs_cons (pg_name (i := 3) sc__law_drawn_plan.nd rfl (by first | exact .inl rfl | exact .inr rfl)) (pgs_cons (pg_name (i := 4) sc__law_drawn_plan.nd rfl (by first | exact .inl rfl | exact .inr rfl)) pgs_nil))))) (fun _ _ _ _ _ => pts_nil) (fun _ _ _ _ _ => (pe_df D__law_pair hr (by first | decide | omega) (by rfl) (pa_cons (pv 3) (pa_cons (pe_op op_mod (pv 4) (pv 1)) pa_nil))))) pa_nil)) pa_nil)) pa_nil)))))), ?_⟩
  refine sq_lcw ?_
  refine ⟨.ref b, rfl, .int n, rfl, (by show 0 ≤ sizeLine; decide), fun p np => ?_⟩
  have nG := up_none i np
  have nbp : b ≠ p := by
    obtain ⟨_, _, _, _, _, _, eb, _⟩ := bg
    exact ne_of_none eb np
  refine ⟨b, 1, n, p, G, [], rfl, same_mut i nG, bg.other nbp, ⟨nG, [], upd_same, .nil⟩, nbp, by omega, by omega, by omega, by show (0 : Int) + 2 * (n - 1) ≤ 10000; omega, fun A1 G1 H1 hc g1 bg1 ml1 => ?_⟩
  refine ⟨p, rfl, ml1.sq, ?_⟩
  rw [List.nil_append] at ml1
  have hA := hc.len
  obtain ⟨n1, vs1, e1, pa1⟩ := ml1
  have sG : Same G1 (upd G1 p (.lst vs1)) := same_new n1
  have i1 : Same (upd G1 p (.lst vs1)) H1 := same_still g1.i e1
  have gr1 : Gr (Mb b) G H (upd G1 p (.lst vs1)) H1 := ⟨g1.g.trans sG, i1, fun a o m e => by
      have ne : a ≠ p := ne_of_none e np
      exact g1.h a o (fun z => by rcases z with z | z; exact m z; exact ne z) (by rw [upd_ne ne]; exact e), fun a o e => by
      by_cases h : a = p
      · subst h; rw [upd_same] at e; cases e; exact .inr ⟨.inl np, fun ps z => by cases z⟩
      · rw [upd_ne h] at e
        rcases g1.n a o e with z | ⟨z | ⟨vs, hv, z⟩, nt⟩
        · exact .inl z
        · rw [upd_ne h] at z; exact .inr ⟨.inl z, nt⟩
        · rw [upd_ne h] at z; exact .inr ⟨.inr ⟨vs, hv, z⟩, nt⟩⟩
  have bg1' : Bag (upd G1 p (.lst vs1)) H1 b := bg1.up sG (by rw [upd_ne nbp]; exact bg1.1)
  refine lc_rest (p := fun lh : Int × Int => decide (1 < lh.2 - lh.1)) (f := fun lh : Int × Int => (lh.1, lh.2)) (itok_list (xs := A1) upd_same (paired_mono sG pa1)) i1 (by omega) ?_ (fun v2 G2 H2 g2 r2 => ?_)
  · intro lh hlh v G2 s2 r2
    exact gb_pair' r2 fun u w ru rw => ⟨rfl, et_test (ev_gt (ev_sub (ev_var rfl rw) (ev_var rfl ru)) ev_int), fun _ => ev_tup2 (ev_var rfl ru) (ev_var rfl rw)⟩
  · have e2 : (A1.filter fun lh => decide (1 < lh.2 - lh.1)).map (fun lh : Int × Int => (lh.1, lh.2)) = A1.filter fun lh => decide (1 < lh.2 - lh.1) := List.map_id _
    rw [e2] at r2
    refine st_retC (y := planOf n A1) (G := G2) (ev_tup2 (x := n) (ev_var rfl rfl) (ev_tupleL (ev_sortedP (ev_lc (f := fun lh : Int × Int => lawPair lh.1 (lh.2 % n)) (ei_list (ev_var rfl r2)) ?_ ?_)))) g2.i (by rfl) (fun v G3 H3 g3 r3 => ?_)
    · exact Nat.le_trans (List.length_filter_le _ _) (by omega)
    · intro lh hlh v G3 s3 r3
      exact gb_pair' r3 fun u w ru rw => ⟨rfl, ev_call2 (ev_var rfl ru) (ev_mod (ev_var rfl rw) (ev_var rfl rfl) (by omega)) trivial⟩
    · have g23 := g2.trans g3
      have b3 := bg1'.step0 g23
      exact q A1 v G3 H3 hc (gr_bpt gr1 g23.wk b3.1) b3 r3
theorem d_plan (T : Tx K mg "_law_plan" ["_law_bag_here", "_law_most"] s__law_plan) (TD : Tx K mg "_law_drawn_plan" ["_law_bag_here", "_law_faces"] s__law_drawn_plan) (TA : Tx K mg "_law_cut_arc" ["_law_bag_here", "_law_start", "_law_end", "_law_found"] s__law_cut_arc) (TP : Tx K mg "_law_pull" ["_law_bag_here", "_law_many"] s__law_pull)
    (TQ : Tx K mg "_law_pair" ["_law_one", "_law_other"] s__law_pair) (bl : Bl mg) : Df P w K mg base 43 "_law_plan" ["_law_bag_here", "_law_most"] spPlan := by
  have D__law_drawn_plan := d_drawn (P := P) (w := w) (base := base) TD TA TP TQ bl
  have D__law_pull := d_pull (P := P) (w := w) (base := base) TP bl
  refine T.ok sc__law_plan (fun vs H Q E h => ?_) (fun cdv f A outer s H vs Q E hr h => ?_)
  · obtain ⟨b, n, G, rfl, _⟩ := h
    rfl
  obtain ⟨b, most, G, rfl, i, bg, h3, h40, q⟩ := h
  refine ⟨_, (pss_cons (ps_set (i := 2) sc__law_plan.nd rfl (by first | exact .inl rfl | exact .inr rfl) (pe_op op_add pe_int (pe_df D__law_pull hr (by first | decide | omega) (by rfl) (pa_cons (pv 0) (pa_cons (pe_op op_sub (pv 1) pe_int) pa_nil)))))
    (pss_one (ps_ret (pe_df D__law_drawn_plan hr (by first | decide | omega) (by rfl) (pa_cons (pv 0) (pa_cons (pv 2) pa_nil)))))), ?_⟩
  refine sq_pullAdd (b := b) (many := most - 2) rfl i bg (ev_sub (ev_var rfl rfl) ev_int) (by omega) (log_small (by omega) (by omega)) (fun r H1 a1 a2 g1 bg1 => ?_)
  refine ⟨.ref b, rfl, .int (3 + r), rfl, b, 3 + r, G, rfl, g1.i, bg1, by omega, by omega, fun A v G2 H2 hc g2 bg2 r2 => ?_⟩
  exact q (3 + r) A v G2 H2 (by omega) (by omega) hc (gr_bpt g1 g2 bg2.1) bg2 r2
end

section
variable {σ : L2.St} {G H : Hp} {K : Fg} {Q : VK}
/-- [a, b, c][_law_pull(bag, n)], n things of whole numbers -/
theorem rd_menu {tr : TA} {ms : List Int} {i : Nat} {b : Addr} {n : Int} (hm : EvAs tr σ G ms) (hv : σ[i]? = some (some (.ref b))) (s : Same G H) (bg : Bag G H b) (hn : (ms.length : Int) = n) (h0 : 0 < n) (hb : n ≤ 1000)
    (k : ∀ z H', z ∈ ms → Gr (Mb b) G H G H' → Bag G H' b → Q (.int z) H') : tOp (rIxL K) (tLst tr) (tCall spPull [] E0 (tCons (tVar i) (tCons (tC (.int n)) tNil))) σ H Q :=
  hm H s _ fun vs G1 H1 g1 pa => ⟨by rw [paired_len pa]; exact sl_small (by omega), fun lq nq => by
    have s1 : Same G (upd H1 lq (.lst vs)) := (g1.g.trans g1.i).trans (same_new nq)
    have bg1 : Bag G H1 b := by
      obtain ⟨n0, cv, c1, c2, c3, cells, eb, r⟩ := bg
      exact ⟨n0, cv, c1, c2, c3, cells, g1.same _ _ eb, r⟩
    have hne : b ≠ lq := by
      obtain ⟨_, _, _, _, _, _, eb, _⟩ := bg1
      exact ne_of_none eb nq
    have hl0 := log_small h0 hb
    refine rd_pull (E := E0) (b := b) (many := n) (i := i) (tm := tC (.int n)) hv s1 (bg1.other hne) ev_int h0 hl0 (fun r H2 a1 a2 g2 bg2 => ?_)
    have e2 := g2.h lq _ (fun z => hne z.symm) upd_same
    have hr : r.toNat < ms.length := by omega
    obtain ⟨v, ev, rv⟩ := paired_get pa (List.getElem?_eq_getElem hr)
    have ev2 : atI vs r = some v := by
      have e : r = ((r.toNat : Nat) : Int) := by omega
      rw [e]; exact atI_nat ev
    refine ⟨lq, vs, r, v, rfl, rfl, .inl (.inl e2), ev2, ?_⟩
    rw [rep_int rv]
    refine k _ H2 (List.getElem_mem hr) ?_ bg2
    exact gr_bt (⟨Same.refl G, s1, SB.of (g1.same.trans (same_new nq)), fun _ _ e => .inl e⟩) g2 bg.1⟩
end
theorem okN_plan {p : Plan} (h : p.2.l.length ≤ 1000) : OkN 3 (dat p) := okN_pair (okN_int 2 _) (okN_tup (by omega) fun c _ => okN_pair (okN_int 0 _) (okN_int 0 _))
theorem okN_plans {ps : List Plan} (hl : ps.length ≤ 1000) (h : ∀ p ∈ ps, p.2.l.length ≤ 1000) : OkN 4 (dat ps) := okN_list (by omega) fun p hp => okN_plan (h p hp)
theorem plan_len {p : Plan} (h : isPlanM p = true) : p.2.l.length ≤ 1000 := by have := (plan_facts h).2.2.1; omega
theorem okN_up : ∀ {n : Nat} {d : PyData}, OkN n d → OkN (n + 1) d
  | 0, d, h => okN_flat 1 h.1 h.2
  | n + 1, d, h => ⟨h.1, h.2.1, fun e he => okN_up (h.2.2 e he)⟩

section
variable {P : Program} {w : World} {K : Fg} {mg : Str → Option Value} {base : Heap}
theorem q__law_bag (T : Tg K mg) : Df P w K mg base 1 "_law_bag" ["_law_script"] (spBag K) := d_bag T._law_bag T.bl
theorem q__law_pull (T : Tg K mg) : Df P w K mg base 1 "_law_pull" ["_law_bag_here", "_law_many"] spPull := d_pull T._law_pull T.bl
theorem q__law_pair (T : Tg K mg) : Df P w K mg base 1 "_law_pair" ["_law_one", "_law_other"] (sp2 (fun (_ _ : Int) => True) lawPair) := d_pair T._law_pair T.bl
theorem q__law_plan (T : Tg K mg) : Df P w K mg base 43 "_law_plan" ["_law_bag_here", "_law_most"] spPlan := d_plan T._law_plan T._law_drawn_plan T._law_cut_arc T._law_pull T._law_pair T.bl
end

section
variable {σ : L2.St} {G H : Hp} {K : Fg} {Q : VK}
/-- [a, b, c][_law_pull(bag, n)], n flat things -/
theorem rd_pick {α : Type} [Rep α] [Flat α] {tr : TA} {ms : List α} {i : Nat} {b : Addr} {n : Int} (hm : EvAs tr σ G ms) (hv : σ[i]? = some (some (.ref b))) (s : Same G H) (bg : Bag G H b) (hn : (ms.length : Int) = n) (h0 : 0 < n) (hb : n ≤ 1000)
    (k : ∀ z v H', z ∈ ms → Gr (Mb b) G H G H' → Bag G H' b → rep G v z → Q v H') : tOp (rIxL K) (tLst tr) (tCall spPull [] E0 (tCons (tVar i) (tCons (tC (.int n)) tNil))) σ H Q :=
  hm H s _ fun vs G1 H1 g1 pa => ⟨by rw [paired_len pa]; exact sl_small (by omega), fun lq nq => by
    have s1 : Same G (upd H1 lq (.lst vs)) := (g1.g.trans g1.i).trans (same_new nq)
    have bg1 : Bag G H1 b := by
      obtain ⟨n0, cv, c1, c2, c3, cells, eb, r⟩ := bg
      exact ⟨n0, cv, c1, c2, c3, cells, g1.same _ _ eb, r⟩
    have hne : b ≠ lq := by
      obtain ⟨_, _, _, _, _, _, eb, _⟩ := bg1
      exact ne_of_none eb nq
    have hl0 := log_small h0 hb
    refine rd_pull (E := E0) (b := b) (many := n) (i := i) (tm := tC (.int n)) hv s1 (bg1.other hne) ev_int h0 hl0 (fun r H2 a1 a2 g2 bg2 => ?_)
    have e2 := g2.h lq _ (fun z => hne z.symm) upd_same
    have hr : r.toNat < ms.length := by omega
    obtain ⟨v, ev, rv⟩ := paired_get pa (List.getElem?_eq_getElem hr)
    have ev2 : atI vs r = some v := by
      have e : r = ((r.toNat : Nat) : Int) := by omega
      rw [e]; exact atI_nat ev
    refine ⟨lq, vs, r, v, rfl, rfl, .inl (.inl e2), ev2, ?_⟩
    refine k _ v H2 (List.getElem_mem hr) ?_ bg2 (Flat.any rv)
    exact gr_bt (⟨Same.refl G, s1, SB.of (g1.same.trans (same_new nq)), fun _ _ e => .inl e⟩) g2 bg.1⟩
theorem sq_any {te : TE} {i : Nat} {u : TS} {D : Ends} (h : te σ H fun v H1 => u D (σ.set i (some v)) H1) : tSeq (tAsg te (gName i)) u D σ H := h
theorem ev_inT2 {ta tb : TE} {x : Str} {ys : Tup Str} (ha : Ev ta σ G x) (hb : Ev tb σ G ys) : Ev (tOp (rIn K false) ta tb) σ G (decide (x ∈ ys.l)) :=
  ev2 ha hb fun v u G' _ k1 k2 H i Q q => by
    cases k1
    obtain ⟨a, vs, rfl, h2, h3⟩ := k2
    rw [paired_strs h3] at h2
    exact ⟨a, _, rfl, .inr (.inl (.inl (i _ _ h2))), rfl, strs_flat _, q _ G' H (Gr.refl i) (by rw [inV_strs]; rfl)⟩
end
abbrev wordsS : Str := "fold drop pinch unpinch over about paint mark wash unfold refold"
def wordsL : List Str := ["fold", "drop", "pinch", "unpinch", "over", "about", "paint", "mark", "wash", "unfold", "refold"]
theorem words_of : Txt.split wordsS " " = wordsL := by
  have e : Txt.join " " wordsL = wordsS := TL.ext_tl (by rw [tl_txj]; decide +kernel)
  rw [← e]
  exact TL.split_join tl_blank (by decide +kernel) (by decide) (by decide +kernel)
theorem gtr {b : Addr} {G H G1 H1 G2 H2 : Hp} (x : Gr (Mb b) G H G1 H1) (y : Gr (Mb b) G1 H1 G2 H2) (bg : Bag G2 H2 b) : Gr (Mb b) G H G2 H2 := x.trans y fun a e => .inl (by cases e; exact bg.1)
theorem low_at {n : Int} (h0 : 0 ≤ n) (h1 : n < 26) : ∃ c, lowB c = true ∧ atI lowsS.cps.toList n = some c := by
  have hl : lowsS.cps.toList.length = 26 := by rw [lows_eq]; rfl
  obtain ⟨c, hc⟩ : ∃ c, lowsS.cps.toList[n.toNat]? = some c := ⟨_, List.getElem?_eq_getElem (by omega)⟩
  refine ⟨c, decide_eq_true (List.mem_of_getElem? hc), ?_⟩
  have e : n = ((n.toNat : Nat) : Int) := by omega
  rw [e]; exact atI_nat hc
theorem plan_sm {p : Plan} (h : isPlanM p = true) : smP p := by
  obtain ⟨f3, f40, fl, fc, _⟩ := plan_facts h
  refine ⟨⟨by omega, by omega⟩, fun c hc => ?_, by omega⟩
  have := fc c hc
  exact ⟨⟨by omega, by omega⟩, ⟨by omega, by omega⟩⟩
theorem name_tx {l : List Nat} (h1 : 1 ≤ l.length) (h8 : l.length ≤ 8) (h : ∀ c ∈ l, lowB c = true) : nameB (tx l) = true := by
  unfold nameB
  rw [tx_len, decide_eq_false (by omega), decide_eq_false (by omega)]
  exact List.all_eq_true.mpr h
theorem let_one {c : Nat} (h : lowB c = true) : letB (⟨#[c]⟩ : Str) = true := by
  unfold letB
  have e : (⟨#[c]⟩ : Str).length = 1 := rfl
  rw [e]
  show (true && [c].all lowB) = true
  simp [h]
def spDeed : Sp := fun vs H Q _ => ∃ (b : Addr) (G : Hp), vs = [.ref b] ∧ Same G H ∧ Bag G H b ∧ ∀ (d : List Th) (v : V) (G' H' : Hp), GoodD d → (∀ t ∈ d, smT t) → Gr (Mb b) G H G' H' → Bag G' H' b → rep G' v (Tup.mk d) → Q v H'
theorem name_sm {x : Str} (h : nameB x = true) : smT (.s x) := by have := (name_facts h).1; show x.length ≤ 1000; omega
section
variable {P : Program} {w : World} {K : Fg} {mg : Str → Option Value} {base : Heap}
theorem q__law_any_deed (T : Tg K mg) : Df P w K mg base 45 "_law_any_deed" ["_law_bag_here"] spDeed := by
  refine T._law_any_deed.ok sc__law_any_deed (fun vs H Q E h => ?_) (fun cdv f A outer s H vs Q E hr h => ?_)
  · obtain ⟨b, G, rfl, _⟩ := h
    rfl
  obtain ⟨b, G, rfl, i, bg, q⟩ := h
  have bl := T.bl
  refine ⟨_, (pss_cons (ps_set (i := 1) sc__law_any_deed.nd rfl (by first | exact .inl rfl | exact .inr rfl) (pe_split pe_str pe_str))
    (pss_cons (ps_set (i := 2) sc__law_any_deed.nd rfl (by first | exact .inl rfl | exact .inr rfl) (pe_ix (ix_listK (K := K) rfl) (pv 1) (pe_df (q__law_pull T) hr (by first | decide | omega) (by rfl) (pa_cons (pv 0) (pa_cons pe_int pa_nil))) (fun _ _ => rfl)))
    (pss_cons (ps_set (i := 3) sc__law_any_deed.nd rfl (by first | exact .inl rfl | exact .inr rfl) pe_str)
    (pss_cons (ps_for PassesOwn.never rfl (pi_range1 (by rfl) (bl "range" (by decide)) (pa_cons (pe_op op_add pe_int (pe_df (q__law_pull T) hr (by first | decide | omega) (by rfl) (pa_cons (pv 0) (pa_cons pe_int pa_nil)))) pa_nil)) (pg_name (i := 4) sc__law_any_deed.nd rfl (by first | exact .inl rfl | exact .inr rfl))
      (pss_one (ps_set (i := 3) sc__law_any_deed.nd rfl (by first | exact .inl rfl | exact .inr rfl) (pe_op op_add_str (pv 3) (pe_ix ix_str pe_str (pe_df (q__law_pull T) hr (by first | decide | omega) (by rfl) (pa_cons (pv 0) (pa_cons pe_int pa_nil))) (fun _ _ => rfl))))))
    (pss_cons (ps_if (pt_cmpR op_in_seq (pv 2) (pe_tup (pa_cons pe_str (pa_cons pe_str pa_nil))) (by rfl))
      (pss_cons (ps_set (i := 5) sc__law_any_deed.nd rfl (by first | exact .inl rfl | exact .inr rfl) (pe_df (q__law_plan T) hr (by first | decide | omega) (by rfl) (pa_cons (pv 0) (pa_cons (pe_ix (ix_listK (K := K) rfl) (pe_lst (pa_cons pe_int (pa_cons pe_int (pa_cons pe_int pa_nil)))) (pe_df (q__law_pull T) hr (by first | decide | omega) (by rfl) (pa_cons (pv 0) (pa_cons pe_int pa_nil))) (fun _ _ => rfl)) pa_nil))))
      (C8.pss_cut (ps_if (pt_cmpR op_eq (pe_df (q__law_pull T) hr (by first | decide | omega) (by rfl) (pa_cons (pv 0) (pa_cons pe_int pa_nil))) pe_int (nomark _))
        (pss_cons (ps_setLc (i := 6) (own := [("_law_k", 4)]) rfl sc__law_any_deed.nd rfl rfl (sw_true rfl rfl rfl (by decide +kernel)) (pi_range1 (by rfl) (bl "range" (by decide)) (pa_cons pe_int pa_nil)) (blkOk_by (own := [("_law_k", 4)]) (N := N__law_any_deed) (sc := defScope s__law_any_deed) (by decide +kernel)) (fun _ _ _ _ _ => (pg_name (i := 4) sc__law_any_deed.nd rfl (by first | exact .inl rfl | exact .inr rfl))) (fun _ _ _ _ _ => pts_nil) (fun _ _ _ _ _ => (pe_tup (pa_cons (pe_df (q__law_pull T) hr (by first | decide | omega) (by rfl) (pa_cons (pv 0) (pa_cons pe_int pa_nil))) (pa_cons (pe_df (q__law_pull T) hr (by first | decide | omega) (by rfl) (pa_cons (pv 0) (pa_cons pe_int pa_nil))) pa_nil)))))
        (pss_one (ps_set (i := 5) sc__law_any_deed.nd rfl (by first | exact .inl rfl | exact .inr rfl) (pe_tup (pa_cons (pe_df (q__law_pull T) hr (by first | decide | omega) (by rfl) (pa_cons (pv 0) (pa_cons pe_int pa_nil))) (pa_cons (pe_callTy (call_tupleK (K := K) rfl) (by rfl) (bl "tuple" (by decide)) (by decide +kernel) (pa_cons (pv 6) pa_nil)) pa_nil))))))
        pss_nil)
      (pss_one (ps_ret (pe_tup (pa_cons (pv 2) (pa_cons (pv 3) (pa_cons (pv 5) pa_nil))))))))
      pss_nil)
    (pss_cons (ps_if (pt_cmpR op_in_seq (pv 2) (pe_tup (pa_cons pe_str (pa_cons pe_str pa_nil))) (by rfl))
      (pss_one (ps_ret (pe_tup (pa_cons (pv 2) (pa_cons (pv 3) (pa_cons (pe_ix (ix_listK (K := K) rfl) (pe_lst (pa_cons pe_str (pa_cons pe_str pa_nil))) (pe_df (q__law_pull T) hr (by first | decide | omega) (by rfl) (pa_cons (pv 0) (pa_cons pe_int pa_nil))) (fun _ _ => rfl)) pa_nil))))))
      pss_nil)
    (pss_cons (ps_set (i := 7) sc__law_any_deed.nd rfl (by first | exact .inl rfl | exact .inr rfl) (pe_ix (ix_listK (K := K) rfl) (pe_lst (pa_cons (pe_df (q__law_pull T) hr (by first | decide | omega) (by rfl) (pa_cons (pv 0) (pa_cons pe_int pa_nil))) (pa_cons (pe_df (q__law_pull T) hr (by first | decide | omega) (by rfl) (pa_cons (pv 0) (pa_cons pe_int pa_nil))) pa_nil))) (pe_df (q__law_pull T) hr (by first | decide | omega) (by rfl) (pa_cons (pv 0) (pa_cons pe_int pa_nil))) (fun _ _ => rfl)))
    (pss_cons (ps_if (pt_cmpR op_eq (pv 2) pe_str (nomark _))
      (pss_one (ps_ret (pe_tup (pa_cons (pv 2) (pa_cons (pv 3) (pa_cons (pv 7) (pa_cons (pe_ix (ix_listK (K := K) rfl) (pe_lst (pa_cons pe_str (pa_cons pe_str (pa_cons pe_str pa_nil)))) (pe_df (q__law_pull T) hr (by first | decide | omega) (by rfl) (pa_cons (pv 0) (pa_cons pe_int pa_nil))) (fun _ _ => rfl)) pa_nil)))))))
      pss_nil)
    (pss_cons (ps_if (pt_cmpR op_eq (pv 2) pe_str (nomark _))
      (pss_one (ps_ret (pe_tup (pa_cons (pv 2) (pa_cons (pv 3) (pa_cons (pv 7) (pa_cons (pe_ix ix_str pe_str (pe_df (q__law_pull T) hr (by first | decide | omega) (by rfl) (pa_cons (pv 0) (pa_cons pe_int pa_nil))) (fun _ _ => rfl)) pa_nil)))))))
      pss_nil)
    (pss_one (ps_ret (pe_ifExp (pt_cmpR op_eq (pv 2) pe_str (nomark _)) (pe_tup (pa_cons (pv 2) (pa_cons (pv 3) (pa_cons (pv 7) pa_nil)))) (pe_tup (pa_cons (pv 2) (pa_cons (pv 3) pa_nil))))))))))))))), ?_⟩
  refine sq_set (G := G) (x := wordsL) (Ev.cast (ev_splitS ev_str ev_str (by decide +kernel) (by decide +kernel)) words_of) i (fun wv G1 H1 g1 rw1 => ?_)
  have bg1 := bg.step0 g1
  have t1 : Gr (Mb b) G H G1 H1 := g1.wk
  refine ⟨wv, rfl, ?_⟩
  refine rd_pull (E := E0) (b := b) (many := 11) (i := 0) (tm := tC (.int 11)) rfl g1.i bg1 ev_int (by decide) (by decide) (fun r H2 r0 r11 g2 bg2 => ?_)
  have t2 := gtr t1 g2 bg2
  obtain ⟨pa, vs, rfl, e1, pr⟩ := rw1
  have hwl : wordsL.length = 11 := rfl
  obtain ⟨w0, hw0⟩ : ∃ w0, wordsL[r.toNat]? = some w0 := ⟨_, List.getElem?_eq_getElem (by omega)⟩
  obtain ⟨v0, ev0, rv0⟩ := paired_get pr hw0
  cases rv0
  have ev2 : atI vs r = some (.str w0) := by
    have e : r = ((r.toNat : Nat) : Int) := by omega
    rw [e]; exact atI_nat ev0
  refine ⟨pa, vs, r, _, rfl, rfl, .inl (.inl (g2.i _ _ e1)), ev2, ?_⟩
  refine gn (i := 2) (v := .str w0) ?_
  have hm : w0 ∈ wordsL := List.mem_of_getElem? hw0
  have e0 : (("" : Str)) = tx [] := by decide +kernel
  refine sq_set (G := G1) (x := tx []) (Ev.cast ev_str e0) g2.i (fun nv G3 H3 g3 rn => ?_)
  have rn : nv = .str (tx []) := rn
  subst rn
  have bg3 := bg2.step0 g3
  have t3 := gtr t2 g3.wk bg3
  refine rd_pull (E := E0) (b := b) (many := 8) (i := 0) (tm := tC (.int 8)) rfl g3.i bg3 ev_int (by decide) (by decide) (fun r8 H4 p0 p8 g4 bg4 => ?_)
  have t4 := gtr t3 g4 bg4
  refine ⟨1, r8, rfl, rfl, 1 + r8, rfl, by omega, by omega, ?_⟩
  refine st_for (wi := fun _ H R => R (Itr 0 (1 + r8).toNat) H) (G := G3) (xs := rng 0 (1 + r8)) (fun k σ G' H' => Gr (Mb b) G H G' H' ∧ Bag G' H' b ∧ ∃ (l : List Nat) (a4 : Option V), l.length = k ∧ (∀ c ∈ l, lowB c = true) ∧ σ = [some (.ref b), some (.ref pa), some (.str w0), some (.str (tx l)), a4, none, none, none]) (fun H i R k => k _ G3 H (Gr.refl i) (it_rng (by omega))) g4.i ?_ ?_ ?_
  · intro G5 H5 g5
    have b5 := bg4.step0 g5
    exact ⟨gtr t4 g5.wk b5, b5, [], none, rfl, (fun c h => by cases h), rfl⟩
  · intro k n0 v σ' G5 H5 G6 H6 hk e3 e4 hP g6 r6
    obtain ⟨t5, b5, l, a4, hl, hlow, rfl⟩ := hP
    have b6 := b5.step0 g6
    have t6 := gtr t5 g6.wk b6
    have hk8 : k < (rng 0 (1 + r8)).length := (List.getElem?_eq_some_iff.mp hk).1
    rw [rng_len] at hk8
    refine gn ?_
    refine ⟨_, rfl, ?_⟩
    refine rd_pull (E := E0) (b := b) (many := 26) (i := 0) (tm := tC (.int 26)) rfl g6.i b6 ev_int (by decide) (by decide) (fun rc H7 c0 c26 g7 b7 => ?_)
    have t7 := gtr t6 g7 b7
    obtain ⟨c, hc1, hc2⟩ := low_at c0 c26
    refine ⟨_, rc, c, rfl, rfl, by decide +kernel, hc2, tx l, ⟨#[c]⟩, rfl, rfl, by rw [tx_len, hl]; exact sl_small (by show k + 1 ≤ 100000; omega), ?_⟩
    refine ⟨G6, g6.g, g7.i, t7, b7, l ++ [c], _, by rw [List.length_append, hl]; rfl, fun d hd => ?_, by rw [← tx_add]; rfl⟩
    rcases List.mem_append.mp hd with z | z
    · exact hlow d z
    · rw [List.mem_singleton.mp z]; exact hc1
  intro σ' G5 H5 e3 e4 hP
  obtain ⟨t5, b5, l, a4, hl, hlow, rfl⟩ := hP
  rw [rng_len] at hl
  have hname := name_tx (l := l) (by omega) (by omega) hlow
  generalize tx l = nm at hname
  have nsm := name_sm hname
  have wsm : smT (.s w0) := by
    have : ∀ x ∈ wordsL, x.length ≤ 1000 := by decide +kernel
    exact this w0 hm
  have fin : ∀ {d : List Th} {v : V} {G' H' : Hp}, GoodD d → (∀ t ∈ d, smT t) → Gr (Mb b) G H G' H' → Bag G' H' b → rep G' v (Tup.mk d) → Q v H' := fun {d v G' H'} a1 a2 a3 a4 a5 => q d v G' H' a1 a2 a3 a4 a5
  have evt : ∀ {σ : L2.St} {G : Hp} {te : TE} {x : Str}, Ev te σ G x → Ev te σ G (Th.s x) := fun h H i Q q => h H i Q q
  have evn : ∀ {σ : L2.St} {G : Hp} {te : TE} {x : Int}, Ev te σ G x → Ev te σ G (Th.n x) := fun h H i Q q => h H i Q q
  have evp : ∀ {σ : L2.St} {G : Hp} {te : TE} {x : Plan}, Ev te σ G x → Ev te σ G (Th.p x) := fun h H i Q q => h H i Q q
  refine sq_ifn (G := G5) (et_test (ev_inT2 (x := w0) (ys := Tup.mk ["fold", "refold"]) (ev_var rfl rfl) (ev_tupn (evs_cons ev_str (evs_cons ev_str evs_nil)) (by show 2 ≤ 100000; decide)))) e4 (fun hb G6 H6 g6 => ?_) (fun hb G6 H6 g6 => ?_)
  · have hw : w0 ∈ (["fold", "refold"] : List Str) := of_decide_eq_true hb
    have hk : kindsOf w0 = some (["name", "plan"] : List Str) := by
      have : ∀ x ∈ (["fold", "refold"] : List Str), kindsOf x = some (["name", "plan"] : List Str) := by decide +kernel
      exact this w0 hw
    have b6 := b5.step0 g6
    have t6 := gtr t5 g6.wk b6
    refine ⟨.ref b, rfl, ?_⟩
    refine rd_menu (ms := [6, 12, 40]) (b := b) (i := 0) (n := 3) (by walk_at "pf_ev") rfl g6.i b6 rfl (by decide) (by decide) (fun z H7 hz g7 b7 => ?_)
    have hz : z = 6 ∨ z = 12 ∨ z = 40 := by simpa using hz
    have t7 := gtr t6 g7 b7
    refine ⟨b, z, G6, rfl, g7.i, b7, by omega, by omega, fun n A pv G8 H8 n3 nm2 hc g8 b8 r8 => ?_⟩
    have hp : isPlanM (planOf n A) = true := drawn_is_plan hc n3 (by omega)
    have hsm := plan_sm hp
    generalize planOf n A = pl at r8 hsm
    refine gn (i := 5) (v := pv) ?_
    have t8 := gtr t7 g8 b8
    have s8 : ∃ (a4' a6' a7' : Option V), True := ⟨none, none, none, trivial⟩
    refine sq_cut (fun σ' H' => ∃ (G' : Hp) (pv : V) (pl : Plan) (a6 : Option V), σ' = [some (.ref b), some (.ref pa), some (.str w0), some (.str nm), a4, some pv, a6, none] ∧ Gr (Mb b) G H G' H' ∧ Bag G' H' b ∧ rep G' pv pl ∧ smP pl) ?_ ?_
    · refine rd_pull (E := E0) (b := b) (many := 4) (i := 0) (tm := tC (.int 4)) rfl g8.i b8 ev_int (by decide) (by decide) (fun r4 H9 q0 q4 g9 b9 => ?_)
      have t9 := gtr t8 g9 b9
      refine ⟨rfl, _, rfl, ?_⟩
      refine ite2 (fun hb => ?_) (fun hb => ?_)
      · refine sq_any ?_
        refine lc_bag (β := Int × Int) (R := fun c => smN c.1 ∧ smN c.2) (b := b) (G := G8) (xs := rng 0 2) (ei_r1 ev_int (by decide)) g9.i b9 (by decide) ?_ (fun ys sv G10 H10 hR hyl g10 b10 r10 => ?_)
        · intro x hx v G11 s11 rx
          refine gb_name ⟨rfl, fun H11 Q' i11 b11 k11 => ?_⟩
          refine rd_pull (E := E0) (b := b) (many := 10000) (i := 0) (tm := tC (.int 10000)) rfl i11 b11 ev_int (by decide) (by decide) (fun x1 H12 x10 x11 g12 b12 => ?_)
          refine rd_pull (E := E0) (b := b) (many := 50) (i := 0) (tm := tC (.int 50)) rfl g12.i b12 ev_int (by decide) (by decide) (fun x2 H13 x20 x21 g13 b13 => ?_)
          refine ⟨by show 2 ≤ sizeLine; decide, fun p np => ?_⟩
          have gn2 := gr_new (o := .tup [.int x1, .int x2]) g13.i np
          have b14 := b13.step0 gn2
          exact k11 (x1, x2) _ _ _ ⟨⟨x10, by omega⟩, ⟨x20, by omega⟩⟩ (gtr (gtr g12 g13 b13) gn2.wk b14) b14 ⟨p, _, _, rfl, upd_same, rfl, rfl⟩
        · have t10 := gtr t9 g10 b10
          refine rd_pull (E := E0) (b := b) (many := 10000) (i := 0) (tm := tC (.int 10000)) rfl g10.i b10 ev_int (by decide) (by decide) (fun x1 H12 x10 x11 g12 b12 => ?_)
          have t12 := gtr t10 g12 b12
          refine (ev_tupleL (K := K) (xs := ys) (ev_var (i := 6) rfl r10)) H12 g12.i _ (fun tv G13 H13 g13 r13 => ?_)
          have b13 := b12.step0 g13
          have t13 := gtr t12 g13.wk b13
          refine ⟨by show 2 ≤ sizeLine; decide, fun p np => ?_⟩
          have gn2 := gr_new (o := .tup [.int x1, tv]) g13.i np
          have b14 := b13.step0 gn2
          exact ⟨_, .ref p, (x1, Tup.mk ys), _, rfl, gtr t13 gn2.wk b14, b14, ⟨p, _, _, rfl, upd_same, rfl, Rep.mono gn2.g r13⟩, ⟨⟨x10, by omega⟩, fun c hc => hR c hc, by show ys.length ≤ 40; rw [hyl]; decide⟩⟩
      · exact ⟨G8, pv, pl, none, rfl, t9, b9, r8, hsm⟩
    rintro σ' H9 ⟨G9, pv, pl, a6, rfl, t9, b9, r9, hsm⟩
    refine st_ret (G := G9) (x := Tup.mk [Th.s w0, Th.s nm, Th.p pl]) (ev_tupn (evs_cons (evt (ev_var rfl rfl)) (evs_cons (evt (ev_var rfl rfl)) (evs_cons (evp (ev_var rfl r9)) evs_nil))) (by show 3 ≤ 100000; decide)) t9.i (fun v G10 H10 g10 r10 => ?_)
    have b10 := b9.step0 g10
    exact fin ⟨w0, _, _, rfl, hk, .cons (.name hname) (.cons (.plan hsm) .nil)⟩ (fun t ht => by
      rcases List.mem_cons.mp ht with rfl | ht
      · exact wsm
      rcases List.mem_cons.mp ht with rfl | ht
      · exact nsm
      rw [List.mem_singleton.mp ht]; exact hsm) (gtr t9 g10.wk b10) b10 r10
  have hw1 : w0 ∉ (["fold", "refold"] : List Str) := of_decide_eq_false hb
  have b6 := b5.step0 g6
  have t6 := gtr t5 g6.wk b6
  refine sq_ifn (G := G6) (et_test (ev_inT2 (x := w0) (ys := Tup.mk ["pinch", "unpinch"]) (ev_var rfl rfl) (ev_tupn (evs_cons ev_str (evs_cons ev_str evs_nil)) (by show 2 ≤ 100000; decide)))) g6.i (fun hb G7 H7 g7 => ?_) (fun hb G7 H7 g7 => ?_)
  · have hw : w0 ∈ (["pinch", "unpinch"] : List Str) := of_decide_eq_true hb
    have hk : kindsOf w0 = some (["name", "way"] : List Str) := by
      have : ∀ x ∈ (["pinch", "unpinch"] : List Str), kindsOf x = some (["name", "way"] : List Str) := by decide +kernel
      exact this w0 hw
    have b7 := b6.step0 g7
    have t7 := gtr t6 g7.wk b7
    refine ⟨.str w0, rfl, .str nm, rfl, ?_⟩
    refine rd_pick (α := Str) (ms := waysL) (b := b) (i := 0) (n := 2) (evs_cons ev_str (evs_cons ev_str evs_nil)) rfl g7.i b7 rfl (by decide) (by decide) (fun z v H8 hz g8 b8 r8 => ?_)
    cases r8
    have t8 := gtr t7 g8 b8
    refine ⟨by show 3 ≤ sizeLine; decide, fun p np => ?_⟩
    have gn2 := gr_new (o := .tup [.str w0, .str nm, .str z]) g8.i np
    have b9 := b8.step0 gn2
    refine fin (d := [Th.s w0, Th.s nm, Th.s z]) ⟨w0, _, _, rfl, hk, .cons (.name hname) (.cons (.way hz) .nil)⟩ (fun t ht => ?_) (gtr t8 gn2.wk b9) b9 ⟨p, _, rfl, upd_same, .cons rfl (.cons rfl (.cons rfl .nil))⟩
    rcases List.mem_cons.mp ht with rfl | ht
    · exact wsm
    rcases List.mem_cons.mp ht with rfl | ht
    · exact nsm
    rw [List.mem_singleton.mp ht]
    have : ∀ x ∈ waysL, x.length ≤ 1000 := by decide +kernel
    exact this z hz
  have hw2 : w0 ∉ (["pinch", "unpinch"] : List Str) := of_decide_eq_false hb
  have b7 := b6.step0 g7
  have t7 := gtr t6 g7.wk b7
  -- the slot
  refine rd_pull (E := E0) (b := b) (many := 6) (i := 0) (tm := tC (.int 6)) rfl g7.i b7 ev_int (by decide) (by decide) (fun x1 H8 x10 x11 g8 b8 => ?_)
  have t8 := gtr t7 g8 b8
  refine rd_pull (E := E0) (b := b) (many := 10000) (i := 0) (tm := tC (.int 10000)) rfl g8.i b8 ev_int (by decide) (by decide) (fun x2 H9 x20 x21 g9 b9 => ?_)
  have t9 := gtr t8 g9 b9
  refine ⟨by show 2 ≤ sizeLine; decide, fun lq nq => ?_⟩
  have gq := gr_new (o := .lst [.int x1, .int x2]) g9.i nq
  have bq := b9.step0 gq
  have tq := gtr t9 gq.wk bq
  refine rd_pull (E := E0) (b := b) (many := 2) (i := 0) (tm := tC (.int 2)) rfl gq.i bq ev_int (by decide) (by decide) (fun x3 H10 x30 x31 g10 b10 => ?_)
  have t10 := gtr tq g10 b10
  obtain ⟨sl, hsl, hsa⟩ : ∃ sl : Int, smN sl ∧ atI [V.int x1, V.int x2] x3 = some (.int sl) := by
    rcases (show x3 = 0 ∨ x3 = 1 by omega) with rfl | rfl
    · exact ⟨x1, ⟨x10, by omega⟩, rfl⟩
    · exact ⟨x2, ⟨x20, by omega⟩, rfl⟩
  refine ⟨lq, _, x3, _, rfl, rfl, .inl (.inl (g10.i _ _ upd_same)), hsa, ?_⟩
  refine gn (i := 7) (v := .int sl) ?_
  generalize upd G7 lq (.lst [.int x1, .int x2]) = GA at t10 b10 g10
  refine sq_ifn (G := GA) (et_test (ev_eqS (i := w0) (ev_var rfl rfl) ev_str)) t10.i (fun hb G11 H11 g11 => ?_) (fun hb G11 H11 g11 => ?_)
  · have hw : w0 = "paint" := of_decide_eq_true hb
    have hk : kindsOf w0 = some (["name", "slot", "colour"] : List Str) := by rw [hw]; decide +kernel
    have b11 := b10.step0 g11
    have t11 := gtr t10 g11.wk b11
    refine ⟨.str w0, rfl, .str nm, rfl, .int sl, rfl, ?_⟩
    refine rd_pick (α := Str) (ms := coloursL) (b := b) (i := 0) (n := 3) (evs_cons ev_str (evs_cons ev_str (evs_cons ev_str evs_nil))) rfl g11.i b11 rfl (by decide) (by decide) (fun z v H12 hz g12 b12 r12 => ?_)
    cases r12
    have t12 := gtr t11 g12 b12
    refine ⟨by show 4 ≤ sizeLine; decide, fun p np => ?_⟩
    have gn2 := gr_new (o := .tup [.str w0, .str nm, .int sl, .str z]) g12.i np
    have b13 := b12.step0 gn2
    refine fin (d := [Th.s w0, Th.s nm, Th.n sl, Th.s z]) ⟨w0, _, _, rfl, hk, .cons (.name hname) (.cons (.slot hsl) (.cons (.colour hz) .nil))⟩ (fun t ht => ?_) (gtr t12 gn2.wk b13) b13 ⟨p, _, rfl, upd_same, .cons rfl (.cons rfl (.cons rfl (.cons rfl .nil)))⟩
    rcases List.mem_cons.mp ht with rfl | ht
    · exact wsm
    rcases List.mem_cons.mp ht with rfl | ht
    · exact nsm
    rcases List.mem_cons.mp ht with rfl | ht
    · exact hsl
    rw [List.mem_singleton.mp ht]
    have : ∀ x ∈ coloursL, x.length ≤ 1000 := by decide +kernel
    exact this z hz
  have hw3 : w0 ≠ "paint" := of_decide_eq_false hb
  have b11 := b10.step0 g11
  have t11 := gtr t10 g11.wk b11
  refine sq_ifn (G := G11) (et_test (ev_eqS (i := w0) (ev_var rfl rfl) ev_str)) g11.i (fun hb G12 H12 g12 => ?_) (fun hb G12 H12 g12 => ?_)
  · have hw : w0 = "mark" := of_decide_eq_true hb
    have hk : kindsOf w0 = some (["name", "slot", "letter"] : List Str) := by rw [hw]; decide +kernel
    have b12 := b11.step0 g12
    have t12 := gtr t11 g12.wk b12
    refine ⟨.str w0, rfl, .str nm, rfl, .int sl, rfl, ?_⟩
    refine rd_pull (E := E0) (b := b) (many := 26) (i := 0) (tm := tC (.int 26)) rfl g12.i b12 ev_int (by decide) (by decide) (fun rc H13 c0 c26 g13 b13 => ?_)
    have t13 := gtr t12 g13 b13
    obtain ⟨c, hc1, hc2⟩ := low_at c0 c26
    refine ⟨_, rc, c, rfl, rfl, by decide +kernel, hc2, by show 4 ≤ sizeLine; decide, fun p np => ?_⟩
    have gn2 := gr_new (o := .tup [.str w0, .str nm, .int sl, .str ⟨#[c]⟩]) g13.i np
    have b14 := b13.step0 gn2
    refine fin (d := [Th.s w0, Th.s nm, Th.n sl, Th.s ⟨#[c]⟩]) ⟨w0, _, _, rfl, hk, .cons (.name hname) (.cons (.slot hsl) (.cons (.letter (let_one hc1)) .nil))⟩ (fun t ht => ?_) (gtr t13 gn2.wk b14) b14 ⟨p, _, rfl, upd_same, .cons rfl (.cons rfl (.cons rfl (.cons rfl .nil)))⟩
    rcases List.mem_cons.mp ht with rfl | ht
    · exact wsm
    rcases List.mem_cons.mp ht with rfl | ht
    · exact nsm
    rcases List.mem_cons.mp ht with rfl | ht
    · exact hsl
    rw [List.mem_singleton.mp ht]
    show (1 : Nat) ≤ 1000
    decide
  have hw4 : w0 ≠ "mark" := of_decide_eq_false hb
  have b12 := b11.step0 g12
  have t12 := gtr t11 g12.wk b12
  have hlast : (w0 = "wash" ∧ kindsOf w0 = some (["name", "slot"] : List Str)) ∨ (w0 ≠ "wash" ∧ kindsOf w0 = some (["name"] : List Str)) := by
    have : ∀ x ∈ wordsL, x ∉ (["fold", "refold"] : List Str) → x ∉ (["pinch", "unpinch"] : List Str) → x ≠ "paint" → x ≠ "mark" → (x = "wash" ∧ kindsOf x = some (["name", "slot"] : List Str)) ∨ (x ≠ "wash" ∧ kindsOf x = some (["name"] : List Str)) := by decide +kernel
    exact this w0 hm hw1 hw2 hw3 hw4
  rcases hlast with ⟨hw, hk⟩ | ⟨hw, hk⟩
  · refine st_ret (G := G12) (x := Tup.mk [Th.s w0, Th.s nm, Th.n sl]) (Ev.cast (ev_if (b := true) (x := Tup.mk [Th.s w0, Th.s nm, Th.n sl]) (y := Tup.mk [Th.s w0, Th.s nm]) (et_test (Ev.cast (ev_eqS (i := w0) (ev_var rfl rfl) ev_str) (decide_eq_true hw))) (fun _ => ev_tupn (evs_cons (evt (ev_var rfl rfl)) (evs_cons (evt (ev_var rfl rfl)) (evs_cons (evn (ev_var rfl rfl)) evs_nil))) (by show 3 ≤ 100000; decide)) (fun h => by cases h)) (if_pos rfl)) g12.i (fun v G13 H13 g13 r13 => ?_)
    have b13 := b12.step0 g13
    refine fin ⟨w0, _, _, rfl, hk, .cons (.name hname) (.cons (.slot hsl) .nil)⟩ (fun t ht => ?_) (gtr t12 g13.wk b13) b13 r13
    rcases List.mem_cons.mp ht with rfl | ht
    · exact wsm
    rcases List.mem_cons.mp ht with rfl | ht
    · exact nsm
    rw [List.mem_singleton.mp ht]; exact hsl
  · refine st_ret (G := G12) (x := Tup.mk [Th.s w0, Th.s nm]) (Ev.cast (ev_if (b := false) (x := Tup.mk [Th.s w0, Th.s nm, Th.n sl]) (y := Tup.mk [Th.s w0, Th.s nm]) (et_test (Ev.cast (ev_eqS (i := w0) (ev_var rfl rfl) ev_str) (decide_eq_false hw))) (fun h => by cases h) (fun _ => ev_tupn (evs_cons (evt (ev_var rfl rfl)) (evs_cons (evt (ev_var rfl rfl)) evs_nil)) (by show 2 ≤ 100000; decide))) (if_neg (by decide))) g12.i (fun v G13 H13 g13 r13 => ?_)
    have b13 := b12.step0 g13
    refine fin ⟨w0, _, _, rfl, hk, .cons (.name hname) .nil⟩ (fun t ht => ?_) (gtr t12 g13.wk b13) b13 r13
    rcases List.mem_cons.mp ht with rfl | ht
    · exact wsm
    rw [List.mem_singleton.mp ht]; exact nsm
end


open TL (tl numL)
abbrev s_law : Stmt := topS 42
abbrev N_law : List Str := ["_law_script", "_law_bag_here", "_law_made", "_law_turn", "_law_deed", "_law_text"]
theorem sc_law : FnScope N_law ["_law_script"] (defScope s_law) := ⟨rfl, rfl, rfl, by decide +kernel, rfl, by decide +kernel, by decide +kernel⟩

section
variable {P : Program} {w : World} {K : Fg} {mg : Str → Option Value} {base : Heap}
theorem q__law_alike (T : Tg K mg) : Df P w K mg base 6 "_law_alike" ["_law_found", "_law_due"] (sp2 (fun (_ d : PyData) => OkN 4 d) (alikeN 4)) := d_alike T._law_alike T._law_whole T.bl 4
theorem q__law_plan_text (T : Tg K mg) : Df P w K mg base 1 "_law_plan_text" ["_law_plan_here"] (sp1 smP planS) := by
  refine T._law_plan_text.ok sc__law_plan_text (fun vs H Q E h => ?_) (fun cdv f A outer s H vs Q E hr h => ?_)
  · obtain ⟨v, x, G, rfl, _⟩ := h
    rfl
  obtain ⟨v, p, G, rfl, i, r1, hp, q⟩ := h
  have hsl := plan_slen hp
  have bl := T.bl
  obtain ⟨h1, h2, h3⟩ := hp
  have n1 := numS_len h1.1 h1.2
  have lsum := lenSum_le (m := 9) (ys := p.2.l.map cutS2) (fun y hy => by
    obtain ⟨c, hc, rfl⟩ := List.mem_map.mp hy
    exact cut2_len (h2 c hc).1 (h2 c hc).2)
  rw [List.length_map] at lsum
  have l1 : (("," : Str)).length = 1 := by decide +kernel
  have l2 : ((":" : Str)).length = 1 := by decide +kernel
  have l3 : (("-" : Str)).length = 1 := by decide +kernel
  have jl := join_len "," (p.2.l.map cutS2)
  rw [List.length_map, l1] at jl
  refine ⟨_, (pss_one (ps_ret (pe_op op_add_str (pe_op op_add_str (pe_callTy call_strT (by rfl) (bl "str" (by decide)) (by decide +kernel) (pa_cons (pe_ix (ix_tupK (K := K) rfl) (pv 0) pe_int (fun _ _ => rfl)) pa_nil)) pe_str) (pe_bm PySem.F.plainAttrs_str PySem.F.slot_str_join PySem.F.type_str_join (mt_joinK (K := K) rfl) pe_str (pa_cons (pe_lc (own := [("_law_low", 1), ("_law_high", 2)]) rfl sc__law_plan_text.nd (pi_tupK (K := K) rfl (pe_ix (ix_tupK (K := K) rfl) (pv 0) pe_int (fun _ _ => rfl))) (blkOk_by (own := [("_law_low", 1), ("_law_high", 2)]) (N := N__law_plan_text) (sc := defScope s__law_plan_text) (by decide +kernel)) (fun _ _ _ _ _ => (pg_tupK (K := K) (n := 2) rfl (pg_tup rfl (pgs_cons (pg_name (i := 1) sc__law_plan_text.nd rfl (by first | exact .inl rfl | exact .inr rfl)) (pgs_cons (pg_name (i := 2) sc__law_plan_text.nd rfl (by first | exact .inl rfl | exact .inr rfl)) pgs_nil))))) (fun _ _ _ _ _ => pts_nil) (fun _ _ _ _ _ => (pe_op op_add_str (pe_op op_add_str (pe_callTy call_strT (by rfl) (bl "str" (by decide)) (by decide +kernel) (pa_cons (pv 1) pa_nil)) pe_str) (pe_callTy call_strT (by rfl) (bl "str" (by decide)) (by decide +kernel) (pa_cons (pv 2) pa_nil))))) pa_nil))))), ?_⟩
  refine st_ret (G := G) (x := planS p) (ev_addS (x := numS p.1 ++ ":") (y := Txt.join "," (p.2.l.map cutS2)) (ev_addS (x := numS p.1) (y := ":") (ev_numS (ev_fst (ev_var rfl r1)) (log_ok h1.1 (by have := h1.2; omega))) ev_str (by rw [l2]; omega)) (ev_joinS (ev_lc (xs := p.2.l) (f := cutS2) (ei_tup (ev_snd (ev_var rfl r1))) (by omega) ?_) (by rw [List.length_map, l1]; omega)) (by rw [app_len, l2]; omega)) i (fun v G' H' g r => q v G' H' g r)
  intro c hc v1 G9 s9 rx
  refine gb_pair' rx fun u1 w1 ru rw' => ⟨rfl, ?_⟩
  have m1 := numS_len (h2 c hc).1.1 (h2 c hc).1.2
  have m2 := numS_len (h2 c hc).2.1 (h2 c hc).2.2
  exact ev_addS (x := numS c.1 ++ "-") (y := numS c.2) (ev_addS (x := numS c.1) (y := "-") (ev_numS (ev_var rfl ru) (log_ok (h2 c hc).1.1 (by have := (h2 c hc).1.2; omega))) ev_str (by rw [l3]; omega)) (ev_numS (ev_var rfl rw') (log_ok (h2 c hc).2.1 (by have := (h2 c hc).2.2; omega))) (by rw [app_len, l3]; omega)
theorem q__law_deed_text (T : Tg K mg) : Df P w K mg base 2 "_law_deed_text" ["_law_deed"] (sp1 (fun (d : Tup Th) => d.l.length ≤ 10 ∧ ∀ t ∈ d.l, smT t ∧ (thS t).length ≤ 1000) (fun d => deedS d.l)) := by
  refine T._law_deed_text.ok sc__law_deed_text (fun vs H Q E h => ?_) (fun cdv f A outer s H vs Q E hr h => ?_)
  · obtain ⟨v, x, G, rfl, _⟩ := h
    rfl
  obtain ⟨v, d, G, rfl, i, r1, ⟨hl, ht⟩, q⟩ := h
  have bl := T.bl
  refine ⟨_, (pss_cons (ps_set (i := 1) sc__law_deed_text.nd rfl (by first | exact .inl rfl | exact .inr rfl) (pe_lst pa_nil))
    (pss_cons (ps_for PassesOwn.never rfl (pi_tupK (K := K) rfl (pv 0)) (pg_name (i := 2) sc__law_deed_text.nd rfl (by first | exact .inl rfl | exact .inr rfl))
      (pss_one (ps_expr (pe_bm PySem.F.plainAttrs_list PySem.F.slot_list_append PySem.F.type_list_append mt_append (pv 1) (pa_cons (pe_ifExp (pt_val (pe_callB (call_isiKK (K := K) rfl) (by rfl) (bl "isinstance" (by decide)) (by decide +kernel) (pa_cons (pv 2) (pa_cons (pe_bltn (v := .ty "tuple") (by rfl) (bl "tuple" (by decide)) boot_tuple rfl) pa_nil)))) (pe_df (q__law_plan_text T) hr (by first | decide | omega) (by rfl) (pa_cons (pv 2) pa_nil)) (pe_callTy call_strT (by rfl) (bl "str" (by decide)) (by decide +kernel) (pa_cons (pv 2) pa_nil))) pa_nil)))))
    (pss_one (ps_ret (pe_bm PySem.F.plainAttrs_str PySem.F.slot_str_join PySem.F.type_str_join (mt_joinK (K := K) rfl) pe_str (pa_cons (pv 1) pa_nil)))))), ?_⟩
  have lsum := lenSum_le (m := 1000) (ys := d.l.map thS) (fun y hy => by
    obtain ⟨c, hc, rfl⟩ := List.mem_map.mp hy
    exact (ht c hc).2)
  rw [List.length_map] at lsum
  refine sq_newlist (α := Str) (G := G) (xs := []) evs_nil i (by show 0 ≤ 100000; decide) (fun p G1 H1 o g1 np ml s1 => ?_)
  have gp1 : Gr M0 G H G1 (upd H1 p o) := g1.mut (.inl (up_none g1.same np)) (up_none g1.i np)
  have npH := up_none g1.same np
  generalize upd H1 p o = HA at ml s1 gp1
  refine sq_for (G := G1) (xs := d.l) (fun k σ G' H' => Gr M0 G H G' H' ∧ Ml G' H' p ((d.l.take k).map thS) ∧ ∃ a2, σ = [some v, some (.ref p), a2]) (ei_tup (ev_var rfl (Rep.mono g1.g r1))) s1 ?_ ?_ ?_
  · intro G3 H3 g3
    exact ⟨gp1.trans g3, ml.step0 g3, none, rfl⟩
  · intro k t tv σ' G3 H3 G4 H4 hk e1 e2 hP g4 r4
    obtain ⟨gr3, ml3, a2, rfl⟩ := hP
    have ml4 := ml3.step0 g4
    have htm := List.mem_of_getElem? hk
    have hkl := (List.getElem?_eq_some_iff.mp hk).1
    refine gn ?_
    refine st_append (G := G4) (i := 1) (p := p) (x := thS t) rfl ml4 ?_ g4.i (by rw [List.length_map, List.length_take]; omega) (fun G5 H5 o5 g5 ml5 s5 => ?_)
    · have isi : EvT (tB (tCB (rIsi K) (tCons (tVar 2) (tCons (tC (.ty "tuple")) tNil)))) [some v, some (V.ref p), some tv] G4 (isTy "tuple" (dat t)) := et_B (ev_isi (K := K) (T := "tuple") (d := dat t) (ev_dat (ev_var (i := 2) (x := t) rfl r4)) (by decide))
      have smt := (ht t htm).1
      cases t with
      | s x => exact Ev.cast (ev_if (b := false) (x := x) (y := x) isi (fun h => by cases h) (fun _ => ev_strS (ev_var rfl r4))) (if_neg (by decide))
      | n x => exact Ev.cast (ev_if (b := false) (x := numS x) (y := numS x) isi (fun h => by cases h) (fun _ => ev_numS (ev_var rfl r4) (log_ok smt.1 (by have := smt.2; omega)))) (if_neg (by decide))
      | p x => exact Ev.cast (ev_if (b := true) (x := planS x) (y := planS x) isi (fun _ => ev_call1 (f := planS) (ev_var rfl r4) smt) (fun h => by cases h)) (if_pos rfl)
    · refine ⟨G5, g4.g.trans g5.g, s5, ((gr3.trans g4).trans g5).mut (.inl npH) ml5.1, ?_, _, rfl⟩
      rw [List.take_add_one, hk, List.map_append]
      exact ml5
  intro σ' G3 H3 e1 e2 hP
  obtain ⟨gr3, ml3, a2, rfl⟩ := hP
  rw [List.take_length] at ml3
  obtain ⟨G4, g4, r4, _⟩ := ml3.frz gr3 npH
  exact st_ret (G := G4) (x := deedS d.l) (ev_joinS (ev_var rfl r4) (by rw [List.length_map, show ((" " : Str)).length = 1 by decide +kernel]; omega)) g4.i (fun v G' H' g r => q v G' H' (g4.trans g) r)
theorem okN_deed {d : List Th} (hl : d.length ≤ 10) (h : ∀ t ∈ d, smT t) : OkN 4 (dat (Tup.mk d)) := okN_tup (by show d.length ≤ 100000; omega) fun t ht => by
  have hs := h t ht
  cases t with
  | s x => exact okN_str 3 x
  | n x => exact okN_int 3 x
  | p x => exact okN_plan (p := x) (by have := hs.2.2; omega)
def GD (d : Tup Th) : Prop := GoodD d.l ∧ ∀ t ∈ d.l, smT t
theorem d_law {fa : Addr} {fd : FuncData} (F : Fun K "law" "law" s_law fa fd) (T : Tg K mg) (R : ReadersW w K mg) (O : ThingsW w K mg) : FnOk P w K mg base CX0 48 fa fd ["_law_script"] (spLaw K) := by
  have bl := T.bl
  have DR := q_read_deed (P := P) (base := base) T R O
  refine F.ok sc_law (fun vs H Q E h => ?_) (fun cdv A outer s H vs Q E hr h => ?_)
  · obtain ⟨a, ns, rfl, _⟩ := h
    rfl
  obtain ⟨a, ns, rfl, hq, hl, q⟩ := h
  refine ⟨_, (pss_cons (ps_set (i := 1) sc_law.nd rfl (by first | exact .inl rfl | exact .inr rfl) (pe_df (q__law_bag T) hr (by first | decide | omega) (by rfl) (pa_cons (pv 0) pa_nil)))
    (pss_cons (ps_setLc (i := 2) (own := [("_law_turn", 3)]) rfl sc_law.nd rfl rfl (sw_true rfl rfl rfl (by decide +kernel)) (pi_range1 (by rfl) (bl "range" (by decide)) (pa_cons pe_int pa_nil)) (blkOk_by (own := [("_law_turn", 3)]) (N := N_law) (sc := defScope s_law) (by decide +kernel)) (fun _ _ _ _ _ => (pg_name (i := 3) sc_law.nd rfl (by first | exact .inl rfl | exact .inr rfl))) (fun _ _ _ _ _ => pts_nil) (fun _ _ _ _ _ => (pe_df (q__law_any_deed T) hr (by first | decide | omega) (by rfl) (pa_cons (pv 1) pa_nil))))
    (pss_cons (ps_for PassesOwn.never rfl (pi_listK (K := K) rfl (pe_op op_cat (pv 2) (pe_slice (sl_listK (K := K) rfl) (pv 2) po_none (po_some pe_int)))) (pg_name (i := 4) sc_law.nd rfl (by first | exact .inl rfl | exact .inr rfl))
      (pss_cons (ps_set (i := 5) sc_law.nd rfl (by first | exact .inl rfl | exact .inr rfl) (pe_df (q__law_deed_text T) hr (by first | decide | omega) (by rfl) (pa_cons (pv 4) pa_nil)))
      (pss_cons (ps_if (PW.pt (pw_or (pt_not (pt_val (pe_df (q__law_alike T) hr (by first | decide | omega) (by rfl) (pa_cons (pe_df (q_deed_text T) hr (by first | decide | omega) (by rfl) (pa_cons (pv 4) pa_nil)) (pa_cons (pv 5) pa_nil))))) (pw_or1 (pt_not (pt_val (pe_df (q__law_alike T) hr (by first | decide | omega) (by rfl) (pa_cons (pe_df DR hr (by first | decide | omega) (by rfl) (pa_cons (pv 5) pa_nil)) (pa_cons (pv 4) pa_nil))))))))
        (pss_one (ps_ret pe_bl))
        pss_nil)
      (pss_one (ps_if (PW.pt (pw_and (pt_cmpR op_in_seq (pe_ix (ix_tupK (K := K) rfl) (pv 4) pe_int (fun _ _ => rfl)) (pe_tup (pa_cons pe_str (pa_cons pe_str pa_nil))) (by rfl)) (pw_and1 (pt_not (pt_val (pe_df (q__law_alike T) hr (by first | decide | omega) (by rfl) (pa_cons (pe_df (q_plan_text T) hr (by first | decide | omega) (by rfl) (pa_cons (pe_ix (ix_tupK (K := K) rfl) (pv 4) pe_int (fun _ _ => rfl)) pa_nil)) (pa_cons (pe_df (q__law_plan_text T) hr (by first | decide | omega) (by rfl) (pa_cons (pe_ix (ix_tupK (K := K) rfl) (pv 4) pe_int (fun _ _ => rfl)) pa_nil)) pa_nil))))))))
        (pss_one (ps_ret pe_bl))
        pss_nil)))))
    (pss_one (ps_ret (pe_cmpR op_eq (pe_df (q_plan_text T) hr (by first | decide | omega) (by rfl) (pa_cons (pe_tup (pa_cons pe_int (pa_cons (pe_tup pa_nil) pa_nil))) pa_nil)) pe_str (nomark _))))))), ?_⟩
  refine ⟨.ref a, rfl, a, ns, H, rfl, Same.refl H, hq, hl, fun b G1 H1 g1 nb bg1 => ?_⟩
  refine gn (i := 1) (v := .ref b) ?_
  dsimp only
  refine sq_any ?_
  refine lc_bag (β := Tup Th) (R := GD) (b := b) (G := G1) (xs := rng 0 10) (ei_r1 ev_int (by decide)) g1.i bg1 (by decide) ?_ (fun ds dv G2 H2 hR hdl g2 bg2 r2 => ?_)
  · intro x hx v G10 s10 rx
    refine gb_name ⟨rfl, fun H10 Q' i10 bg10 k10 => ?_⟩
    exact ⟨.ref b, rfl, b, G10, rfl, i10, bg10, fun d v G' H' hd hs g' b' r' => k10 (Tup.mk d) v G' H' ⟨hd, hs⟩ g' b' r'⟩
  have hdl : ds.length = 10 := hdl
  refine sq_for (G := G2) (xs := ds ++ cutI ds none (some 3)) (fun k σ G' H' => ∃ a3 a4 a5, σ = [some (.ref a), some (.ref b), some dv, a3, a4, a5]) (ei_list (ev_catL (ev_var rfl r2) (ev_slL (K := K) (xs := ds) (lo := none) (hi := some 3) (ev_var rfl r2) eo_none (eo_some ev_int)) (by unfold cutI; rw [List.length_take, List.length_drop]; omega))) g2.i ?_ ?_ ?_
  · intro G3 H3 g3
    exact ⟨_, _, _, rfl⟩
  · intro k d tv σ' G3 H3 G4 H4 hk e1 e2 hP g4 r4
    obtain ⟨a3, a4, a5, rfl⟩ := hP
    have hd : GD d := by
      rcases List.mem_append.mp (List.mem_of_getElem? hk) with z | z
      · exact hR d z
      · unfold cutI at z
        exact hR d (List.mem_of_mem_drop (List.mem_of_mem_take z))
    obtain ⟨d⟩ := d
    obtain ⟨hg, hs⟩ := hd
    have hg : GoodD d := hg
    have hs : ∀ t ∈ d, smT t := hs
    obtain ⟨hsp, hdlen, hd4, hth⟩ := good_split hg
    have hback := deed_back hg
    have pre : (Tup.mk d).l.length ≤ 10 ∧ ∀ t ∈ (Tup.mk d).l, smT t ∧ (thS t).length ≤ 1000 := ⟨by show d.length ≤ 10; omega, fun t ht => ⟨hs t ht, by have := hth t ht; omega⟩⟩
    have hok : OkN 4 (dat (Tup.mk d)) := okN_deed (by omega) hs
    refine gn ?_
    refine sq_set (G := G4) (x := deedS d) (ev_call1 (f := fun d : Tup Th => deedS d.l) (x := Tup.mk d) (ev_var rfl r4) pre) g4.i (fun sv G5 H5 g5 r5 => ?_)
    have r45 := Rep.mono g5.g r4
    refine sq_ifn (G := G5) (b := false) (et_or (a := false) (b := false) (et_not (b := true) (et_B (Ev.cast (ev_call2 (f := alikeN 4) (ev_dat (x := deedS d) (ev_call1 (f := fun d : Tup Th => deedS d.l) (x := Tup.mk d) (ev_var rfl r45) pre)) (ev_dat (x := deedS d) (ev_var rfl r5)) (okN_str 4 _)) ((alikeN_iff 4 _ _ (okN_str 4 _)).mpr rfl)))) (fun _ => et_not (b := true) (et_B (Ev.cast (ev_call2 (f := alikeN 4) (ev_dat (x := Tup.mk d) (Ev.cast (ev_call1 (f := fun z => Tup.mk ((deedM z).getD [])) (x := deedS d) (ev_var rfl r5) ⟨by omega, by rw [hback]; rfl⟩) (by rw [hback]; rfl))) (ev_dat (x := Tup.mk d) (ev_var rfl r45)) hok) ((alikeN_iff 4 _ _ hok).mpr rfl))))) g5.i (fun hb _ _ _ => by cases hb) (fun _ G6 H6 g6 => ?_)
    have r46 := Rep.mono g6.g r45
    obtain ⟨w0, ks, ts, ed, hkd, hf⟩ := hg
    subst ed
    have ix0 : Ev (tOp (rIxT K) (tVar 4) (tC (.int 0))) [some (.ref a), some (.ref b), some dv, a3, some tv, some sv] G6 (Th.s w0) := Ev.cast (ev_ixT (xs := Tup.mk (Th.s w0 :: ts)) (ev_var rfl r46) ev_int ⟨by decide, by show (0 : Int) < ((ts.length + 1 : Nat) : Int); omega⟩) rfl
    have ix0s : Ev (tOp (rIxT K) (tVar 4) (tC (.int 0))) [some (.ref a), some (.ref b), some dv, a3, some tv, some sv] G6 w0 := fun H i Q q => ix0 H i Q q
    by_cases hw : w0 ∈ (["fold", "refold"] : List Str)
    · have hk2 : kindsOf w0 = some (["name", "plan"] : List Str) := by
        have : ∀ x ∈ (["fold", "refold"] : List Str), kindsOf x = some (["name", "plan"] : List Str) := by decide +kernel
        exact this w0 hw
      rw [hk2] at hkd
      cases hkd
      cases hf with
      | @cons _ t1 _ _ f1 fr =>
        cases fr with
        | @cons _ t2 _ _ f2 fr2 =>
          cases fr2
          obtain ⟨pq, rfl, hpq⟩ : ∃ pq, t2 = Th.p pq ∧ smP pq := by
            cases t2 with
            | s x => generalize e : (("plan" : Str)) = kk at f2; cases f2 <;> exact absurd e (by decide +kernel)
            | n x => generalize e : (("plan" : Str)) = kk at f2; cases f2; exact absurd e (by decide +kernel)
            | p x => generalize e : (("plan" : Str)) = kk at f2; cases f2 with | plan h => exact ⟨x, rfl, h⟩
          have ix2 : Ev (tOp (rIxT K) (tVar 4) (tC (.int 2))) [some (.ref a), some (.ref b), some dv, a3, some tv, some sv] G6 (Th.p pq) := Ev.cast (ev_ixT (xs := Tup.mk [Th.s w0, t1, Th.p pq]) (ev_var rfl r46) ev_int ⟨by decide, by show (2 : Int) < 3; decide⟩) rfl
          have ix2p : Ev (tOp (rIxT K) (tVar 4) (tC (.int 2))) [some (.ref a), some (.ref b), some dv, a3, some tv, some sv] G6 pq := fun H i Q q => ix2 H i Q q
          refine st_if (G := G6) (b := false) (EvT.cast (et_and (et_test (ev_inT2 (x := w0) (ys := Tup.mk ["fold", "refold"]) ix0s (ev_tupn (evs_cons ev_str (evs_cons ev_str evs_nil)) (by show 2 ≤ 100000; decide)))) (fun _ => et_not (b := true) (et_B (Ev.cast (ev_call2 (f := alikeN 4) (ev_dat (x := planS pq) (ev_call1 (f := planS) ix2p hpq)) (ev_dat (x := planS pq) (ev_call1 (f := planS) ix2p hpq)) (okN_str 4 _)) ((alikeN_iff 4 _ _ (okN_str 4 _)).mpr rfl))))) (by simp)) g6.i (fun hb _ _ _ => by cases hb) (fun _ G7 H7 g7 => ?_)
          exact ⟨G7, (g4.g.trans g5.g).trans (g6.g.trans g7.g), g7.i, _, _, _, rfl⟩
    · refine st_if (G := G6) (b := false) (EvT.cast (et_and (b := false) (et_test (ev_inT2 (x := w0) (ys := Tup.mk ["fold", "refold"]) ix0s (ev_tupn (evs_cons ev_str (evs_cons ev_str evs_nil)) (by show 2 ≤ 100000; decide)))) (fun hb => absurd (of_decide_eq_true hb) hw)) (by simp)) g6.i (fun hb _ _ _ => by cases hb) (fun _ G7 H7 g7 => ?_)
      exact ⟨G7, (g4.g.trans g5.g).trans (g6.g.trans g7.g), g7.i, _, _, _, rfl⟩
  · intro σ' G3 H3 e1 e2 hP
    obtain ⟨a3, a4, a5, rfl⟩ := hP
    have hs3 : smP ((3, Tup.mk []) : Plan) := ⟨⟨by decide, by decide⟩, (fun c hc => by cases hc), by decide⟩
    have e3 : planS ((3, Tup.mk []) : Plan) = "3:" := by decide +kernel
    refine st_ret (G := G3) (x := true) (Ev.cast (ev_eqS (ev_call1 (f := planS) (x := ((3, Tup.mk []) : Plan)) (ev_tup2 ev_int (ev_tupn evs_nil (by show 0 ≤ 100000; decide))) hs3) ev_str) (decide_eq_true e3)) e2 (fun v G5 H5 g5 r5 => ?_)
    cases r5
    exact q H5
end


open TL (tl numL)
theorem all_mk {l : PySem.W.OpenLaw} {w : World} {K : PySem.W.Frag} {h : Heap} {mg : Str → Option Value} {fa f0 f1 f2 f3 f4 f5 f6 f7 f8 f9 f10 f11 f12 f13 f14 f15 f16 f17 f18 f19 f20 f21 f22 f23 f24 f25 f26 f27 : Addr} (X : K.In h) (G : h.Ns mainGlobals mg) (hfa : mg "law" = some (.ref fa))
    {od0 an0 od1 an1 od2 an2 od3 an3 od4 an4 od5 an5 od6 an6 od7 an7 od8 an8 od9 an9 od10 an10 od11 an11 od12 an12 od13 an13 od14 an14 od15 an15 od16 an16 od17 an17 od18 an18 od19 an19 od20 an20 od21 an21 od22 an22 od23 an23 od24 an24 od25 an25 od26 an26 od27 an27 : Option Addr} {sl0 sl1 sl2 sl3 sl4 sl5 sl6 sl7 sl8 sl9 sl10 sl11 sl12 sl13 sl14 sl15 sl16 sl17 sl18 sl19 sl20 sl21 sl22 sl23 sl24 sl25 sl26 sl27 : Array (Option Value)} {oc0 kV0 dc0 pm0 cd0 ct0 oc1 kV1 dc1 pm1 cd1 ct1 oc2 kV2 dc2 pm2 cd2 ct2 oc3 kV3 dc3 pm3 cd3 ct3 oc4 kV4 dc4 pm4 cd4 ct4 oc5 kV5 dc5 pm5 cd5 ct5 oc6 kV6 dc6 pm6 cd6 ct6 oc7 kV7 dc7 pm7 cd7 ct7 oc8 kV8 dc8 pm8 cd8 ct8 oc9 kV9 dc9 pm9 cd9 ct9 oc10 kV10 dc10 pm10 cd10 ct10 oc11 kV11 dc11 pm11 cd11 ct11 oc12 kV12 dc12 pm12 cd12 ct12 oc13 kV13 dc13 pm13 cd13 ct13 oc14 kV14 dc14 pm14 cd14 ct14 oc15 kV15 dc15 pm15 cd15 ct15 oc16 kV16 dc16 pm16 cd16 ct16 oc17 kV17 dc17 pm17 cd17 ct17 oc18 kV18 dc18 pm18 cd18 ct18 oc19 kV19 dc19 pm19 cd19 ct19 oc20 kV20 dc20 pm20 cd20 ct20 oc21 kV21 dc21 pm21 cd21 ct21 oc22 kV22 dc22 pm22 cd22 ct22 oc23 kV23 dc23 pm23 cd23 ct23 oc24 kV24 dc24 pm24 cd24 ct24 oc25 kV25 dc25 pm25 cd25 ct25 oc26 kV26 dc26 pm26 cd26 ct26 oc27 kV27 dc27 pm27 cd27 ct27 : Value}
    {tk0 tk1 : Tok}
    (a0 : PySem.W.nsIn K mainGlobals "_law_bag" = some (some (.ref f0))) (l0 : K.lookup f0 = some ⟨oc0, od0, .func (PySem.W.fnOf "_law_bag" "_law_bag" (defArgs s__law_bag) (defBody s__law_bag) (defScope s__law_bag) .none kV0 dc0 pm0 an0 cd0 ct0), sl0⟩) (c0 : PySem.W.codeIn K cd0 "_law_bag" = true) (k0 : PySem.W.keepIn K (.ref f0) = true)
    (a1 : PySem.W.nsIn K mainGlobals "_law_pull" = some (some (.ref f1))) (l1 : K.lookup f1 = some ⟨oc1, od1, .func (PySem.W.fnOf "_law_pull" "_law_pull" (defArgs s__law_pull) (defBody s__law_pull) (defScope s__law_pull) .none kV1 dc1 pm1 an1 cd1 ct1), sl1⟩) (c1 : PySem.W.codeIn K cd1 "_law_pull" = true) (k1 : PySem.W.keepIn K (.ref f1) = true)
    (a2 : PySem.W.nsIn K mainGlobals "_law_alike" = some (some (.ref f2))) (l2 : K.lookup f2 = some ⟨oc2, od2, .func (PySem.W.fnOf "_law_alike" "_law_alike" (defArgs s__law_alike) (defBody s__law_alike) (defScope s__law_alike) .none kV2 dc2 pm2 an2 cd2 ct2), sl2⟩) (c2 : PySem.W.codeIn K cd2 "_law_alike" = true) (k2 : PySem.W.keepIn K (.ref f2) = true)
    (a3 : PySem.W.nsIn K mainGlobals "_law_whole" = some (some (.ref f3))) (l3 : K.lookup f3 = some ⟨oc3, od3, .func (PySem.W.fnOf "_law_whole" "_law_whole" (defArgs s__law_whole) (defBody s__law_whole) (defScope s__law_whole) .none kV3 dc3 pm3 an3 cd3 ct3), sl3⟩) (c3 : PySem.W.codeIn K cd3 "_law_whole" = true) (k3 : PySem.W.keepIn K (.ref f3) = true)
    (a4 : PySem.W.nsIn K mainGlobals "_law_pair" = some (some (.ref f4))) (l4 : K.lookup f4 = some ⟨oc4, od4, .func (PySem.W.fnOf "_law_pair" "_law_pair" (defArgs s__law_pair) (defBody s__law_pair) (defScope s__law_pair) .none kV4 dc4 pm4 an4 cd4 ct4), sl4⟩) (c4 : PySem.W.codeIn K cd4 "_law_pair" = true) (k4 : PySem.W.keepIn K (.ref f4) = true)
    (a5 : PySem.W.nsIn K mainGlobals "_law_plan" = some (some (.ref f5))) (l5 : K.lookup f5 = some ⟨oc5, od5, .func (PySem.W.fnOf "_law_plan" "_law_plan" (defArgs s__law_plan) (defBody s__law_plan) (defScope s__law_plan) .none kV5 dc5 pm5 an5 cd5 ct5), sl5⟩) (c5 : PySem.W.codeIn K cd5 "_law_plan" = true) (k5 : PySem.W.keepIn K (.ref f5) = true)
    (a6 : PySem.W.nsIn K mainGlobals "_law_drawn_plan" = some (some (.ref f6))) (l6 : K.lookup f6 = some ⟨oc6, od6, .func (PySem.W.fnOf "_law_drawn_plan" "_law_drawn_plan" (defArgs s__law_drawn_plan) (defBody s__law_drawn_plan) (defScope s__law_drawn_plan) .none kV6 dc6 pm6 an6 cd6 ct6), sl6⟩) (c6 : PySem.W.codeIn K cd6 "_law_drawn_plan" = true) (k6 : PySem.W.keepIn K (.ref f6) = true)
    (a7 : PySem.W.nsIn K mainGlobals "_law_cut_arc" = some (some (.ref f7))) (l7 : K.lookup f7 = some ⟨oc7, od7, .func (PySem.W.fnOf "_law_cut_arc" "_law_cut_arc" (defArgs s__law_cut_arc) (defBody s__law_cut_arc) (defScope s__law_cut_arc) .none kV7 dc7 pm7 an7 cd7 ct7), sl7⟩) (c7 : PySem.W.codeIn K cd7 "_law_cut_arc" = true) (k7 : PySem.W.keepIn K (.ref f7) = true)
    (a8 : PySem.W.nsIn K mainGlobals "_law_any_deed" = some (some (.ref f8))) (l8 : K.lookup f8 = some ⟨oc8, od8, .func (PySem.W.fnOf "_law_any_deed" "_law_any_deed" (defArgs s__law_any_deed) (defBody s__law_any_deed) (defScope s__law_any_deed) .none kV8 dc8 pm8 an8 cd8 ct8), sl8⟩) (c8 : PySem.W.codeIn K cd8 "_law_any_deed" = true) (k8 : PySem.W.keepIn K (.ref f8) = true)
    (a9 : PySem.W.nsIn K mainGlobals "_law_deed_text" = some (some (.ref f9))) (l9 : K.lookup f9 = some ⟨oc9, od9, .func (PySem.W.fnOf "_law_deed_text" "_law_deed_text" (defArgs s__law_deed_text) (defBody s__law_deed_text) (defScope s__law_deed_text) .none kV9 dc9 pm9 an9 cd9 ct9), sl9⟩) (c9 : PySem.W.codeIn K cd9 "_law_deed_text" = true) (k9 : PySem.W.keepIn K (.ref f9) = true)
    (a10 : PySem.W.nsIn K mainGlobals "_law_plan_text" = some (some (.ref f10))) (l10 : K.lookup f10 = some ⟨oc10, od10, .func (PySem.W.fnOf "_law_plan_text" "_law_plan_text" (defArgs s__law_plan_text) (defBody s__law_plan_text) (defScope s__law_plan_text) .none kV10 dc10 pm10 an10 cd10 ct10), sl10⟩) (c10 : PySem.W.codeIn K cd10 "_law_plan_text" = true) (k10 : PySem.W.keepIn K (.ref f10) = true)
    (a11 : PySem.W.nsIn K mainGlobals "is_letter" = some (some (.ref f11))) (l11 : K.lookup f11 = some ⟨oc11, od11, .func (PySem.W.fnOf "is_letter" "is_letter" (defArgs s_is_letter) (defBody s_is_letter) (defScope s_is_letter) .none kV11 dc11 pm11 an11 cd11 ct11), sl11⟩) (c11 : PySem.W.codeIn K cd11 "is_letter" = true) (k11 : PySem.W.keepIn K (.ref f11) = true)
    (a12 : PySem.W.nsIn K mainGlobals "is_name" = some (some (.ref f12))) (l12 : K.lookup f12 = some ⟨oc12, od12, .func (PySem.W.fnOf "is_name" "is_name" (defArgs s_is_name) (defBody s_is_name) (defScope s_is_name) .none kV12 dc12 pm12 an12 cd12 ct12), sl12⟩) (c12 : PySem.W.codeIn K cd12 "is_name" = true) (k12 : PySem.W.keepIn K (.ref f12) = true)
    (a13 : PySem.W.nsIn K mainGlobals "plan_text" = some (some (.ref f13))) (l13 : K.lookup f13 = some ⟨oc13, od13, .func (PySem.W.fnOf "plan_text" "plan_text" (defArgs s_plan_text) (defBody s_plan_text) (defScope s_plan_text) .none kV13 dc13 pm13 an13 cd13 ct13), sl13⟩) (c13 : PySem.W.codeIn K cd13 "plan_text" = true) (k13 : PySem.W.keepIn K (.ref f13) = true)
    (a14 : PySem.W.nsIn K mainGlobals "deed_text" = some (some (.ref f14))) (l14 : K.lookup f14 = some ⟨oc14, od14, .func (PySem.W.fnOf "deed_text" "deed_text" (defArgs s_deed_text) (defBody s_deed_text) (defScope s_deed_text) .none kV14 dc14 pm14 an14 cd14 ct14), sl14⟩) (c14 : PySem.W.codeIn K cd14 "deed_text" = true) (k14 : PySem.W.keepIn K (.ref f14) = true)
    (a15 : PySem.W.nsIn K mainGlobals "thing_text" = some (some (.ref f15))) (l15 : K.lookup f15 = some ⟨oc15, od15, .func (PySem.W.fnOf "thing_text" "thing_text" (defArgs s_thing_text) (defBody s_thing_text) (defScope s_thing_text) .none kV15 dc15 pm15 an15 cd15 ct15), sl15⟩) (c15 : PySem.W.codeIn K cd15 "thing_text" = true) (k15 : PySem.W.keepIn K (.ref f15) = true)
    (a16 : PySem.W.nsIn K mainGlobals "read_name" = some (some (.ref f16))) (l16 : K.lookup f16 = some ⟨oc16, od16, .func (PySem.W.fnOf "read_name" "read_name" (defArgs s_read_name) (defBody s_read_name) (defScope s_read_name) .none kV16 dc16 pm16 an16 cd16 ct16), sl16⟩) (c16 : PySem.W.codeIn K cd16 "read_name" = true) (k16 : PySem.W.keepIn K (.ref f16) = true)
    (a17 : PySem.W.nsIn K mainGlobals "read_way" = some (some (.ref f17))) (l17 : K.lookup f17 = some ⟨oc17, od17, .func (PySem.W.fnOf "read_way" "read_way" (defArgs s_read_way) (defBody s_read_way) (defScope s_read_way) .none kV17 dc17 pm17 an17 cd17 ct17), sl17⟩) (c17 : PySem.W.codeIn K cd17 "read_way" = true) (k17 : PySem.W.keepIn K (.ref f17) = true)
    (a18 : PySem.W.nsIn K mainGlobals "read_colour" = some (some (.ref f18))) (l18 : K.lookup f18 = some ⟨oc18, od18, .func (PySem.W.fnOf "read_colour" "read_colour" (defArgs s_read_colour) (defBody s_read_colour) (defScope s_read_colour) .none kV18 dc18 pm18 an18 cd18 ct18), sl18⟩) (c18 : PySem.W.codeIn K cd18 "read_colour" = true) (k18 : PySem.W.keepIn K (.ref f18) = true)
    (a19 : PySem.W.nsIn K mainGlobals "read_letter" = some (some (.ref f19))) (l19 : K.lookup f19 = some ⟨oc19, od19, .func (PySem.W.fnOf "read_letter" "read_letter" (defArgs s_read_letter) (defBody s_read_letter) (defScope s_read_letter) .none kV19 dc19 pm19 an19 cd19 ct19), sl19⟩) (c19 : PySem.W.codeIn K cd19 "read_letter" = true) (k19 : PySem.W.keepIn K (.ref f19) = true)
    (a20 : PySem.W.nsIn K mainGlobals "read_number" = some (some (.ref f20))) (l20 : K.lookup f20 = some ⟨oc20, od20, .func (PySem.W.fnOf "read_number" "read_number" (defArgs s_read_number) (defBody s_read_number) (defScope s_read_number) .none kV20 dc20 pm20 an20 cd20 ct20), sl20⟩) (c20 : PySem.W.codeIn K cd20 "read_number" = true) (k20 : PySem.W.keepIn K (.ref f20) = true)
    (a21 : PySem.W.nsIn K mainGlobals "is_number" = some (some (.ref f21))) (l21 : K.lookup f21 = some ⟨oc21, od21, .func (PySem.W.fnOf "is_number" "is_number" (defArgs s_is_number) (defBody s_is_number) (defScope s_is_number) .none kV21 dc21 pm21 an21 cd21 ct21), sl21⟩) (c21 : PySem.W.codeIn K cd21 "is_number" = true) (k21 : PySem.W.keepIn K (.ref f21) = true)
    (a22 : PySem.W.nsIn K mainGlobals "read_plan" = some (some (.ref f22))) (l22 : K.lookup f22 = some ⟨oc22, od22, .func (PySem.W.fnOf "read_plan" "read_plan" (defArgs s_read_plan) (defBody s_read_plan) (defScope s_read_plan) .none kV22 dc22 pm22 an22 cd22 ct22), sl22⟩) (c22 : PySem.W.codeIn K cd22 "read_plan" = true) (k22 : PySem.W.keepIn K (.ref f22) = true)
    (a23 : PySem.W.nsIn K mainGlobals "read_cut" = some (some (.ref f23))) (l23 : K.lookup f23 = some ⟨oc23, od23, .func (PySem.W.fnOf "read_cut" "read_cut" (defArgs s_read_cut) (defBody s_read_cut) (defScope s_read_cut) .none kV23 dc23 pm23 an23 cd23 ct23), sl23⟩) (c23 : PySem.W.codeIn K cd23 "read_cut" = true) (k23 : PySem.W.keepIn K (.ref f23) = true)
    (a24 : PySem.W.nsIn K mainGlobals "read_things" = some (some (.ref f24))) (l24 : K.lookup f24 = some ⟨oc24, od24, .func (PySem.W.fnOf "read_things" "read_things" (defArgs s_read_things) (defBody s_read_things) (defScope s_read_things) .none kV24 dc24 pm24 an24 cd24 ct24), sl24⟩) (c24 : PySem.W.codeIn K cd24 "read_things" = true) (k24 : PySem.W.keepIn K (.ref f24) = true)
    (a25 : PySem.W.nsIn K mainGlobals "read_thing" = some (some (.ref f25))) (l25 : K.lookup f25 = some ⟨oc25, od25, .func (PySem.W.fnOf "read_thing" "read_thing" (defArgs s_read_thing) (defBody s_read_thing) (defScope s_read_thing) .none kV25 dc25 pm25 an25 cd25 ct25), sl25⟩) (c25 : PySem.W.codeIn K cd25 "read_thing" = true) (k25 : PySem.W.keepIn K (.ref f25) = true)
    (a26 : PySem.W.nsIn K mainGlobals "read_deed" = some (some (.ref f26))) (l26 : K.lookup f26 = some ⟨oc26, od26, .func (PySem.W.fnOf "read_deed" "read_deed" (defArgs s_read_deed) (defBody s_read_deed) (defScope s_read_deed) .none kV26 dc26 pm26 an26 cd26 ct26), sl26⟩) (c26 : PySem.W.codeIn K cd26 "read_deed" = true) (k26 : PySem.W.keepIn K (.ref f26) = true)
    (a27 : PySem.W.nsIn K mainGlobals "law" = some (some (.ref f27))) (l27 : K.lookup f27 = some ⟨oc27, od27, .func (PySem.W.fnOf "law" "law" (defArgs s_law) (defBody s_law) (defScope s_law) .none kV27 dc27 pm27 an27 cd27 ct27), sl27⟩) (c27 : PySem.W.codeIn K cd27 "law" = true) (k27 : PySem.W.keepIn K (.ref f27) = true)
    (m0 : PySem.W.nsIn K mainGlobals "LONGEST_NAME" = some (some (.int 8 tk0)))
    (m1 : PySem.W.nsIn K mainGlobals "MOST_FIGURES" = some (some (.int 4 tk1)))
    {cA0 : Addr} {cO0 : Obj} {cN0 : Nat} {cT0_0 cT0_1 : Tok}
    (cm0 : PySem.W.nsIn K mainGlobals "WAYS" = some (some (.ref cA0))) (cl0 : K.lookup cA0 = some cO0) (cc0 : cO0.cls = .type "tuple") (cd0 : cO0.data = .seq #[.str "even" cT0_0, .str "odd" cT0_1] cN0)
    {cA1 : Addr} {cO1 : Obj} {cN1 : Nat} {cT1_0 cT1_1 cT1_2 : Tok}
    (cm1 : PySem.W.nsIn K mainGlobals "COLOURS" = some (some (.ref cA1))) (cl1 : K.lookup cA1 = some cO1) (cc1 : cO1.cls = .type "tuple") (cd1 : cO1.data = .seq #[.str "red" cT1_0, .str "blue" cT1_1, .str "gold" cT1_2] cN1)
    {tx0 : Tok} (ms0 : PySem.W.nsIn K mainGlobals "LETTERS" = some (some (.str "abcdefghijklmnopqrstuvwxyz" tx0)))
    {tx1 : Tok} (ms1 : PySem.W.nsIn K mainGlobals "FIGURES" = some (some (.str "0123456789" tx1)))
    {eA0 : Addr} {eE0 : Array DictEntry} {eN0 : Nat} {eT0_0 : Addr} {eO0_0 : Obj} {eM0_0 : Nat} {eK0_0_0 eK0_0_1 : Tok} {eT0_1 : Addr} {eO0_1 : Obj} {eM0_1 : Nat} {eK0_1_0 : Tok} {eT0_2 : Addr} {eO0_2 : Obj} {eM0_2 : Nat} {eK0_2_0 eK0_2_1 : Tok} {eT0_3 : Addr} {eO0_3 : Obj} {eM0_3 : Nat} {eK0_3_0 eK0_3_1 : Tok} {eT0_4 : Addr} {eO0_4 : Obj} {eM0_4 : Nat} {eK0_4_0 : Tok} {eT0_5 : Addr} {eO0_5 : Obj} {eM0_5 : Nat} {eK0_5_0 : Tok} {eT0_6 : Addr} {eO0_6 : Obj} {eM0_6 : Nat} {eK0_6_0 eK0_6_1 eK0_6_2 : Tok} {eT0_7 : Addr} {eO0_7 : Obj} {eM0_7 : Nat} {eK0_7_0 eK0_7_1 eK0_7_2 : Tok} {eT0_8 : Addr} {eO0_8 : Obj} {eM0_8 : Nat} {eK0_8_0 eK0_8_1 : Tok} {eT0_9 : Addr} {eO0_9 : Obj} {eM0_9 : Nat} {eK0_9_0 : Tok} {eT0_10 : Addr} {eO0_10 : Obj} {eM0_10 : Nat} {eK0_10_0 eK0_10_1 : Tok}
    (em0 : PySem.W.nsIn K mainGlobals "THINGS" = some (some (.ref eA0))) (eq0 : (eA0 == sysModules) = false) (el0 : K.lookup eA0 = some ⟨.type "dict", none, .dict eE0 eN0, #[]⟩) (ef0 : PySem.W.KeysLit w.params eE0.toList)
    (ev0_0 : PySem.W.nsIn K eA0 "fold" = some (some (.ref eT0_0))) (ew0_0 : K.lookup eT0_0 = some eO0_0) (ey0_0 : eO0_0.cls = .type "tuple") (ez0_0 : eO0_0.data = .seq #[.str "name" eK0_0_0, .str "plan" eK0_0_1] eM0_0)
    (ev0_1 : PySem.W.nsIn K eA0 "drop" = some (some (.ref eT0_1))) (ew0_1 : K.lookup eT0_1 = some eO0_1) (ey0_1 : eO0_1.cls = .type "tuple") (ez0_1 : eO0_1.data = .seq #[.str "name" eK0_1_0] eM0_1)
    (ev0_2 : PySem.W.nsIn K eA0 "pinch" = some (some (.ref eT0_2))) (ew0_2 : K.lookup eT0_2 = some eO0_2) (ey0_2 : eO0_2.cls = .type "tuple") (ez0_2 : eO0_2.data = .seq #[.str "name" eK0_2_0, .str "way" eK0_2_1] eM0_2)
    (ev0_3 : PySem.W.nsIn K eA0 "unpinch" = some (some (.ref eT0_3))) (ew0_3 : K.lookup eT0_3 = some eO0_3) (ey0_3 : eO0_3.cls = .type "tuple") (ez0_3 : eO0_3.data = .seq #[.str "name" eK0_3_0, .str "way" eK0_3_1] eM0_3)
    (ev0_4 : PySem.W.nsIn K eA0 "over" = some (some (.ref eT0_4))) (ew0_4 : K.lookup eT0_4 = some eO0_4) (ey0_4 : eO0_4.cls = .type "tuple") (ez0_4 : eO0_4.data = .seq #[.str "name" eK0_4_0] eM0_4)
    (ev0_5 : PySem.W.nsIn K eA0 "about" = some (some (.ref eT0_5))) (ew0_5 : K.lookup eT0_5 = some eO0_5) (ey0_5 : eO0_5.cls = .type "tuple") (ez0_5 : eO0_5.data = .seq #[.str "name" eK0_5_0] eM0_5)
    (ev0_6 : PySem.W.nsIn K eA0 "paint" = some (some (.ref eT0_6))) (ew0_6 : K.lookup eT0_6 = some eO0_6) (ey0_6 : eO0_6.cls = .type "tuple") (ez0_6 : eO0_6.data = .seq #[.str "name" eK0_6_0, .str "slot" eK0_6_1, .str "colour" eK0_6_2] eM0_6)
    (ev0_7 : PySem.W.nsIn K eA0 "mark" = some (some (.ref eT0_7))) (ew0_7 : K.lookup eT0_7 = some eO0_7) (ey0_7 : eO0_7.cls = .type "tuple") (ez0_7 : eO0_7.data = .seq #[.str "name" eK0_7_0, .str "slot" eK0_7_1, .str "letter" eK0_7_2] eM0_7)
    (ev0_8 : PySem.W.nsIn K eA0 "wash" = some (some (.ref eT0_8))) (ew0_8 : K.lookup eT0_8 = some eO0_8) (ey0_8 : eO0_8.cls = .type "tuple") (ez0_8 : eO0_8.data = .seq #[.str "name" eK0_8_0, .str "slot" eK0_8_1] eM0_8)
    (ev0_9 : PySem.W.nsIn K eA0 "unfold" = some (some (.ref eT0_9))) (ew0_9 : K.lookup eT0_9 = some eO0_9) (ey0_9 : eO0_9.cls = .type "tuple") (ez0_9 : eO0_9.data = .seq #[.str "name" eK0_9_0] eM0_9)
    (ev0_10 : PySem.W.nsIn K eA0 "refold" = some (some (.ref eT0_10))) (ew0_10 : K.lookup eT0_10 = some eO0_10) (ey0_10 : eO0_10.cls = .type "tuple") (ez0_10 : eO0_10.data = .seq #[.str "name" eK0_10_0, .str "plan" eK0_10_1] eM0_10)
    {gA0 : Addr} {gE0 : Array DictEntry} {gN0 : Nat} (gm0 : PySem.W.nsIn K mainGlobals "READERS" = some (some (.ref gA0))) (gl0 : K.lookup gA0 = some ⟨.type "dict", none, .dict gE0 gN0, #[]⟩) (gk0 : PySem.W.KeysLit w.params gE0.toList)
    (gv0_0 : PySem.W.nsIn K gA0 "name" = some (some (.ref f16))) (gv0_1 : PySem.W.nsIn K gA0 "plan" = some (some (.ref f22))) (gv0_2 : PySem.W.nsIn K gA0 "way" = some (some (.ref f17))) (gv0_3 : PySem.W.nsIn K gA0 "slot" = some (some (.ref f20))) (gv0_4 : PySem.W.nsIn K gA0 "colour" = some (some (.ref f18))) (gv0_5 : PySem.W.nsIn K gA0 "letter" = some (some (.ref f19)))
    (z0 : PySem.W.nsIn K mainGlobals "len" = some none) (z1 : PySem.W.nsIn K mainGlobals "range" = some none) (z2 : PySem.W.nsIn K mainGlobals "sum" = some none) (z3 : PySem.W.nsIn K mainGlobals "abs" = some none) (z4 : PySem.W.nsIn K mainGlobals "min" = some none) (z5 : PySem.W.nsIn K mainGlobals "max" = some none) (z6 : PySem.W.nsIn K mainGlobals "int" = some none) (z7 : PySem.W.nsIn K mainGlobals "bool" = some none) (z8 : PySem.W.nsIn K mainGlobals "str" = some none) (z9 : PySem.W.nsIn K mainGlobals "list" = some none) (z10 : PySem.W.nsIn K mainGlobals "tuple" = some none) (z11 : PySem.W.nsIn K mainGlobals "set" = some none) (z12 : PySem.W.nsIn K mainGlobals "dict" = some none) (z13 : PySem.W.nsIn K mainGlobals "sorted" = some none) (z14 : PySem.W.nsIn K mainGlobals "all" = some none) (z15 : PySem.W.nsIn K mainGlobals "any" = some none) (z16 : PySem.W.nsIn K mainGlobals "enumerate" = some none) (z17 : PySem.W.nsIn K mainGlobals "zip" = some none) (z18 : PySem.W.nsIn K mainGlobals "reversed" = some none) (z19 : PySem.W.nsIn K mainGlobals "isinstance" = some none) (z20 : PySem.W.nsIn K mainGlobals "divmod" = some none) :
    ∃ fd : FuncData, (∀ (s : Shared) (v : Value), BindsTo s fd ⟨[v], []⟩ [("_law_script", v)]) ∧ ∀ base : Heap, K.In base → base.Ns mainGlobals mg → FnOk l.prog w K mg base CX0 48 fa fd ["_law_script"] (spLaw K) := by
  have e := hfa.symm.trans (PySem.W.mg_of X G a27)
  cases e
  have F0 := fun_mk (st := s__law_bag) l0 c0 k0
  have T0 : Tx K mg "_law_bag" ["_law_script"] s__law_bag := ⟨f0, _, F0, F0.binds (ps := ["_law_script"]) fun _ _ _ _ _ _ us hl => match us, hl with | [_], _ => rfl, PySem.W.mg_of X G a0⟩
  have F1 := fun_mk (st := s__law_pull) l1 c1 k1
  have T1 : Tx K mg "_law_pull" ["_law_bag_here", "_law_many"] s__law_pull := ⟨f1, _, F1, F1.binds (ps := ["_law_bag_here", "_law_many"]) fun _ _ _ _ _ _ us hl => match us, hl with | [_, _], _ => rfl, PySem.W.mg_of X G a1⟩
  have F2 := fun_mk (st := s__law_alike) l2 c2 k2
  have T2 : Tx K mg "_law_alike" ["_law_found", "_law_due"] s__law_alike := ⟨f2, _, F2, F2.binds (ps := ["_law_found", "_law_due"]) fun _ _ _ _ _ _ us hl => match us, hl with | [_, _], _ => rfl, PySem.W.mg_of X G a2⟩
  have F3 := fun_mk (st := s__law_whole) l3 c3 k3
  have T3 : Tx K mg "_law_whole" ["_law_found"] s__law_whole := ⟨f3, _, F3, F3.binds (ps := ["_law_found"]) fun _ _ _ _ _ _ us hl => match us, hl with | [_], _ => rfl, PySem.W.mg_of X G a3⟩
  have F4 := fun_mk (st := s__law_pair) l4 c4 k4
  have T4 : Tx K mg "_law_pair" ["_law_one", "_law_other"] s__law_pair := ⟨f4, _, F4, F4.binds (ps := ["_law_one", "_law_other"]) fun _ _ _ _ _ _ us hl => match us, hl with | [_, _], _ => rfl, PySem.W.mg_of X G a4⟩
  have F5 := fun_mk (st := s__law_plan) l5 c5 k5
  have T5 : Tx K mg "_law_plan" ["_law_bag_here", "_law_most"] s__law_plan := ⟨f5, _, F5, F5.binds (ps := ["_law_bag_here", "_law_most"]) fun _ _ _ _ _ _ us hl => match us, hl with | [_, _], _ => rfl, PySem.W.mg_of X G a5⟩
  have F6 := fun_mk (st := s__law_drawn_plan) l6 c6 k6
  have T6 : Tx K mg "_law_drawn_plan" ["_law_bag_here", "_law_faces"] s__law_drawn_plan := ⟨f6, _, F6, F6.binds (ps := ["_law_bag_here", "_law_faces"]) fun _ _ _ _ _ _ us hl => match us, hl with | [_, _], _ => rfl, PySem.W.mg_of X G a6⟩
  have F7 := fun_mk (st := s__law_cut_arc) l7 c7 k7
  have T7 : Tx K mg "_law_cut_arc" ["_law_bag_here", "_law_start", "_law_end", "_law_found"] s__law_cut_arc := ⟨f7, _, F7, F7.binds (ps := ["_law_bag_here", "_law_start", "_law_end", "_law_found"]) fun _ _ _ _ _ _ us hl => match us, hl with | [_, _, _, _], _ => rfl, PySem.W.mg_of X G a7⟩
  have F8 := fun_mk (st := s__law_any_deed) l8 c8 k8
  have T8 : Tx K mg "_law_any_deed" ["_law_bag_here"] s__law_any_deed := ⟨f8, _, F8, F8.binds (ps := ["_law_bag_here"]) fun _ _ _ _ _ _ us hl => match us, hl with | [_], _ => rfl, PySem.W.mg_of X G a8⟩
  have F9 := fun_mk (st := s__law_deed_text) l9 c9 k9
  have T9 : Tx K mg "_law_deed_text" ["_law_deed"] s__law_deed_text := ⟨f9, _, F9, F9.binds (ps := ["_law_deed"]) fun _ _ _ _ _ _ us hl => match us, hl with | [_], _ => rfl, PySem.W.mg_of X G a9⟩
  have F10 := fun_mk (st := s__law_plan_text) l10 c10 k10
  have T10 : Tx K mg "_law_plan_text" ["_law_plan_here"] s__law_plan_text := ⟨f10, _, F10, F10.binds (ps := ["_law_plan_here"]) fun _ _ _ _ _ _ us hl => match us, hl with | [_], _ => rfl, PySem.W.mg_of X G a10⟩
  have F11 := fun_mk (st := s_is_letter) l11 c11 k11
  have T11 : Tx K mg "is_letter" ["text"] s_is_letter := ⟨f11, _, F11, F11.binds (ps := ["text"]) fun _ _ _ _ _ _ us hl => match us, hl with | [_], _ => rfl, PySem.W.mg_of X G a11⟩
  have F12 := fun_mk (st := s_is_name) l12 c12 k12
  have T12 : Tx K mg "is_name" ["text"] s_is_name := ⟨f12, _, F12, F12.binds (ps := ["text"]) fun _ _ _ _ _ _ us hl => match us, hl with | [_], _ => rfl, PySem.W.mg_of X G a12⟩
  have F13 := fun_mk (st := s_plan_text) l13 c13 k13
  have T13 : Tx K mg "plan_text" ["plan"] s_plan_text := ⟨f13, _, F13, F13.binds (ps := ["plan"]) fun _ _ _ _ _ _ us hl => match us, hl with | [_], _ => rfl, PySem.W.mg_of X G a13⟩
  have F14 := fun_mk (st := s_deed_text) l14 c14 k14
  have T14 : Tx K mg "deed_text" ["deed"] s_deed_text := ⟨f14, _, F14, F14.binds (ps := ["deed"]) fun _ _ _ _ _ _ us hl => match us, hl with | [_], _ => rfl, PySem.W.mg_of X G a14⟩
  have F15 := fun_mk (st := s_thing_text) l15 c15 k15
  have T15 : Tx K mg "thing_text" ["thing"] s_thing_text := ⟨f15, _, F15, F15.binds (ps := ["thing"]) fun _ _ _ _ _ _ us hl => match us, hl with | [_], _ => rfl, PySem.W.mg_of X G a15⟩
  have F16 := fun_mk (st := s_read_name) l16 c16 k16
  have T16 : Tx K mg "read_name" ["text"] s_read_name := ⟨f16, _, F16, F16.binds (ps := ["text"]) fun _ _ _ _ _ _ us hl => match us, hl with | [_], _ => rfl, PySem.W.mg_of X G a16⟩
  have F17 := fun_mk (st := s_read_way) l17 c17 k17
  have T17 : Tx K mg "read_way" ["text"] s_read_way := ⟨f17, _, F17, F17.binds (ps := ["text"]) fun _ _ _ _ _ _ us hl => match us, hl with | [_], _ => rfl, PySem.W.mg_of X G a17⟩
  have F18 := fun_mk (st := s_read_colour) l18 c18 k18
  have T18 : Tx K mg "read_colour" ["text"] s_read_colour := ⟨f18, _, F18, F18.binds (ps := ["text"]) fun _ _ _ _ _ _ us hl => match us, hl with | [_], _ => rfl, PySem.W.mg_of X G a18⟩
  have F19 := fun_mk (st := s_read_letter) l19 c19 k19
  have T19 : Tx K mg "read_letter" ["text"] s_read_letter := ⟨f19, _, F19, F19.binds (ps := ["text"]) fun _ _ _ _ _ _ us hl => match us, hl with | [_], _ => rfl, PySem.W.mg_of X G a19⟩
  have F20 := fun_mk (st := s_read_number) l20 c20 k20
  have T20 : Tx K mg "read_number" ["text"] s_read_number := ⟨f20, _, F20, F20.binds (ps := ["text"]) fun _ _ _ _ _ _ us hl => match us, hl with | [_], _ => rfl, PySem.W.mg_of X G a20⟩
  have F21 := fun_mk (st := s_is_number) l21 c21 k21
  have T21 : Tx K mg "is_number" ["text"] s_is_number := ⟨f21, _, F21, F21.binds (ps := ["text"]) fun _ _ _ _ _ _ us hl => match us, hl with | [_], _ => rfl, PySem.W.mg_of X G a21⟩
  have F22 := fun_mk (st := s_read_plan) l22 c22 k22
  have T22 : Tx K mg "read_plan" ["text"] s_read_plan := ⟨f22, _, F22, F22.binds (ps := ["text"]) fun _ _ _ _ _ _ us hl => match us, hl with | [_], _ => rfl, PySem.W.mg_of X G a22⟩
  have F23 := fun_mk (st := s_read_cut) l23 c23 k23
  have T23 : Tx K mg "read_cut" ["text"] s_read_cut := ⟨f23, _, F23, F23.binds (ps := ["text"]) fun _ _ _ _ _ _ us hl => match us, hl with | [_], _ => rfl, PySem.W.mg_of X G a23⟩
  have F24 := fun_mk (st := s_read_things) l24 c24 k24
  have T24 : Tx K mg "read_things" ["kinds", "words"] s_read_things := ⟨f24, _, F24, F24.binds (ps := ["kinds", "words"]) fun _ _ _ _ _ _ us hl => match us, hl with | [_, _], _ => rfl, PySem.W.mg_of X G a24⟩
  have F25 := fun_mk (st := s_read_thing) l25 c25 k25
  have T25 : Tx K mg "read_thing" ["kind", "word"] s_read_thing := ⟨f25, _, F25, F25.binds (ps := ["kind", "word"]) fun _ _ _ _ _ _ us hl => match us, hl with | [_, _], _ => rfl, PySem.W.mg_of X G a25⟩
  have F26 := fun_mk (st := s_read_deed) l26 c26 k26
  have T26 : Tx K mg "read_deed" ["text"] s_read_deed := ⟨f26, _, F26, F26.binds (ps := ["text"]) fun _ _ _ _ _ _ us hl => match us, hl with | [_], _ => rfl, PySem.W.mg_of X G a26⟩
  have F27 := fun_mk (st := s_law) l27 c27 k27
  have bl : Bl mg := by
    intro x hx
    simp only [List.mem_cons, List.not_mem_nil, or_false] at hx
    rcases hx with rfl | rfl | rfl | rfl | rfl | rfl | rfl | rfl | rfl | rfl | rfl | rfl | rfl | rfl | rfl | rfl | rfl | rfl | rfl | rfl | rfl
    · exact PySem.W.mg_none_of X G z0
    · exact PySem.W.mg_none_of X G z1
    · exact PySem.W.mg_none_of X G z2
    · exact PySem.W.mg_none_of X G z3
    · exact PySem.W.mg_none_of X G z4
    · exact PySem.W.mg_none_of X G z5
    · exact PySem.W.mg_none_of X G z6
    · exact PySem.W.mg_none_of X G z7
    · exact PySem.W.mg_none_of X G z8
    · exact PySem.W.mg_none_of X G z9
    · exact PySem.W.mg_none_of X G z10
    · exact PySem.W.mg_none_of X G z11
    · exact PySem.W.mg_none_of X G z12
    · exact PySem.W.mg_none_of X G z13
    · exact PySem.W.mg_none_of X G z14
    · exact PySem.W.mg_none_of X G z15
    · exact PySem.W.mg_none_of X G z16
    · exact PySem.W.mg_none_of X G z17
    · exact PySem.W.mg_none_of X G z18
    · exact PySem.W.mg_none_of X G z19
    · exact PySem.W.mg_none_of X G z20
  exact ⟨PySem.W.fnOf "law" "law" (defArgs s_law) (defBody s_law) (defScope s_law) .none kV27 dc27 pm27 an27 cd27 ct27, fun s v => .of_eq rfl, fun base _ _ => d_law F27 ⟨T0, T1, T2, T3, T4, T5, T6, T7, T8, T9, T10, T11, T12, T13, T14, T15, T16, T17, T18, T19, T20, T21, T22, T23, T24, T25, T26, ⟨_, PySem.W.mg_of X G m0⟩, ⟨_, PySem.W.mg_of X G m1⟩, ⟨_, PySem.W.mg_of X G ms0⟩, ⟨_, PySem.W.mg_of X G ms1⟩, ⟨_, PySem.W.mg_of X G cm0, fun H => .inr ⟨cO0, _, cN0, cl0, cc0, cd0, by show 2 ≤ sizeLine; decide, (.cons ⟨_, rfl⟩ (.cons ⟨_, rfl⟩ .nil))⟩⟩, ⟨_, PySem.W.mg_of X G cm1, fun H => .inr ⟨cO1, _, cN1, cl1, cc1, cd1, by show 3 ≤ sizeLine; decide, (.cons ⟨_, rfl⟩ (.cons ⟨_, rfl⟩ (.cons ⟨_, rfl⟩ .nil)))⟩⟩, bl⟩ ⟨_, PySem.W.mg_of X G gm0, ⟨_, ⟨_, _, _, gl0, gk0, gv0_0, rfl⟩, PySem.W.mg_of X G a16⟩, ⟨_, ⟨_, _, _, gl0, gk0, gv0_1, rfl⟩, PySem.W.mg_of X G a22⟩, ⟨_, ⟨_, _, _, gl0, gk0, gv0_2, rfl⟩, PySem.W.mg_of X G a17⟩, ⟨_, ⟨_, _, _, gl0, gk0, gv0_3, rfl⟩, PySem.W.mg_of X G a20⟩, ⟨_, ⟨_, _, _, gl0, gk0, gv0_4, rfl⟩, PySem.W.mg_of X G a18⟩, ⟨_, ⟨_, _, _, gl0, gk0, gv0_5, rfl⟩, PySem.W.mg_of X G a19⟩⟩ ⟨_, PySem.W.mg_of X G em0, eq0, fun e he => by
      simp only [kindsL, List.mem_cons, List.not_mem_nil, or_false] at he
      rcases he with rfl | rfl | rfl | rfl | rfl | rfl | rfl | rfl | rfl | rfl | rfl
      · exact ⟨_, ⟨_, _, _, el0, ef0, ev0_0, rfl⟩, fun H => .inr ⟨eO0_0, _, eM0_0, ew0_0, ey0_0, ez0_0, by show 2 ≤ sizeLine; decide, (.cons ⟨_, rfl⟩ (.cons ⟨_, rfl⟩ .nil))⟩⟩
      · exact ⟨_, ⟨_, _, _, el0, ef0, ev0_1, rfl⟩, fun H => .inr ⟨eO0_1, _, eM0_1, ew0_1, ey0_1, ez0_1, by show 1 ≤ sizeLine; decide, (.cons ⟨_, rfl⟩ .nil)⟩⟩
      · exact ⟨_, ⟨_, _, _, el0, ef0, ev0_2, rfl⟩, fun H => .inr ⟨eO0_2, _, eM0_2, ew0_2, ey0_2, ez0_2, by show 2 ≤ sizeLine; decide, (.cons ⟨_, rfl⟩ (.cons ⟨_, rfl⟩ .nil))⟩⟩
      · exact ⟨_, ⟨_, _, _, el0, ef0, ev0_3, rfl⟩, fun H => .inr ⟨eO0_3, _, eM0_3, ew0_3, ey0_3, ez0_3, by show 2 ≤ sizeLine; decide, (.cons ⟨_, rfl⟩ (.cons ⟨_, rfl⟩ .nil))⟩⟩
      · exact ⟨_, ⟨_, _, _, el0, ef0, ev0_4, rfl⟩, fun H => .inr ⟨eO0_4, _, eM0_4, ew0_4, ey0_4, ez0_4, by show 1 ≤ sizeLine; decide, (.cons ⟨_, rfl⟩ .nil)⟩⟩
      · exact ⟨_, ⟨_, _, _, el0, ef0, ev0_5, rfl⟩, fun H => .inr ⟨eO0_5, _, eM0_5, ew0_5, ey0_5, ez0_5, by show 1 ≤ sizeLine; decide, (.cons ⟨_, rfl⟩ .nil)⟩⟩
      · exact ⟨_, ⟨_, _, _, el0, ef0, ev0_6, rfl⟩, fun H => .inr ⟨eO0_6, _, eM0_6, ew0_6, ey0_6, ez0_6, by show 3 ≤ sizeLine; decide, (.cons ⟨_, rfl⟩ (.cons ⟨_, rfl⟩ (.cons ⟨_, rfl⟩ .nil)))⟩⟩
      · exact ⟨_, ⟨_, _, _, el0, ef0, ev0_7, rfl⟩, fun H => .inr ⟨eO0_7, _, eM0_7, ew0_7, ey0_7, ez0_7, by show 3 ≤ sizeLine; decide, (.cons ⟨_, rfl⟩ (.cons ⟨_, rfl⟩ (.cons ⟨_, rfl⟩ .nil)))⟩⟩
      · exact ⟨_, ⟨_, _, _, el0, ef0, ev0_8, rfl⟩, fun H => .inr ⟨eO0_8, _, eM0_8, ew0_8, ey0_8, ez0_8, by show 2 ≤ sizeLine; decide, (.cons ⟨_, rfl⟩ (.cons ⟨_, rfl⟩ .nil))⟩⟩
      · exact ⟨_, ⟨_, _, _, el0, ef0, ev0_9, rfl⟩, fun H => .inr ⟨eO0_9, _, eM0_9, ew0_9, ey0_9, ez0_9, by show 1 ≤ sizeLine; decide, (.cons ⟨_, rfl⟩ .nil)⟩⟩
      · exact ⟨_, ⟨_, _, _, el0, ef0, ev0_10, rfl⟩, fun H => .inr ⟨eO0_10, _, eM0_10, ew0_10, ey0_10, ez0_10, by show 2 ≤ sizeLine; decide, (.cons ⟨_, rfl⟩ (.cons ⟨_, rfl⟩ .nil))⟩⟩⟩⟩
end Pf
open PySem PySem.W PyProof.Rows
set_option maxRecDepth 100000 in
set_option maxHeartbeats 0 in
theorem PySem.Challenge.cw_pinchfold_k49_deeds_written_and_read_holds : PySem.Challenge.rw_pinchfold_k49_deeds_written_and_read.Holds := by
  w_on; o_law; k_head; (case hw => w_witness2)
  k_fill
  refine L2.walk_ofK (l := PySem.Challenge.rw_pinchfold_k49_deeds_written_and_read) (n := 63) (k := 48) (x := "_law_script") (CX := L2.CX0) (sp := Pf.spLaw) rfl (by decide) rfl ⟨rfl, by decide, by decide⟩ (fun w h Y => PySem.W.kIn_of Y) ?F (fun _ _ a ns hl _ hS => ⟨a, ns, rfl, hS, hl, fun _ => rfl⟩) (fun _ _ _ _ h => h)
  case F =>
    intro w mg fa h KX G hmg
    refine' Pf.all_mk KX G hmg ?a0 ?l0 ?c0 ?k0 ?a1 ?l1 ?c1 ?k1 ?a2 ?l2 ?c2 ?k2 ?a3 ?l3 ?c3 ?k3 ?a4 ?l4 ?c4 ?k4 ?a5 ?l5 ?c5 ?k5 ?a6 ?l6 ?c6 ?k6 ?a7 ?l7 ?c7 ?k7 ?a8 ?l8 ?c8 ?k8 ?a9 ?l9 ?c9 ?k9 ?a10 ?l10 ?c10 ?k10 ?a11 ?l11 ?c11 ?k11 ?a12 ?l12 ?c12 ?k12 ?a13 ?l13 ?c13 ?k13 ?a14 ?l14 ?c14 ?k14 ?a15 ?l15 ?c15 ?k15 ?a16 ?l16 ?c16 ?k16 ?a17 ?l17 ?c17 ?k17 ?a18 ?l18 ?c18 ?k18 ?a19 ?l19 ?c19 ?k19 ?a20 ?l20 ?c20 ?k20 ?a21 ?l21 ?c21 ?k21 ?a22 ?l22 ?c22 ?k22 ?a23 ?l23 ?c23 ?k23 ?a24 ?l24 ?c24 ?k24 ?a25 ?l25 ?c25 ?k25 ?a26 ?l26 ?c26 ?k26 ?a27 ?l27 ?c27 ?k27 ?m0 ?m1 ?cm0 ?cl0 ?cc0 ?cd0 ?cm1 ?cl1 ?cc1 ?cd1 ?ms0 ?ms1 ?em0 ?eq0 ?el0 ?ef0 ?ev0_0 ?ew0_0 ?ey0_0 ?ez0_0 ?ev0_1 ?ew0_1 ?ey0_1 ?ez0_1 ?ev0_2 ?ew0_2 ?ey0_2 ?ez0_2 ?ev0_3 ?ew0_3 ?ey0_3 ?ez0_3 ?ev0_4 ?ew0_4 ?ey0_4 ?ez0_4 ?ev0_5 ?ew0_5 ?ey0_5 ?ez0_5 ?ev0_6 ?ew0_6 ?ey0_6 ?ez0_6 ?ev0_7 ?ew0_7 ?ey0_7 ?ez0_7 ?ev0_8 ?ew0_8 ?ey0_8 ?ez0_8 ?ev0_9 ?ew0_9 ?ey0_9 ?ez0_9 ?ev0_10 ?ew0_10 ?ey0_10 ?ez0_10 ?gm0 ?gl0 ?gk0 ?gv0_0 ?gv0_1 ?gv0_2 ?gv0_3 ?gv0_4 ?gv0_5 ?z0 ?z1 ?z2 ?z3 ?z4 ?z5 ?z6 ?z7 ?z8 ?z9 ?z10 ?z11 ?z12 ?z13 ?z14 ?z15 ?z16 ?z17 ?z18 ?z19 ?z20
    (case a0 => k_is); (case l0 => k_is); (case c0 => k_is); (case k0 => k_is); (case a1 => k_is); (case l1 => k_is); (case c1 => k_is); (case k1 => k_is); (case a2 => k_is); (case l2 => k_is); (case c2 => k_is); (case k2 => k_is); (case a3 => k_is); (case l3 => k_is); (case c3 => k_is); (case k3 => k_is); (case a4 => k_is); (case l4 => k_is); (case c4 => k_is); (case k4 => k_is); (case a5 => k_is); (case l5 => k_is); (case c5 => k_is); (case k5 => k_is); (case a6 => k_is); (case l6 => k_is); (case c6 => k_is); (case k6 => k_is); (case a7 => k_is); (case l7 => k_is); (case c7 => k_is); (case k7 => k_is); (case a8 => k_is); (case l8 => k_is); (case c8 => k_is); (case k8 => k_is); (case a9 => k_is); (case l9 => k_is); (case c9 => k_is); (case k9 => k_is); (case a10 => k_is); (case l10 => k_is); (case c10 => k_is); (case k10 => k_is); (case a11 => k_is); (case l11 => k_is); (case c11 => k_is); (case k11 => k_is); (case a12 => k_is); (case l12 => k_is); (case c12 => k_is); (case k12 => k_is); (case a13 => k_is); (case l13 => k_is); (case c13 => k_is); (case k13 => k_is); (case a14 => k_is); (case l14 => k_is); (case c14 => k_is); (case k14 => k_is); (case a15 => k_is); (case l15 => k_is); (case c15 => k_is); (case k15 => k_is); (case a16 => k_is); (case l16 => k_is); (case c16 => k_is); (case k16 => k_is); (case a17 => k_is); (case l17 => k_is); (case c17 => k_is); (case k17 => k_is); (case a18 => k_is); (case l18 => k_is); (case c18 => k_is); (case k18 => k_is); (case a19 => k_is); (case l19 => k_is); (case c19 => k_is); (case k19 => k_is); (case a20 => k_is); (case l20 => k_is); (case c20 => k_is); (case k20 => k_is); (case a21 => k_is); (case l21 => k_is); (case c21 => k_is); (case k21 => k_is); (case a22 => k_is); (case l22 => k_is); (case c22 => k_is); (case k22 => k_is); (case a23 => k_is); (case l23 => k_is); (case c23 => k_is); (case k23 => k_is); (case a24 => k_is); (case l24 => k_is); (case c24 => k_is); (case k24 => k_is); (case a25 => k_is); (case l25 => k_is); (case c25 => k_is); (case k25 => k_is); (case a26 => k_is); (case l26 => k_is); (case c26 => k_is); (case k26 => k_is); (case a27 => k_is); (case l27 => k_is); (case c27 => k_is); (case k27 => k_is); (case m0 => k_is); (case m1 => k_is); (case cm0 => k_is); (case cl0 => k_is); (case cc0 => rfl); (case cd0 => rfl); (case cm1 => k_is); (case cl1 => k_is); (case cc1 => rfl); (case cd1 => rfl); (case ms0 => k_is); (case ms1 => k_is); (case em0 => k_is); (case eq0 => rfl); (case el0 => k_is); (case ef0 => first | exact ⟨⟨_, _, rfl, rfl⟩, ⟨⟨_, _, rfl, rfl⟩, ⟨⟨_, _, rfl, rfl⟩, ⟨⟨_, _, rfl, rfl⟩, ⟨⟨_, _, rfl, rfl⟩, ⟨⟨_, _, rfl, rfl⟩, ⟨⟨_, _, rfl, rfl⟩, ⟨⟨_, _, rfl, rfl⟩, ⟨⟨_, _, rfl, rfl⟩, ⟨⟨_, _, rfl, rfl⟩, ⟨⟨_, _, rfl, rfl⟩, trivial⟩⟩⟩⟩⟩⟩⟩⟩⟩⟩⟩ | k_is); (case ev0_0 => first | rfl | k_is); (case ew0_0 => k_is); (case ey0_0 => rfl); (case ez0_0 => rfl); (case ev0_1 => first | rfl | k_is); (case ew0_1 => k_is); (case ey0_1 => rfl); (case ez0_1 => rfl); (case ev0_2 => first | rfl | k_is); (case ew0_2 => k_is); (case ey0_2 => rfl); (case ez0_2 => rfl); (case ev0_3 => first | rfl | k_is); (case ew0_3 => k_is); (case ey0_3 => rfl); (case ez0_3 => rfl); (case ev0_4 => first | rfl | k_is); (case ew0_4 => k_is); (case ey0_4 => rfl); (case ez0_4 => rfl); (case ev0_5 => first | rfl | k_is); (case ew0_5 => k_is); (case ey0_5 => rfl); (case ez0_5 => rfl); (case ev0_6 => first | rfl | k_is); (case ew0_6 => k_is); (case ey0_6 => rfl); (case ez0_6 => rfl); (case ev0_7 => first | rfl | k_is); (case ew0_7 => k_is); (case ey0_7 => rfl); (case ez0_7 => rfl); (case ev0_8 => first | rfl | k_is); (case ew0_8 => k_is); (case ey0_8 => rfl); (case ez0_8 => rfl); (case ev0_9 => first | rfl | k_is); (case ew0_9 => k_is); (case ey0_9 => rfl); (case ez0_9 => rfl); (case ev0_10 => first | rfl | k_is); (case ew0_10 => k_is); (case ey0_10 => rfl); (case ez0_10 => rfl); (case gm0 => k_is); (case gl0 => k_is); (case gk0 => first | exact ⟨⟨_, _, rfl, rfl⟩, ⟨⟨_, _, rfl, rfl⟩, ⟨⟨_, _, rfl, rfl⟩, ⟨⟨_, _, rfl, rfl⟩, ⟨⟨_, _, rfl, rfl⟩, ⟨⟨_, _, rfl, rfl⟩, ⟨⟨_, _, rfl, rfl⟩, trivial⟩⟩⟩⟩⟩⟩⟩ | k_is); (case gv0_0 => first | rfl | k_is); (case gv0_1 => first | rfl | k_is); (case gv0_2 => first | rfl | k_is); (case gv0_3 => first | rfl | k_is); (case gv0_4 => first | rfl | k_is); (case gv0_5 => first | rfl | k_is); (case z0 => k_is); (case z1 => k_is); (case z2 => k_is); (case z3 => k_is); (case z4 => k_is); (case z5 => k_is); (case z6 => k_is); (case z7 => k_is); (case z8 => k_is); (case z9 => k_is); (case z10 => k_is); (case z11 => k_is); (case z12 => k_is); (case z13 => k_is); (case z14 => k_is); (case z15 => k_is); (case z16 => k_is); (case z17 => k_is); (case z18 => k_is); (case z19 => k_is); (case z20 => k_is)


