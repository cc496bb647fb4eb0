import PyProof.Rows.All
import Wide.All
import OpenK.AllK
import Wide.FinOn
import HandS.ForMost
import HandS.Wide
import HandS.IsInst
import HandS.Deep
import HandS.SortRule
import HandS.SortInts
import HandS.TupLe
import HandS.Zip
import HandS.Codes
import HandS.TupAny
import HandS.Defaults
import HandS.ForExc
import HandS.TryMany
import HandS.Zip0
import HandS.ExcCtx
import HandS.Conv
import KE.DataMinMax
import KE.SortData
import HandS.TupSets
import HandS.Style
import HandS.EndTab
import HandS.ExcOwn
import KE.KNestM
import KE.KDictDisplayH
import HandS.More
import HandS.TupLen
import PyProof.StrOps2
import HandS.DictComp
import HandS.Text
import HandS.FStr
import HandS.Star
import HandS.CallLocal
import HandS.RaiseMore
import HandS.ExcValue
import HandS.WrittenGet
import KE.KUnpackStar
import KE.GoesEnum
import KE.GoesMore
import KE.GoesZip
import HandS.HotCalls
import HandS.ExcIs
import HandS.Head0
import HandS.Head1
import HandS.Head2
import HandS.HeadEnd
import HandS.HeadHook1
import HandS.HeadHook2
import HandS.HeadHook3
import PySem.Challenge.RW_pinchfold_k38_full_houses
set_option Elab.async false
set_option linter.all false
set_option autoImplicit false
set_option maxRecDepth 100000
set_option maxHeartbeats 4000000
/-! A layer of pure values over the abstract heap. -/
namespace Pf
open PySem PySem.Spec PyProof.Rows L2

abbrev Fg := PySem.W.Frag
/-- beyond G, G' has only what is new to H, or tuples of H, and no table -/
def Nw (G H G' : Hp) : Prop := ∀ a o, G' a = some o → G a = some o ∨ ((H a = none ∨ ∃ vs, o = .tup vs ∧ H a = some o) ∧ ∀ ps, o ≠ .tbl ps)
/-- all but M stays -/
def SB (M : Addr → Prop) (H H' : Hp) : Prop := ∀ a o, ¬ M a → H a = some o → H' a = some o
/-- a step: the still part G grows to G', the heap H becomes H', but for M all of H stays -/
structure Gr (M : Addr → Prop) (G H G' H' : Hp) : Prop where
  g : Same G G'
  i : Same G' H'
  h : SB M H H'
  n : Nw G H G'
abbrev M0 : Addr → Prop := fun _ => False
theorem SB.refl {M : Addr → Prop} {H : Hp} : SB M H H := fun _ _ _ h => h
theorem SB.trans {M : Addr → Prop} {H H1 H2 : Hp} (a : SB M H H1) (b : SB M H1 H2) : SB M H H2 := fun c o n h => b c o n (a c o n h)
theorem SB.of {M : Addr → Prop} {H H' : Hp} (a : Same H H') : SB M H H' := fun c o _ h => a c o h
theorem SB.same {H H' : Hp} (a : SB M0 H H') : Same H H' := fun c o h => a c o (fun z => z) h
theorem Gr.refl {M : Addr → Prop} {G H : Hp} (i : Same G H) : Gr M G H G H := ⟨Same.refl G, i, SB.refl, fun _ _ h => .inl h⟩
theorem Gr.trans {M : Addr → Prop} {G H G1 H1 G2 H2 : Hp} (x : Gr M G H G1 H1) (y : Gr M G1 H1 G2 H2) (mm : ∀ a, M a → G2 a = none ∨ H a = none ∨ G a ≠ none := by intro _ z; exact z.elim) : Gr M G H G2 H2 :=
  ⟨x.g.trans y.g, y.i, x.h.trans y.h, fun a o e => by
    rcases y.n a o e with z | ⟨z, nt⟩
    · exact x.n a o z
    · cases q : H a with
      | none => exact .inr ⟨.inl rfl, nt⟩
      | some u =>
        by_cases m : M a
        · rcases mm a m with k | k | k
          · rw [k] at e; cases e
          · rw [k] at q; cases q
          · cases r : G a with
            | none => exact absurd r k
            | some u' =>
              have e1 := (x.g.trans y.g) a u' r
              rw [e] at e1
              exact .inl e1.symm
        · rcases z with z | ⟨vs, rfl, z⟩
          · rw [x.h a u m q] at z; cases z
          · rw [x.h a u m q] at z; cases z; exact .inr ⟨.inr ⟨vs, rfl, rfl⟩, nt⟩⟩
theorem Gr.same {G H G' H' : Hp} (x : Gr M0 G H G' H') : Same H H' := x.h.same
theorem Gr.wk {M : Addr → Prop} {G H G' H' : Hp} (x : Gr M0 G H G' H') : Gr M G H G' H' := ⟨x.g, x.i, SB.of x.same, x.n⟩
/-- G has nothing of what H had outside -/
theorem Gr.out {M : Addr → Prop} {G H G' H' : Hp} (x : Gr M G H G' H') {p : Addr} {o : HO} (hg : G p = none) (hh : H p = some o) (nt : ∀ vs, o ≠ .tup vs := by intro _ h; cases h) : G' p = none := by
  cases q : G' p with
  | none => rfl
  | some u =>
    rcases x.n p u q with z | ⟨z | ⟨vs, rfl, z⟩, _⟩
    · rw [hg] at z; cases z
    · rw [hh] at z; cases z
    · rw [hh] at z; cases z; exact absurd rfl (nt vs)

def uni (A B : Hp) : Hp := fun a => match A a with
  | some o => some o
  | none => B a
theorem uni_l {A B : Hp} : Same A (uni A B) := fun a o h => by unfold uni; rw [h]
theorem uni_c {A B : Hp} {a : Addr} {o : HO} (h : uni A B a = some o) : A a = some o ∨ B a = some o := by
  unfold uni at h
  cases q : A a with
  | some u => rw [q] at h; exact .inl h
  | none => rw [q] at h; exact .inr h
theorem uni_r {A B H : Hp} (x : Same A H) (y : Same B H) : Same B (uni A B) := fun a o h => by
  unfold uni
  cases q : A a with
  | none => exact h
  | some u =>
    have e1 := x a u q
    have e2 := y a o h
    rw [e1] at e2
    exact e2
theorem uni_i {A B H : Hp} (x : Same A H) (y : Same B H) : Same (uni A B) H := fun a o h => by
  rcases uni_c h with z | z
  · exact x a o z
  · exact y a o z

/-! ### values -/
class Rep (α : Type) where
  rep : Hp → V → α → Prop
  mono : ∀ {G G' : Hp} {v : V} {x : α}, Same G G' → rep G v x → rep G' v x
abbrev rep {α : Type} [Rep α] : Hp → V → α → Prop := Rep.rep
instance : Rep Int := ⟨fun _ v x => v = .int x, fun _ h => h⟩
instance : Rep Bool := ⟨fun _ v x => v = .bl x, fun _ h => h⟩
instance : Rep Str := ⟨fun _ v x => v = .str x, fun _ h => h⟩
instance : Rep Unit := ⟨fun _ v _ => v = .non, fun _ h => h⟩
theorem paired_mono {α : Type} [Rep α] {G G' : Hp} (e : Same G G') {vs : List V} {xs : List α} (h : Paired (rep G) vs xs) : Paired (rep G') vs xs := Paired.mapP h fun _ _ r => Rep.mono e r
instance {α : Type} [Rep α] : Rep (List α) := ⟨fun G v xs => ∃ a vs, v = .ref a ∧ G a = some (.lst vs) ∧ Paired (rep G) vs xs,
  fun e ⟨a, vs, h1, h2, h3⟩ => ⟨a, vs, h1, e _ _ h2, paired_mono e h3⟩⟩
/-- a tuple of any length, of one kind -/
structure Tup (α : Type) where
  l : List α
  deriving DecidableEq
instance {α : Type} [Rep α] : Rep (Tup α) := ⟨fun G v xs => ∃ a vs, v = .ref a ∧ G a = some (.tup vs) ∧ Paired (rep G) vs xs.l,
  fun e ⟨a, vs, h1, h2, h3⟩ => ⟨a, vs, h1, e _ _ h2, paired_mono e h3⟩⟩
instance {α β : Type} [Rep α] [Rep β] : Rep (α × β) := ⟨fun G v x => ∃ a u w, v = .ref a ∧ G a = some (.tup [u, w]) ∧ rep G u x.1 ∧ rep G w x.2,
  fun e ⟨a, u, w, h1, h2, h3, h4⟩ => ⟨a, u, w, h1, e _ _ h2, Rep.mono e h3, Rep.mono e h4⟩⟩
/-- a tuple of three -/
structure Tri (α β γ : Type) where
  a : α
  b : β
  c : γ
  deriving DecidableEq
instance {α β γ : Type} [Rep α] [Rep β] [Rep γ] : Rep (Tri α β γ) := ⟨fun G v x => ∃ a u w z, v = .ref a ∧ G a = some (.tup [u, w, z]) ∧ rep G u x.a ∧ rep G w x.b ∧ rep G z x.c,
  fun e ⟨a, u, w, z, h1, h2, h3, h4, h5⟩ => ⟨a, u, w, z, h1, e _ _ h2, Rep.mono e h3, Rep.mono e h4, Rep.mono e h5⟩⟩
theorem rep_int {G : Hp} {v : V} {x : Int} (h : rep G v x) : v = .int x := h
theorem rep_bl {G : Hp} {v : V} {x : Bool} (h : rep G v x) : v = .bl x := h
theorem rep_str {G : Hp} {v : V} {x : Str} (h : rep G v x) : v = .str x := h
theorem paired_len {α : Type} [Rep α] {G : Hp} {vs : List V} {xs : List α} (h : Paired (rep G) vs xs) : vs.length = xs.length := Paired.length h
theorem paired_get {α β : Type} {R : α → β → Prop} : ∀ {vs : List α} {xs : List β} {i : Nat} {x : β}, Paired R vs xs → xs[i]? = some x → ∃ v, vs[i]? = some v ∧ R v x
  | _, _, _, _, .nil, e => by simp at e
  | _, _, 0, _, .cons r _, e => by simp at e; subst e; exact ⟨_, rfl, r⟩
  | _, _, i + 1, x, .cons _ t, e => by
    obtain ⟨u, h1, h2⟩ := paired_get (i := i) (x := x) t (by simpa using e)
    exact ⟨u, by simpa using h1, h2⟩
theorem paired_get' {α β : Type} {R : α → β → Prop} : ∀ {vs : List α} {xs : List β} {i : Nat} {v : α}, Paired R vs xs → vs[i]? = some v → ∃ x, xs[i]? = some x ∧ R v x
  | _, _, _, _, .nil, e => by simp at e
  | _, _, 0, _, .cons r _, e => by simp at e; subst e; exact ⟨_, rfl, r⟩
  | _, _, i + 1, x, .cons _ t, e => by
    obtain ⟨u, h1, h2⟩ := paired_get' (i := i) (v := x) t (by simpa using e)
    exact ⟨u, by simpa using h1, h2⟩
theorem paired_app {α β : Type} {R : α → β → Prop} : ∀ {vs us : List α} {xs ys : List β}, Paired R vs xs → Paired R us ys → Paired R (vs ++ us) (xs ++ ys)
  | _, _, _, _, .nil, h => h
  | _, _, _, _, .cons r t, h => .cons r (paired_app t h)
theorem paired_drop {α β : Type} {R : α → β → Prop} : ∀ {vs : List α} {xs : List β} (n : Nat), Paired R vs xs → Paired R (vs.drop n) (xs.drop n)
  | _, _, 0, h => h
  | _, _, _ + 1, .nil => .nil
  | _, _, n + 1, .cons _ t => paired_drop n t
theorem paired_take {α β : Type} {R : α → β → Prop} : ∀ {vs : List α} {xs : List β} (n : Nat), Paired R vs xs → Paired R (vs.take n) (xs.take n)
  | _, _, 0, _ => .nil
  | _, _, _ + 1, .nil => .nil
  | _, _, n + 1, .cons r t => .cons r (paired_take n t)
theorem paired_ints {G : Hp} : ∀ {vs : List V} {xs : List Int}, Paired (rep G) vs xs → vs = xs.map V.int
  | _, _, .nil => rfl
  | _, _, .cons r t => by rw [rep_int r, paired_ints t]; rfl
theorem paired_of_ints {G : Hp} : ∀ (xs : List Int), Paired (rep G) (xs.map V.int) xs
  | [] => .nil
  | _ :: xs => .cons rfl (paired_of_ints xs)
theorem paired_bls {G : Hp} : ∀ {vs : List V} {xs : List Bool}, Paired (rep G) vs xs → vs = xs.map V.bl
  | _, _, .nil => rfl
  | _, _, .cons r t => by rw [rep_bl r, paired_bls t]; rfl

/-! ### what evaluates to what -/
section
variable {α β γ δ : Type} [Rep α] [Rep β] [Rep γ] [Rep δ]
def Ev (te : TE) (σ : L2.St) (G : Hp) (x : α) : Prop := ∀ H, Same G H → ∀ Q : VK, (∀ v G' H', Gr M0 G H G' H' → rep G' v x → Q v H') → te σ H Q
def EvT (tt : TT) (σ : L2.St) (G : Hp) (b : Bool) : Prop := ∀ H, Same G H → ∀ Q : Bool → Hp → Prop, (∀ G' H', Gr M0 G H G' H' → Q b H') → tt σ H Q
def EvAs (ta : TA) (σ : L2.St) (G : Hp) (xs : List α) : Prop := ∀ H, Same G H → ∀ Q : List V → Hp → Prop, (∀ vs G' H', Gr M0 G H G' H' → Paired (rep G') vs xs → Q vs H') → ta σ H Q
/-- a two-place operation on values -/
def Ev2 (r : R2) (v u : V) (G : Hp) (z : γ) : Prop := ∀ H, Same G H → ∀ Q : VK, (∀ w G' H', Gr M0 G H G' H' → rep G' w z → Q w H') → r v u H Q
theorem gr_up {G G1 H G' H' : Hp} (e : Same G G1) (i : Same G1 H) (g : Gr M0 G H G' H') : Gr M0 G1 H (uni G' G1) H' :=
  ⟨uni_r g.i (i.trans g.same), uni_i g.i (i.trans g.same), g.h, fun a o q => by
    rcases uni_c q with z | z
    · rcases g.n a o z with y | y
      · exact .inl (e a o y)
      · exact .inr y
    · exact .inl z⟩
variable {σ : L2.St} {G G1 : Hp} {te ta tb tc : TE} {tt tu : TT} {x : α} {y : β} {z : γ} {r r' : R2}
theorem Ev.mono (h : Ev te σ G x) (e : Same G G1) : Ev te σ G1 x := fun H i Q q => h H (e.trans i) Q fun v G' H' g k => q v (uni G' G1) H' (gr_up e i g) (Rep.mono uni_l k)
theorem EvT.mono {b : Bool} (h : EvT tt σ G b) (e : Same G G1) : EvT tt σ G1 b := fun H i Q q => h H (e.trans i) Q fun G' H' g => q (uni G' G1) H' (gr_up e i g)
theorem EvAs.mono {ta : TA} {xs : List α} (h : EvAs ta σ G xs) (e : Same G G1) : EvAs ta σ G1 xs := fun H i Q q => h H (e.trans i) Q fun v G' H' g k => q v (uni G' G1) H' (gr_up e i g) (paired_mono uni_l k)
theorem Ev.cast {x' : α} (h : Ev te σ G x) (e : x = x') : Ev te σ G x' := e ▸ h
theorem EvT.cast {b b' : Bool} (h : EvT tt σ G b) (e : b = b') : EvT tt σ G b' := e ▸ h
theorem ev_var {i : Nat} {v : V} (h : σ[i]? = some (some v)) (k : rep G v x) : Ev (tVar i) σ G x := fun H i Q q => ⟨v, h, q v G H (Gr.refl i) k⟩
theorem ev_c {v : V} (k : rep G v x) : Ev (tC v) σ G x := fun H i Q q => q v G H (Gr.refl i) k
theorem ev_int {n : Int} : Ev (tC (.int n)) σ G n := ev_c rfl
theorem ev_bl {n : Bool} : Ev (tC (.bl n)) σ G n := ev_c rfl
theorem ev_str {n : Str} : Ev (tC (.str n)) σ G n := ev_c rfl
/-- two, then a step on their values -/
theorem ev2 (ha : Ev ta σ G x) (hb : Ev tb σ G y) (hr : ∀ v u G', Same G G' → rep G' v x → rep G' u y → Ev2 r v u G' z) : Ev (tOp r ta tb) σ G z := fun H i Q q =>
  ha H i _ fun v G1 H1 g1 k1 => (hb.mono g1.g) H1 g1.i _ fun u G2 H2 g2 k2 =>
    hr v u G2 (g1.g.trans g2.g) (Rep.mono g2.g k1) k2 H2 g2.i Q fun w G3 H3 g3 k3 => q w G3 H3 ((g1.trans g2).trans g3) k3
theorem ev_I0 {g : Int → Int → V} {i j : Int} (hz : ∀ G', rep G' (g i j) z) (ha : Ev ta σ G i) (hb : Ev tb σ G j) : Ev (tOp (rI0 g) ta tb) σ G z :=
  ev2 ha hb fun v u G' _ k1 k2 H h Q q => ⟨i, j, k1, k2, q _ G' H (Gr.refl h) (hz G')⟩
theorem ev_I {C : Int → Int → Prop} {g : Int → Int → V} {i j : Int} (hz : ∀ G', rep G' (g i j) z) (hc : C i j) (ha : Ev ta σ G i) (hb : Ev tb σ G j) : Ev (tOp (rI C g) ta tb) σ G z :=
  ev2 ha hb fun v u G' _ k1 k2 H h Q q => ⟨i, j, k1, k2, hc, q _ G' H (Gr.refl h) (hz G')⟩
variable {i j : Int}
theorem ev_add (ha : Ev ta σ G i) (hb : Ev tb σ G j) : Ev (tOp (rI0 fun i j => .int (i + j)) ta tb) σ G (i + j) := ev_I0 (fun _ => rfl) ha hb
theorem ev_sub (ha : Ev ta σ G i) (hb : Ev tb σ G j) : Ev (tOp (rI0 fun i j => .int (i - j)) ta tb) σ G (i - j) := ev_I0 (fun _ => rfl) ha hb
theorem ev_mul (ha : Ev ta σ G i) (hb : Ev tb σ G j) (hc : CMul i j) : Ev (tOp (rI CMul fun i j => .int (i * j)) ta tb) σ G (i * j) := ev_I (fun _ => rfl) hc ha hb
theorem ev_fdiv (ha : Ev ta σ G i) (hb : Ev tb σ G j) (hc : CDiv i j) : Ev (tOp (rI CDiv fun i j => .int (i / j)) ta tb) σ G (i / j) := ev_I (fun _ => rfl) hc ha hb
theorem ev_fdivW (ha : Ev ta σ G i) (hb : Ev tb σ G j) (hc : CDivW i j) : Ev (tOp (rI CDivW fun i j => .int (i / j)) ta tb) σ G (i / j) := ev_I (fun _ => rfl) hc ha hb
theorem ev_mod (ha : Ev ta σ G i) (hb : Ev tb σ G j) (hc : 0 < j) : Ev (tOp (rI (fun _ j => 0 < j) fun i j => .int (i % j)) ta tb) σ G (i % j) := ev_I (fun _ => rfl) hc ha hb
theorem ev_pow (ha : Ev ta σ G i) (hb : Ev tb σ G j) (hc : CPow i j) : Ev (tOp (rI CPow fun i j => .int (i ^ j.toNat)) ta tb) σ G (i ^ j.toNat) := ev_I (fun _ => rfl) hc ha hb
theorem ev_lt (ha : Ev ta σ G i) (hb : Ev tb σ G j) : Ev (tOp (rI0 fun i j => .bl (decide (i < j))) ta tb) σ G (decide (i < j)) := ev_I0 (fun _ => rfl) ha hb
theorem ev_le (ha : Ev ta σ G i) (hb : Ev tb σ G j) : Ev (tOp (rI0 fun i j => .bl (decide (i ≤ j))) ta tb) σ G (decide (i ≤ j)) := ev_I0 (fun _ => rfl) ha hb
theorem ev_gt (ha : Ev ta σ G i) (hb : Ev tb σ G j) : Ev (tOp (rI0 fun i j => .bl (decide (j < i))) ta tb) σ G (decide (j < i)) := ev_I0 (fun _ => rfl) ha hb
theorem ev_ge (ha : Ev ta σ G i) (hb : Ev tb σ G j) : Ev (tOp (rI0 fun i j => .bl (decide (j ≤ i))) ta tb) σ G (decide (j ≤ i)) := ev_I0 (fun _ => rfl) ha hb
theorem v_int_eq {i j : Int} : decide (V.int i = V.int j) = decide (i = j) := by
  by_cases h : i = j
  · rw [decide_eq_true h, decide_eq_true (congrArg V.int h)]
  · rw [decide_eq_false h, decide_eq_false (fun e => h (V.int.inj e))]
theorem v_str_eq {i j : Str} : decide (V.str i = V.str j) = decide (i = j) := by
  by_cases h : i = j
  · rw [decide_eq_true h, decide_eq_true (congrArg V.str h)]
  · rw [decide_eq_false h, decide_eq_false (fun e => h (V.str.inj e))]
theorem v_bl_eq {i j : Bool} : decide (V.bl i = V.bl j) = decide (i = j) := by
  by_cases h : i = j
  · rw [decide_eq_true h, decide_eq_true (congrArg V.bl h)]
  · rw [decide_eq_false h, decide_eq_false (fun e => h (V.bl.inj e))]
theorem ev_eqI (ha : Ev ta σ G i) (hb : Ev tb σ G j) : Ev (tOp rEq ta tb) σ G (decide (i = j)) :=
  ev2 ha hb fun v u G' _ k1 k2 H h Q q => by
    cases k1; cases k2
    exact ⟨rfl, q _ G' H (Gr.refl h) (by rw [v_int_eq]; rfl)⟩
theorem ev_neI (ha : Ev ta σ G i) (hb : Ev tb σ G j) : Ev (tOp rNe ta tb) σ G (!decide (i = j)) :=
  ev2 ha hb fun v u G' _ k1 k2 H h Q q => by
    cases k1; cases k2
    exact ⟨rfl, q _ G' H (Gr.refl h) (by rw [v_int_eq]; rfl)⟩
theorem ev_eqS {i j : Str} (ha : Ev ta σ G i) (hb : Ev tb σ G j) : Ev (tOp rEq ta tb) σ G (decide (i = j)) :=
  ev2 ha hb fun v u G' _ k1 k2 H h Q q => by
    cases k1; cases k2
    exact ⟨rfl, q _ G' H (Gr.refl h) (by rw [v_str_eq]; rfl)⟩
theorem ev_neS {i j : Str} (ha : Ev ta σ G i) (hb : Ev tb σ G j) : Ev (tOp rNe ta tb) σ G (!decide (i = j)) :=
  ev2 ha hb fun v u G' _ k1 k2 H h Q q => by
    cases k1; cases k2
    exact ⟨rfl, q _ G' H (Gr.refl h) (by rw [v_str_eq]; rfl)⟩
theorem ev_neB {i j : Bool} (ha : Ev ta σ G i) (hb : Ev tb σ G j) : Ev (tOp rNe ta tb) σ G (!decide (i = j)) :=
  ev2 ha hb fun v u G' _ k1 k2 H h Q q => by
    cases k1; cases k2
    exact ⟨rfl, q _ G' H (Gr.refl h) (by rw [v_bl_eq]; rfl)⟩
theorem ev_neg (ha : Ev ta σ G i) : Ev (tUn (rU fun i => .int (-i)) ta) σ G (-i) := fun H h Q q => ha H h _ fun v G' H' g k => ⟨i, k, q _ G' H' g rfl⟩
/-! tests -/
theorem et_test {b : Bool} (h : Ev te σ G b) : EvT (tTest te) σ G b := fun H i Q q => h H i _ fun v G' H' g k => ⟨b, k, q G' H' g⟩
theorem et_B {b : Bool} (h : Ev te σ G b) : EvT (tB te) σ G b := fun H i Q q => h H i _ fun v G' H' g k => ⟨b, k, q G' H' g⟩
theorem et_yes : EvT tYes σ G true := fun H i Q q => q G H (Gr.refl i)
theorem et_not {b : Bool} (h : EvT tt σ G b) : EvT (tNot tt) σ G (!b) := fun H i Q q => h H i _ fun G' H' g => q G' H' g
theorem et_and {a b : Bool} (h1 : EvT tt σ G a) (h2 : a = true → EvT tu σ G b) : EvT (tAnd tt tu) σ G (a && b) := fun H i Q q => h1 H i _ fun G1 H1 g1 => by
  cases a with
  | true =>
    show tu σ H1 Q
    exact ((h2 rfl).mono g1.g) H1 g1.i Q fun G2 H2 g2 => q G2 H2 (g1.trans g2)
  | false =>
    show Q false H1
    exact q G1 H1 g1
theorem et_or {a b : Bool} (h1 : EvT tt σ G a) (h2 : a = false → EvT tu σ G b) : EvT (tOr tt tu) σ G (a || b) := fun H i Q q => h1 H i _ fun G1 H1 g1 => by
  cases a with
  | false =>
    show tu σ H1 Q
    exact ((h2 rfl).mono g1.g) H1 g1.i Q fun G2 H2 g2 => q G2 H2 (g1.trans g2)
  | true =>
    show Q true H1
    exact q G1 H1 g1
theorem ev_andV {a b : Bool} (h1 : Ev ta σ G a) (h2 : a = true → Ev tb σ G b) : Ev (tAndV ta tb) σ G (a && b) := fun H i Q q => h1 H i _ fun v G1 H1 g1 k1 => ⟨a, k1, by
  cases a with
  | true =>
    show tb σ H1 Q
    exact ((h2 rfl).mono g1.g) H1 g1.i Q fun v G2 H2 g2 k2 => q v G2 H2 (g1.trans g2) k2
  | false =>
    show Q (.bl false) H1
    exact q _ G1 H1 g1 rfl⟩
theorem ev_orV {a b : Bool} (h1 : Ev ta σ G a) (h2 : a = false → Ev tb σ G b) : Ev (tOrV ta tb) σ G (a || b) := fun H i Q q => h1 H i _ fun v G1 H1 g1 k1 => ⟨a, k1, by
  cases a with
  | false =>
    show tb σ H1 Q
    exact ((h2 rfl).mono g1.g) H1 g1.i Q fun v G2 H2 g2 k2 => q v G2 H2 (g1.trans g2) k2
  | true =>
    show Q (.bl true) H1
    exact q _ G1 H1 g1 rfl⟩
theorem ev_notV {a : Bool} (h1 : Ev ta σ G a) : Ev (tNotV ta) σ G (!a) := fun H i Q q => h1 H i _ fun v G1 H1 g1 k1 => ⟨a, k1, q _ G1 H1 g1 rfl⟩
theorem ev_if {b : Bool} {x y : α} (h : EvT tt σ G b) (h1 : b = true → Ev ta σ G x) (h2 : b = false → Ev tb σ G y) : Ev (tIf tt ta tb) σ G (if b = true then x else y) := fun H i Q q => h H i _ fun G1 H1 g1 => by
  cases b with
  | true =>
    show ta σ H1 Q
    exact ((h1 rfl).mono g1.g) H1 g1.i Q fun v G2 H2 g2 k2 => q v G2 H2 (g1.trans g2) k2
  | false =>
    show tb σ H1 Q
    exact ((h2 rfl).mono g1.g) H1 g1.i Q fun v G2 H2 g2 k2 => q v G2 H2 (g1.trans g2) k2
/-! a < b < c -/
/-! displays -/
theorem evs_nil : EvAs (α := α) tNil σ G [] := fun H i Q q => q [] G H (Gr.refl i) .nil
theorem evs_cons {tr : TA} {xs : List α} (ha : Ev ta σ G x) (hr : EvAs tr σ G xs) : EvAs (tCons ta tr) σ G (x :: xs) := fun H i Q q =>
  ha H i _ fun v G1 H1 g1 k1 => (hr.mono g1.g) H1 g1.i _ fun vs G2 H2 g2 k2 => q _ G2 H2 (g1.trans g2) (.cons (Rep.mono g2.g k1) k2)
/-- a new object that stays still -/
theorem gr_new {G H : Hp} {p : Addr} {o : HO} (i : Same G H) (np : H p = none) (nt : ∀ ps, o ≠ .tbl ps := by intro _ h; cases h) : Gr M0 G H (upd G p o) (upd H p o) :=
  ⟨fun a u e => by rw [upd_ne (fun z => by subst z; rw [i _ _ e] at np; cases np)]; exact e,
   fun a u e => by
     by_cases h : a = p
     · subst h; rw [upd_same] at e ⊢; exact e
     · rw [upd_ne h] at e ⊢; exact i a u e,
   SB.of fun a u e => by rw [upd_ne (ne_of_none e np)]; exact e,
   fun a u e => by
     by_cases h : a = p
     · subst h; rw [upd_same] at e; cases e; exact .inr ⟨.inl np, nt⟩
     · rw [upd_ne h] at e; exact .inl e⟩
theorem sl_small {n : Nat} (h : n ≤ 100000) : n ≤ sizeLine := Nat.le_trans h (by decide)
theorem sl_lt {n : Nat} (h : n < 100000) : n < sizeLine := Nat.lt_of_lt_of_le h (by decide)
theorem ev_lst {tr : TA} {xs : List α} (h : EvAs tr σ G xs) (hl : xs.length ≤ 100000) : Ev (tLst tr) σ G xs := fun H i Q q =>
  h H i _ fun vs G1 H1 g1 k1 => ⟨by rw [paired_len k1]; exact sl_small hl, fun p np => q _ (upd G1 p (.lst vs)) _ (g1.trans (gr_new g1.i np)) ⟨p, vs, rfl, upd_same, paired_mono (gr_new (o := .lst vs) g1.i np).g k1⟩⟩
theorem ev_tupn {tr : TA} {xs : List α} (h : EvAs tr σ G xs) (hl : xs.length ≤ 100000) : Ev (tTup tr) σ G (Tup.mk xs) := fun H i Q q =>
  h H i _ fun vs G1 H1 g1 k1 => ⟨by rw [paired_len k1]; exact sl_small hl, fun p np => q _ (upd G1 p (.tup vs)) _ (g1.trans (gr_new g1.i np)) ⟨p, vs, rfl, upd_same, paired_mono (gr_new (o := .tup vs) g1.i np).g k1⟩⟩
theorem ev_tup2 (ha : Ev ta σ G x) (hb : Ev tb σ G y) : Ev (tTup (tCons ta (tCons tb tNil))) σ G (x, y) := fun H i Q q =>
  ha H i _ fun v G1 H1 g1 k1 => (hb.mono g1.g) H1 g1.i _ fun u G2 H2 g2 k2 => ⟨by show 2 ≤ sizeLine; decide, fun p np =>
    q _ (upd G2 p (.tup [v, u])) _ ((g1.trans g2).trans (gr_new g2.i np)) ⟨p, v, u, rfl, upd_same, Rep.mono (g2.g.trans (gr_new g2.i np).g) k1, Rep.mono (gr_new g2.i np).g k2⟩⟩
theorem ev_tup3 (ha : Ev ta σ G x) (hb : Ev tb σ G y) (hc : Ev tc σ G z) : Ev (tTup (tCons ta (tCons tb (tCons tc tNil)))) σ G (Tri.mk x y z) := fun H i Q q =>
  ha H i _ fun v G1 H1 g1 k1 => (hb.mono g1.g) H1 g1.i _ fun u G2 H2 g2 k2 => (hc.mono (g1.g.trans g2.g)) H2 g2.i _ fun w G3 H3 g3 k3 => ⟨by show 3 ≤ sizeLine; decide, fun p np =>
    q _ (upd G3 p (.tup [v, u, w])) _ (((g1.trans g2).trans g3).trans (gr_new g3.i np)) ⟨p, v, u, w, rfl, upd_same, Rep.mono (g2.g.trans (g3.g.trans (gr_new g3.i np).g)) k1, Rep.mono (g3.g.trans (gr_new g3.i np).g) k2, Rep.mono (gr_new g3.i np).g k3⟩⟩
end
end Pf

namespace Pf
open PySem PySem.Spec PyProof.Rows L2

/-! ### changes of what is not still -/
theorem Gr.mut {M : Addr → Prop} {Ge He G H : Hp} {p : Addr} {o : HO} (x : Gr M Ge He G H) (hp : He p = none ∨ M p) (hg : G p = none) : Gr M Ge He G (upd H p o) :=
  ⟨x.g, fun a u e => by rw [upd_ne (ne_of_none e hg)]; exact x.i a u e,
   fun a u m e => by
     have ne : a ≠ p := fun z => by
       subst z
       rcases hp with h | h
       · rw [h] at e; cases e
       · exact m h
     rw [upd_ne ne]; exact x.h a u m e, x.n⟩
theorem same_mut {G H : Hp} {p : Addr} {o : HO} (i : Same G H) (hg : G p = none) : Same G (upd H p o) := fun a u e => by rw [upd_ne (ne_of_none e hg)]; exact i a u e
theorem same_new {H : Hp} {p : Addr} (h : H p = none) {o : HO} : Same H (upd H p o) := fun b u q => by rw [upd_ne (ne_of_none q h)]; exact q
/-- what stands outside becomes still -/
theorem Gr.still {M : Addr → Prop} {Ge He G H : Hp} {p : Addr} {o : HO} (x : Gr M Ge He G H) (hp : He p = none) (hg : G p = none) (hh : H p = some o) (nt : ∀ ps, o ≠ .tbl ps := by intro _ h; cases h) : Gr M Ge He (upd G p o) H :=
  ⟨x.g.trans (same_new hg), fun a u e => by
     by_cases h : a = p
     · subst h; rw [upd_same] at e; cases e; exact hh
     · rw [upd_ne h] at e; exact x.i a u e,
   x.h, fun a u e => by
     by_cases h : a = p
     · subst h; rw [upd_same] at e; cases e; exact .inr ⟨.inl hp, nt⟩
     · rw [upd_ne h] at e; exact x.n a u e⟩
theorem same_still {G H : Hp} {p : Addr} {o : HO} (i : Same G H) (hh : H p = some o) : Same (upd G p o) H := fun a u e => by
  by_cases h : a = p
  · subst h; rw [upd_same] at e; cases e; exact hh
  · rw [upd_ne h] at e; exact i a u e
/-- kinds whose values do not lean on the heap -/
class Flat (α : Type) [Rep α] : Prop where
  any : ∀ {G G' : Hp} {v : V} {x : α}, rep G v x → rep G' v x
instance : Flat Int := ⟨fun h => h⟩
instance : Flat Bool := ⟨fun h => h⟩
instance : Flat Str := ⟨fun h => h⟩
instance : Flat Unit := ⟨fun h => h⟩
section
variable {α β γ δ ε ζ : Type} [Rep α] [Rep β] [Rep γ] [Rep δ] [Rep ε] [Rep ζ]
/-- a list that is still being made -/
def Ml (G H : Hp) (p : Addr) (xs : List α) : Prop := G p = none ∧ ∃ vs, H p = some (.lst vs) ∧ Paired (rep G) vs xs
theorem Ml.step {M : Addr → Prop} {G H G' H' : Hp} {p : Addr} {xs : List α} (m : Ml G H p xs) (g : Gr M G H G' H') (hp : ¬ M p) : Ml G' H' p xs := by
  obtain ⟨h1, vs, h2, h3⟩ := m
  exact ⟨g.out h1 h2, vs, g.h p _ hp h2, paired_mono g.g h3⟩
theorem Ml.step0 {G H G' H' : Hp} {p : Addr} {xs : List α} (m : Ml G H p xs) (g : Gr M0 G H G' H') : Ml G' H' p xs := m.step g (fun z => z)
theorem Ml.other {G H : Hp} {p q : Addr} {o : HO} {xs : List α} (m : Ml G H p xs) (ne : p ≠ q) : Ml G (upd H q o) p xs := by
  obtain ⟨h1, vs, h2, h3⟩ := m
  exact ⟨h1, vs, by rw [upd_ne ne]; exact h2, h3⟩
theorem Ml.sq {K : Fg} {G H : Hp} {p : Addr} {xs : List α} (m : Ml G H p xs) : ∃ vs, SqL K H p vs := by
  obtain ⟨_, vs, h, _⟩ := m
  exact ⟨vs, .inl (.inl h)⟩

variable {σ : L2.St} {G H G1 H1 : Hp} {te ta tb tc td tf : TE} {tt tu : TT} {x : α} {y : β} {z : γ} {r r' : R2} {K : Fg}
/-- an expression of a flat kind, over a heap of which more is taken as still -/
theorem Ev.flat [Flat α] {Q : VK} (h : Ev te σ G1 x) (i : Same G1 H) (g : Same G H) (k : ∀ v H', Gr M0 G H G H' → Same H H' → rep G v x → Q v H') : te σ H Q :=
  h H i Q fun v G' H' g' r => k v H' ⟨Same.refl G, g.trans g'.same, g'.h, fun _ _ e => .inl e⟩ g'.same (Flat.any r)
theorem EvT.flat {b : Bool} {Q : Bool → Hp → Prop} (h : EvT tt σ G1 b) (i : Same G1 H) (g : Same G H) (k : ∀ H', Gr M0 G H G H' → Same H H' → Q b H') : tt σ H Q :=
  h H i Q fun G' H' g' => k H' ⟨Same.refl G, g.trans g'.same, g'.h, fun _ _ e => .inl e⟩ g'.same
theorem Ml.rep {p : Addr} {xs : List α} (m : Ml G H p xs) (i : Same G H) : ∃ o, H p = some o ∧ Same G (upd G p o) ∧ Same (upd G p o) H ∧ Pf.rep (upd G p o) (.ref p) xs := by
  obtain ⟨h1, vs, h2, h3⟩ := m
  exact ⟨_, h2, same_new h1, same_still i h2, p, vs, rfl, upd_same, paired_mono (same_new h1) h3⟩

/-! ### subscripts, len -/
def ix [Inhabited α] (xs : List α) (i : Int) : α := (xs[i.toNat]?).getD default
theorem ix_nat [Inhabited α] {xs : List α} {n : Nat} {v : α} (h : xs[n]? = some v) : ix xs (n : Int) = v := by unfold ix; rw [Int.toNat_natCast, h]; rfl
theorem at_ix [Inhabited α] {vs : List V} {xs : List α} {i : Int} (p : Paired (Pf.rep G) vs xs) (h : 0 ≤ i ∧ i < xs.length) : ∃ v, atI vs i = some v ∧ Pf.rep G v (ix xs i) := by
  have hi : i.toNat < xs.length := by omega
  obtain ⟨v, h1, h2⟩ := paired_get p (List.getElem?_eq_getElem hi)
  refine ⟨v, ?_, ?_⟩
  · have e : i = ((i.toNat : Nat) : Int) := by omega
    rw [e]; exact atI_nat h1
  · unfold ix; rw [List.getElem?_eq_getElem hi]; exact h2
theorem ev_ixL [Inhabited α] {xs : List α} {i : Int} (ha : Ev ta σ G xs) (hb : Ev tb σ G i) (h : 0 ≤ i ∧ i < xs.length) : Ev (tOp (rIxL K) ta tb) σ G (ix xs i) :=
  ev2 ha hb fun v u G' _ k1 k2 H hh Q q => by
    obtain ⟨a, vs, rfl, h2, h3⟩ := k1
    cases k2
    obtain ⟨w, e1, e2⟩ := at_ix h3 h
    exact ⟨a, vs, i, w, rfl, rfl, .inl (.inl (hh _ _ h2)), e1, q w G' H (Gr.refl hh) e2⟩
theorem ev_ixT [Inhabited α] {xs : Tup α} {i : Int} (ha : Ev ta σ G xs) (hb : Ev tb σ G i) (h : 0 ≤ i ∧ i < xs.l.length) : Ev (tOp (rIxT K) ta tb) σ G (ix xs.l i) :=
  ev2 ha hb fun v u G' _ k1 k2 H hh Q q => by
    obtain ⟨a, vs, rfl, h2, h3⟩ := k1
    cases k2
    obtain ⟨w, e1, e2⟩ := at_ix h3 h
    exact ⟨a, vs, i, w, rfl, rfl, .inl (.inl (hh _ _ h2)), e1, q w G' H (Gr.refl hh) e2⟩
theorem ev_ixLast [Inhabited α] {xs : List α} (ha : Ev ta σ G xs) (hb : Ev tb σ G (-1 : Int)) (h : xs ≠ []) : Ev (tOp (rIxL K) ta tb) σ G (xs.getLastD default) :=
  ev2 ha hb fun v u G' _ k1 k2 H hh Q q => by
    obtain ⟨a, vs, rfl, h2, h3⟩ := k1
    cases k2
    have hl := paired_len h3
    have hx : xs.length ≠ 0 := fun e => h (List.length_eq_zero_iff.mp e)
    obtain ⟨w, e1, e2⟩ := paired_get h3 (i := xs.length - 1) (List.getElem?_eq_getElem (by omega))
    refine ⟨a, vs, -1, w, rfl, rfl, .inl (.inl (hh _ _ h2)), ?_, q w G' H (Gr.refl hh) ?_⟩
    · unfold atI ixN
      rw [if_neg (by decide), if_pos (by omega)]
      show vs[((-1 : Int) + vs.length).toNat]? = some w
      rw [show ((-1 : Int) + vs.length).toNat = xs.length - 1 by omega]
      exact e1
    · have e3 : xs.getLastD default = xs[xs.length - 1] := by
        rw [List.getLastD_eq_getLast?, List.getLast?_eq_getElem?, List.getElem?_eq_getElem (by omega)]
        rfl
      rw [e3]; exact e2
theorem ev_fst {x : α × β} (ha : Ev ta σ G x) : Ev (tOp (rIxT K) ta (tC (.int 0))) σ G x.1 := fun H i Q q => ha H i _ fun v G1 H1 g1 k1 => by
  obtain ⟨a, u, w, rfl, h2, h3, h4⟩ := k1
  exact ⟨a, [u, w], 0, u, rfl, rfl, .inl (.inl (g1.i _ _ h2)), rfl, q u G1 H1 g1 h3⟩
/-- a built-in of one argument, of two -/
theorem ev_B1 {r : List V → Hp → VK → Prop} (ha : Ev ta σ G x) (hr : ∀ v G' H, Same G G' → Same G' H → rep G' v x → ∀ Q : VK, (∀ w G2 H2, Gr M0 G' H G2 H2 → rep G2 w y → Q w H2) → r [v] H Q) : Ev (tCB r (tCons ta tNil)) σ G y := fun H i Q q =>
  ha H i _ fun v G1 H1 g1 k1 => hr v G1 H1 g1.g g1.i k1 Q fun w G2 H2 g2 k2 => q w G2 H2 (g1.trans g2) k2
theorem ev_B2 {r : List V → Hp → VK → Prop} (ha : Ev ta σ G x) (hb : Ev tb σ G y) (hr : ∀ v u G' H, Same G G' → Same G' H → rep G' v x → rep G' u y → ∀ Q : VK, (∀ w G2 H2, Gr M0 G' H G2 H2 → rep G2 w z → Q w H2) → r [v, u] H Q) : Ev (tCB r (tCons ta (tCons tb tNil))) σ G z := fun H i Q q =>
  ha H i _ fun v G1 H1 g1 k1 => (hb.mono g1.g) H1 g1.i _ fun u G2 H2 g2 k2 => hr v u G2 H2 (g1.g.trans g2.g) g2.i (Rep.mono g2.g k1) k2 Q fun w G3 H3 g3 k3 => q w G3 H3 ((g1.trans g2).trans g3) k3
abbrev rLen (K : Fg) : List V → Hp → VK → Prop := fun xs H Q => ∃ p ys, xs = [.ref p] ∧ (SqL K H p ys ∨ SqT K H p ys) ∧ Q (.int ys.length) H
theorem ev_lenL {xs : List α} (ha : Ev ta σ G xs) : Ev (tCB (rLen K) (tCons ta tNil)) σ G (xs.length : Int) := ev_B1 ha fun v G' H _ i k Q q => by
  obtain ⟨a, vs, rfl, h2, h3⟩ := k
  exact ⟨a, vs, rfl, .inl (.inl (.inl (i _ _ h2))), q _ G' H (Gr.refl i) (by rw [paired_len h3]; rfl)⟩
theorem ev_lenT {xs : Tup α} (ha : Ev ta σ G xs) : Ev (tCB (rLen K) (tCons ta tNil)) σ G (xs.l.length : Int) := ev_B1 ha fun v G' H _ i k Q q => by
  obtain ⟨a, vs, rfl, h2, h3⟩ := k
  exact ⟨a, vs, rfl, .inr (.inl (.inl (i _ _ h2))), q _ G' H (Gr.refl i) (by rw [paired_len h3]; rfl)⟩
theorem ev_sum {xs : List Int} (ha : Ev ta σ G xs) : Ev (tCB (rSum K) (tCons ta tNil)) σ G xs.sum := ev_B1 ha fun v G' H _ i k Q q => by
  obtain ⟨a, vs, rfl, h2, h3⟩ := k
  exact ⟨a, xs, rfl, .inl (.inl (by rw [← paired_ints h3]; exact i _ _ h2)), q _ G' H (Gr.refl i) rfl⟩
theorem ev_all {xs : List Bool} (ha : Ev ta σ G xs) : Ev (tCB (rAll K) (tCons ta tNil)) σ G (xs.all id) := ev_B1 ha fun v G' H _ i k Q q => by
  obtain ⟨a, vs, rfl, h2, h3⟩ := k
  exact ⟨a, xs, rfl, .inl (.inl (by rw [← paired_bls h3]; exact i _ _ h2)), q _ G' H (Gr.refl i) rfl⟩
theorem ev_any {xs : List Bool} (ha : Ev ta σ G xs) : Ev (tCB (rAny K) (tCons ta tNil)) σ G (xs.any id) := ev_B1 ha fun v G' H _ i k Q q => by
  obtain ⟨a, vs, rfl, h2, h3⟩ := k
  exact ⟨a, xs, rfl, .inl (.inl (by rw [← paired_bls h3]; exact i _ _ h2)), q _ G' H (Gr.refl i) rfl⟩
abbrev rAbs : List V → Hp → VK → Prop := fun xs H Q => ∃ i, xs = [.int i] ∧ Q (.int (if i < 0 then -i else i)) H
abbrev rMax2 : List V → Hp → VK → Prop := fun xs H Q => ∃ i j, xs = [.int i, .int j] ∧ Q (.int (if j > i then j else i)) H
abbrev rMin2 : List V → Hp → VK → Prop := fun xs H Q => ∃ i j, xs = [.int i, .int j] ∧ Q (.int (if j < i then j else i)) H
abbrev rInt1 : List V → Hp → VK → Prop := fun xs H Q => (∃ i, xs = [.int i] ∧ Q (.int i) H) ∨ ∃ k, xs = [.bl k] ∧ Q (.int (if k then 1 else 0)) H
theorem ev_abs {i : Int} (ha : Ev ta σ G i) : Ev (tCB rAbs (tCons ta tNil)) σ G (if i < 0 then -i else i) := ev_B1 ha fun v G' H _ h k Q q => ⟨i, by rw [rep_int k], q _ G' H (Gr.refl h) rfl⟩
theorem ev_max2 {i j : Int} (ha : Ev ta σ G i) (hb : Ev tb σ G j) : Ev (tCB rMax2 (tCons ta (tCons tb tNil))) σ G (if j > i then j else i) := ev_B2 ha hb fun v u G' H _ h k1 k2 Q q => ⟨i, j, by rw [rep_int k1, rep_int k2], q _ G' H (Gr.refl h) rfl⟩
theorem ev_min2 {i j : Int} (ha : Ev ta σ G i) (hb : Ev tb σ G j) : Ev (tCB rMin2 (tCons ta (tCons tb tNil))) σ G (if j < i then j else i) := ev_B2 ha hb fun v u G' H _ h k1 k2 Q q => ⟨i, j, by rw [rep_int k1, rep_int k2], q _ G' H (Gr.refl h) rfl⟩
theorem ev_intB {b : Bool} (ha : Ev ta σ G b) : Ev (tCB rInt1 (tCons ta tNil)) σ G (if b = true then (1 : Int) else 0) := ev_B1 ha fun v G' H _ h k Q q => .inr ⟨b, by rw [rep_bl k], q _ G' H (Gr.refl h) rfl⟩
abbrev rTupOf (K : Fg) : List V → Hp → VK → Prop := fun xs H Q => ∃ p ys, xs = [.ref p] ∧ ((SqL K H p ys ∧ ∀ l, H l = none → Q (.ref l) (upd H l (.tup ys))) ∨ (SqT K H p ys ∧ Q (.ref p) H))
abbrev rListOf (K : Fg) : List V → Hp → VK → Prop := fun xs H Q => ∃ p ys, xs = [.ref p] ∧ (SqL K H p ys ∨ SqT K H p ys) ∧ ∀ l, H l = none → Q (.ref l) (upd H l (.lst ys))
theorem ev_tupleL {xs : List α} (ha : Ev ta σ G xs) : Ev (tCB (rTupOf K) (tCons ta tNil)) σ G (Tup.mk xs) := ev_B1 ha fun v G' H _ i k Q q => by
  obtain ⟨a, vs, rfl, h2, h3⟩ := k
  exact ⟨a, vs, rfl, .inl ⟨.inl (.inl (i _ _ h2)), fun l nl => q _ (upd G' l (.tup vs)) _ (gr_new i nl) ⟨l, vs, rfl, upd_same, paired_mono (gr_new (o := .tup vs) i nl).g h3⟩⟩⟩
theorem ev_listT {xs : Tup α} (ha : Ev ta σ G xs) : Ev (tCB (rListOf K) (tCons ta tNil)) σ G xs.l := ev_B1 ha fun v G' H _ i k Q q => by
  obtain ⟨a, vs, rfl, h2, h3⟩ := k
  exact ⟨a, vs, rfl, .inr (.inl (.inl (i _ _ h2))), fun l nl => q _ (upd G' l (.lst vs)) _ (gr_new i nl) ⟨l, vs, rfl, upd_same, paired_mono (gr_new (o := .lst vs) i nl).g h3⟩⟩
theorem ev_catL {xs ys : List α} (ha : Ev ta σ G xs) (hb : Ev tb σ G ys) (hl : xs.length + ys.length ≤ 100000) : Ev (tOp rCat ta tb) σ G (xs ++ ys) :=
  ev2 ha hb fun v u G' _ k1 k2 H i Q q => by
    obtain ⟨a, vs, rfl, h2, h3⟩ := k1
    obtain ⟨b, us, rfl, h4, h5⟩ := k2
    exact ⟨a, b, vs, us, rfl, rfl, i _ _ h2, i _ _ h4, by rw [paired_len h3, paired_len h5]; exact sl_small hl, fun p np => q _ (upd G' p (.lst (vs ++ us))) _ (gr_new i np) ⟨p, _, rfl, upd_same, paired_mono (gr_new (o := .lst (vs ++ us)) i np).g (paired_app h3 h5)⟩⟩

/-! ### calls -/
def sp1 (pre : α → Prop) (f : α → β) : Sp := fun vs H Q _ => ∃ v x G, vs = [v] ∧ Same G H ∧ rep G v x ∧ pre x ∧ ∀ w G' H', Gr M0 G H G' H' → rep G' w (f x) → Q w H'
def sp2 (pre : α → β → Prop) (f : α → β → γ) : Sp := fun vs H Q _ => ∃ v x v2 x2 G, vs = [v, v2] ∧ Same G H ∧ rep G v x ∧ rep G v2 x2 ∧ pre x x2 ∧ ∀ w G' H', Gr M0 G H G' H' → rep G' w (f x x2) → Q w H'
def sp3 (pre : α → β → γ → Prop) (f : α → β → γ → δ) : Sp := fun vs H Q _ => ∃ v x v2 x2 v3 x3 G, vs = [v, v2, v3] ∧ Same G H ∧ rep G v x ∧ rep G v2 x2 ∧ rep G v3 x3 ∧ pre x x2 x3 ∧ ∀ w G' H', Gr M0 G H G' H' → rep G' w (f x x2 x3) → Q w H'
def sp4 (pre : α → β → γ → δ → Prop) (f : α → β → γ → δ → ε) : Sp := fun vs H Q _ => ∃ v x v2 x2 v3 x3 v4 x4 G, vs = [v, v2, v3, v4] ∧ Same G H ∧ rep G v x ∧ rep G v2 x2 ∧ rep G v3 x3 ∧ rep G v4 x4 ∧ pre x x2 x3 x4 ∧ ∀ w G' H', Gr M0 G H G' H' → rep G' w (f x x2 x3 x4) → Q w H'
variable {x2 : β} {x3 : γ} {x4 : δ} {x5 : ε}
theorem ev_call1 {pre : α → Prop} {f : α → β} (ha : Ev ta σ G x) (hp : pre x) : Ev (tCall (sp1 pre f) [] E0 (tCons ta tNil)) σ G (f x) := fun H i Q q =>
  ha H i _ fun v G1 H1 g1 k1 => ⟨v, x, G1, rfl, g1.i, k1, hp, fun w G' H' g k => q w G' H' (g1.trans g) k⟩
theorem ev_call2 {pre : α → β → Prop} {f : α → β → γ} (ha : Ev ta σ G x) (hb : Ev tb σ G x2) (hp : pre x x2) : Ev (tCall (sp2 pre f) [] E0 (tCons ta (tCons tb tNil))) σ G (f x x2) := fun H i Q q =>
  ha H i _ fun v G1 H1 g1 k1 => (hb.mono g1.g) H1 g1.i _ fun v2 G2 H2 g2 k2 => ⟨v, x, v2, x2, G2, rfl, g2.i, Rep.mono g2.g k1, k2, hp, fun w G' H' g k => q w G' H' ((g1.trans g2).trans g) k⟩
theorem ev_call3 {pre : α → β → γ → Prop} {f : α → β → γ → δ} (ha : Ev ta σ G x) (hb : Ev tb σ G x2) (hc : Ev tc σ G x3) (hp : pre x x2 x3) : Ev (tCall (sp3 pre f) [] E0 (tCons ta (tCons tb (tCons tc tNil)))) σ G (f x x2 x3) := fun H i Q q =>
  ha H i _ fun v G1 H1 g1 k1 => (hb.mono g1.g) H1 g1.i _ fun v2 G2 H2 g2 k2 => (hc.mono (g1.g.trans g2.g)) H2 g2.i _ fun v3 G3 H3 g3 k3 =>
    ⟨v, x, v2, x2, v3, x3, G3, rfl, g3.i, Rep.mono (g2.g.trans g3.g) k1, Rep.mono g3.g k2, k3, hp, fun w G' H' g k => q w G' H' (((g1.trans g2).trans g3).trans g) k⟩
theorem ev_call4 {pre : α → β → γ → δ → Prop} {f : α → β → γ → δ → ε} (ha : Ev ta σ G x) (hb : Ev tb σ G x2) (hc : Ev tc σ G x3) (hd : Ev td σ G x4) (hp : pre x x2 x3 x4) : Ev (tCall (sp4 pre f) [] E0 (tCons ta (tCons tb (tCons tc (tCons td tNil))))) σ G (f x x2 x3 x4) := fun H i Q q =>
  ha H i _ fun v G1 H1 g1 k1 => (hb.mono g1.g) H1 g1.i _ fun v2 G2 H2 g2 k2 => (hc.mono (g1.g.trans g2.g)) H2 g2.i _ fun v3 G3 H3 g3 k3 => (hd.mono ((g1.g.trans g2.g).trans g3.g)) H3 g3.i _ fun v4 G4 H4 g4 k4 =>
    ⟨v, x, v2, x2, v3, x3, v4, x4, G4, rfl, g4.i, Rep.mono ((g2.g.trans g3.g).trans g4.g) k1, Rep.mono (g3.g.trans g4.g) k2, Rep.mono g4.g k3, k4, hp, fun w G' H' g k => q w G' H' ((((g1.trans g2).trans g3).trans g4).trans g) k⟩
end

/-! ### a def of the text -/
structure Tx (K : Fg) (mg : Str → Option Value) (x : Str) (ps : List Str) (st : Stmt) : Prop where
  ex : ∃ f fd, Fun K x x st f fd ∧ Binds K fd ps [] ∧ mg x = some (.ref f)
structure Df (P : Program) (w : World) (K : Fg) (mg : Str → Option Value) (base : Heap) (k : Nat) (x : Str) (ps : List Str) (sp : Sp) : Prop where
  ex : ∃ f fd, FnOk P w K mg base CX0 k f fd ps sp ∧ Binds K fd ps [] ∧ PySem.W.keepIn K (.ref f) = true ∧ mg x = some (.ref f)
section
variable {P : Program} {w : World} {K : Fg} {mg : Str → Option Value} {base : Heap}
theorem Tx.ok {x : Str} {st : Stmt} {N ps : List Str} {k : Nat} {sp : Sp} (T : Tx K mg x ps st) (S : FnScope N ps (defScope st)) (len : ∀ vs H Q E, sp vs H Q E → vs.length = ps.length)
    (hbody : ∀ (cdv : Value) (f : Addr) (A : Around) (outer : List Env) (s : Shared) (H : Hp) (vs : List V) (Q : VK) (E : XK), Room k (A.deeper (envOfC x (defScope st) s.heap.objs.size f cdv)) → sp vs H Q E →
      ∃ t, PSs (cxOf CX0 P w K mg base N x (defScope st) f cdv A outer s H E).nox (defBody st) t ∧ t { nx := fun _ H' => Q .non H', rt := Q } (start N vs) H) : Df P w K mg base (k + 1) x ps sp := by
  obtain ⟨f, fd, F, b, m⟩ := T.ex
  exact ⟨f, fd, F.ok S len fun cdv A outer s H vs Q E hr h => hbody cdv f A outer s H vs Q E hr h, b, F.kp, m⟩
theorem Df.mono {j k : Nat} {x : Str} {ps : List Str} {sp : Sp} (D : Df P w K mg base j x ps sp) (h : j ≤ k) : Df P w K mg base k x ps sp := by
  obtain ⟨f, fd, F, r⟩ := D.ex
  exact ⟨f, fd, F.mono h, r⟩
theorem Df.imp {k : Nat} {x : Str} {ps : List Str} {sp sp' : Sp} (D : Df P w K mg base k x ps sp) (h : ∀ vs H Q E, sp' vs H Q E → sp vs H Q E) : Df P w K mg base k x ps sp' := by
  obtain ⟨f, fd, F, r⟩ := D.ex
  exact ⟨f, fd, F.imp h, r⟩
theorem pe_df {X : Cx} {j k : Nat} {x : Str} {ps : List Str} {sp : Sp} {p pos : Pos} {e : Expr} {es : List Expr} {t : TA} (D : Df X.prog X.w X.K X.mg X.base j x ps sp) (hr : Room k X.A) (le : j ≤ k) (hg : Gl X x)
    (ha : PA X (e :: es) t) (hdb : (x == ("__debug__" : Str)) = false := by decide) (he : starEach (e :: es) X.env = (false, eval e X.env) :: starEach es X.env := by rfl) (hpl : (backTo pos (starEach es X.env)).any (·.1) = false := by rfl) :
    PE X (.Call (.Name x p) (e :: es) [] pos) (tCall sp [] E0 t) := by
  obtain ⟨f, fd, F, b, kp, m⟩ := D.ex
  exact pe_call F (hr.mono le) hg m kp b .nil pass0 ha hdb he hpl
end
def Bl (mg : Str → Option Value) : Prop := ∀ x ∈ (["len", "range", "sum", "abs", "min", "max", "int", "bool", "str", "list", "tuple", "set", "dict", "sorted", "all", "any", "enumerate", "zip", "reversed", "isinstance", "divmod"] : List Str), mg x = none
end Pf

namespace Pf
open PySem PySem.Spec PyProof.Rows L2
section
variable {α β γ δ : Type} [Rep α] [Rep β] [Rep γ] [Rep δ]
/-! ### what is walked -/
structure ItOk (J : It) (G : Hp) (xs : List α) : Prop where
  go : ∀ k H, Same G H → k < xs.length → J.go k H
  stop : ∀ k H, Same G H → xs.length ≤ k → J.stop k H
  yld : ∀ k H v H' G1 x, Same G G1 → Same G1 H → J.yld k H v H' → xs[k]? = some x → ∃ G2, Gr M0 G1 H G2 H' ∧ rep G2 v x
def EvI (wi : TI) (σ : L2.St) (G : Hp) (xs : List α) : Prop := ∀ H, Same G H → ∀ R : It → Hp → Prop, (∀ J G' H', Gr M0 G H G' H' → ItOk J G' xs → R J H') → wi σ H R
variable {σ : L2.St} {G H G1 H1 : Hp} {te ta tb tc td tf : TE} {tt tu : TT} {x : α} {y : β} {z : γ} {K : Fg}
theorem ei_list {xs : List α} (h : Ev te σ G xs) : EvI (iList K te) σ G xs := fun H i R q => h H i _ fun v G' H' g k => by
  obtain ⟨a, vs, rfl, h2, h3⟩ := k
  refine ⟨a, rfl, ⟨vs, .inl (.inl (g.i _ _ h2))⟩, q _ G' H' g ⟨fun k H s l => ?_, fun k H s l => ?_, fun k H v H' G1 x s1 s2 y e => ?_⟩⟩
  · obtain ⟨v, e, _⟩ := paired_get h3 (List.getElem?_eq_getElem l)
    exact ⟨vs, v, .inl (.inl (s _ _ h2)), e⟩
  · exact ⟨vs, .inl (.inl (s _ _ h2)), by rw [paired_len h3]; exact l⟩
  · obtain ⟨rfl, y⟩ := y
    have e1 := y vs (.inl (.inl (s2 _ _ (s1 _ _ h2))))
    obtain ⟨x', e2, r⟩ := paired_get' h3 e1
    rw [e] at e2
    cases e2
    exact ⟨G1, Gr.refl s2, Rep.mono s1 r⟩
theorem ei_tup {xs : Tup α} (h : Ev te σ G xs) : EvI (iTup K te) σ G xs.l := fun H i R q => h H i _ fun v G' H' g k => by
  obtain ⟨a, vs, rfl, h2, h3⟩ := k
  refine ⟨a, rfl, ⟨vs, .inl (.inl (g.i _ _ h2))⟩, q _ G' H' g ⟨fun k H s l => ?_, fun k H s l => ?_, fun k H v H' G1 x s1 s2 y e => ?_⟩⟩
  · obtain ⟨v, e, _⟩ := paired_get h3 (List.getElem?_eq_getElem l)
    exact ⟨vs, v, .inl (.inl (s _ _ h2)), e⟩
  · exact ⟨vs, .inl (.inl (s _ _ h2)), by rw [paired_len h3]; exact l⟩
  · obtain ⟨rfl, y⟩ := y
    have e1 := y vs (.inl (.inl (s2 _ _ (s1 _ _ h2))))
    obtain ⟨x', e2, r⟩ := paired_get' h3 e1
    rw [e] at e2
    cases e2
    exact ⟨G1, Gr.refl s2, Rep.mono s1 r⟩
/-- lo, lo + 1 .. below hi -/
def rng (lo hi : Int) : List Int := (List.range (hi - lo).toNat).map fun (k : Nat) => lo + (k : Int)
theorem rng_len (lo hi : Int) : (rng lo hi).length = (hi - lo).toNat := by unfold rng; rw [List.length_map, List.length_range]
theorem rng_get {lo hi : Int} {k : Nat} {x : Int} (h : (rng lo hi)[k]? = some x) : x = lo + k ∧ k < (hi - lo).toNat := by
  unfold rng at h
  rw [List.getElem?_map] at h
  by_cases hk : k < (hi - lo).toNat
  · rw [List.getElem?_range hk] at h
    exact ⟨(Option.some.inj h).symm, hk⟩
  · rw [List.getElem?_eq_none (by rw [List.length_range]; omega)] at h
    cases h
theorem rng_at {lo hi : Int} {k : Nat} (h : k < (hi - lo).toNat) : (rng lo hi)[k]? = some (lo + k) := by
  unfold rng
  rw [List.getElem?_map, List.getElem?_range h]
  rfl
theorem rng_mem {lo hi x : Int} : x ∈ rng lo hi ↔ lo ≤ x ∧ x < hi := by
  unfold rng
  rw [List.mem_map]
  constructor
  · rintro ⟨k, hk, rfl⟩
    rw [List.mem_range] at hk
    omega
  · rintro ⟨h1, h2⟩
    exact ⟨(x - lo).toNat, by rw [List.mem_range]; omega, by omega⟩
theorem it_rng {lo hi : Int} {n : Nat} {G' : Hp} (e : n = (hi - lo).toNat) : ItOk (Itr lo n) G' (rng lo hi) := by
  subst e
  refine ⟨fun k H s l => ?_, fun k H s l => ?_, fun k H v H' G1 x s1 s2 y e => ?_⟩
  · rw [rng_len] at l; exact l
  · rw [rng_len] at l; exact l
  · obtain ⟨rfl, rfl⟩ := y
    obtain ⟨rfl, _⟩ := rng_get e
    exact ⟨G1, Gr.refl s2, rfl⟩
theorem ei_r1 {j : Int} (h : Ev ta σ G j) (b : -(2 ^ 62) ≤ j ∧ j < 2 ^ 62) : EvI (iRng1 (tCons ta tNil)) σ G (rng 0 j) := fun H i R q => h H i _ fun v G' H' g k =>
  ⟨j, by rw [rep_int k], b.1, b.2, q _ G' H' g (it_rng (by omega))⟩
theorem ei_r2 {i j : Int} (ha : Ev ta σ G i) (hb : Ev tb σ G j) (b : -(2 ^ 62) ≤ i ∧ i < 2 ^ 62 ∧ -(2 ^ 62) ≤ j ∧ j < 2 ^ 62) : EvI (iRng2 (tCons ta (tCons tb tNil))) σ G (rng i j) := fun H hi R q =>
  ha H hi _ fun v G1 H1 g1 k1 => (hb.mono g1.g) H1 g1.i _ fun u G2 H2 g2 k2 => ⟨i, j, by rw [rep_int k1, rep_int k2], b, q _ G2 H2 (g1.trans g2) (it_rng rfl)⟩
theorem EvI.cast {wi : TI} {xs ys : List α} (h : EvI wi σ G xs) (e : xs = ys) : EvI wi σ G ys := e ▸ h

/-! ### targets -/
def GB (g : TG) (v : V) (σ : L2.St) (G : Hp) (R : L2.St → Prop) : Prop := ∀ H, Same G H → ∀ Q : L2.St → Hp → Prop, (∀ σ2, R σ2 → Q σ2 H) → g v σ H Q
variable {g : TG} {v : V} {R : L2.St → Prop}
theorem gb_name {i : Nat} (h : R (σ.set i (some v))) : GB (gName i) v σ G R := fun H _ Q q => q _ h
theorem gb_pair {i j : Nat} (hv : rep G v (x, y)) (h : ∀ u w, rep G u x → rep G w y → R ((σ.set i (some u)).set j (some w))) : GB (gTup K 2 (gCons (gName i) (gCons (gName j) gNil))) v σ G R := fun H s Q q => by
  obtain ⟨a, u, w, rfl, h2, h3, h4⟩ := hv
  exact ⟨a, [u, w], rfl, .inl (.inl (s _ _ h2)), rfl, u, [w], rfl, w, [], rfl, rfl, q _ (h u w h3 h4)⟩
theorem gb_pair' {p : α × β} {i j : Nat} (hv : rep G v p) (h : ∀ u w, rep G u p.1 → rep G w p.2 → R ((σ.set i (some u)).set j (some w))) : GB (gTup K 2 (gCons (gName i) (gCons (gName j) gNil))) v σ G R := gb_pair (x := p.1) (y := p.2) hv h
/-! ### comprehensions -/
theorem ev_lcf {wi : TI} {vs : List Nat} {xs : List α} {p : α → Bool} {f : α → β} (hx : EvI wi σ G xs) (hl : xs.length ≤ 100000)
    (hb : ∀ x ∈ xs, ∀ v G1, Same G G1 → rep G1 v x → GB g v (wipe σ vs) G1 fun σ2 => wipe σ2 vs = wipe σ vs ∧ EvT tt σ2 G1 (p x) ∧ (p x = true → Ev te σ2 G1 (f x))) : Ev (tLc wi g tt te vs) σ G ((xs.filter p).map f) := fun H i Q q => by
  refine hx H i _ fun J G1 H1 g1 ok D nD => ?_
  have nG : G1 D = none := by
    cases e : G1 D with
    | none => rfl
    | some o => rw [g1.i _ _ e] at nD; cases nD
  refine ⟨fun k m H => m = xs.length - k ∧ k ≤ xs.length ∧ ∃ Gk, Gr M0 G1 H1 Gk H ∧ Ml Gk H D (((xs.take k).filter p).map f), ⟨_, rfl, Nat.zero_le _, G1, (Gr.refl g1.i).mut (.inl nD) nG, nG, [], upd_same, .nil⟩, ?_⟩
  rintro k m H2 ⟨rfl, hk, Gk, gk, ml⟩
  by_cases hlt : k < xs.length
  · refine .inr ⟨ok.go k H2 (gk.g.trans gk.i) hlt, fun H' => ∃ Gk, Gr M0 G1 H1 Gk H' ∧ Ml Gk H' D (((xs.take (k + 1)).filter p).map f), fun H' h' => ⟨xs.length - (k + 1), by omega, rfl, hlt, h'⟩, fun v H3 yl => ?_⟩
    have hxk : xs[k]? = some xs[k] := List.getElem?_eq_getElem hlt
    obtain ⟨G3, g3, r3⟩ := ok.yld k H2 v H3 Gk xs[k] gk.g gk.i yl hxk
    have g13 := gk.trans g3
    have et : ((xs.take (k + 1)).filter p).map f = ((xs.take k).filter p).map f ++ (if p xs[k] = true then [f xs[k]] else []) := by
      rw [List.take_add_one, hxk, List.filter_append, List.map_append]
      congr 1
      show ((([xs[k]] : List α)).filter p).map f = _
      by_cases hp : p xs[k] = true
      · rw [if_pos hp, List.filter_cons, if_pos hp]; rfl
      · rw [if_neg hp, List.filter_cons, if_neg hp]; rfl
    refine hb xs[k] (List.getElem_mem hlt) v G3 (g1.g.trans g13.g) r3 H3 g3.i _ fun σ2 ⟨hw, ht, he⟩ => ⟨hw, ?_⟩
    refine ht H3 g3.i _ fun G4 H4 g4 => ?_
    have ml4 := (ml.step0 g3).step0 g4
    refine ite2 (fun hp => ?_) (fun hp => ?_)
    · refine ((he hp).mono g4.g) H4 g4.i _ fun y G5 H5 g5 r5 => ?_
      have ml5 := ml4.step0 g5
      obtain ⟨n5, acc, e5, p5⟩ := ml5
      refine ⟨acc, e5, sl_lt ?_, G5, ((g13.trans g4).trans g5).mut (.inl nD) n5, n5, acc ++ [y], upd_same, ?_⟩
      · rw [paired_len p5, List.length_map]
        exact Nat.lt_of_le_of_lt (Nat.le_trans (List.length_filter_le _ _) (by rw [List.length_take]; exact Nat.min_le_left _ _)) (by omega)
      · rw [et, if_pos hp]
        exact paired_app p5 (.cons r5 .nil)
    · refine ⟨G4, g13.trans g4, ?_⟩
      rw [et, if_neg hp, List.append_nil]
      exact ml4
  · have e : xs.take k = xs := List.take_of_length_le (by omega)
    rw [e] at ml
    obtain ⟨n5, acc, e5, p5⟩ := ml
    exact .inl ⟨ok.stop k H2 (gk.g.trans gk.i) (by omega), q _ (upd Gk D (.lst acc)) H2 (g1.trans (gk.still nD n5 e5)) ⟨D, acc, rfl, upd_same, paired_mono (same_new n5) p5⟩⟩
theorem ev_lc {wi : TI} {vs : List Nat} {xs : List α} {f : α → β} (hx : EvI wi σ G xs) (hl : xs.length ≤ 100000)
    (hb : ∀ x ∈ xs, ∀ v G1, Same G G1 → rep G1 v x → GB g v (wipe σ vs) G1 fun σ2 => wipe σ2 vs = wipe σ vs ∧ Ev te σ2 G1 (f x)) : Ev (tLc wi g tYes te vs) σ G (xs.map f) := by
  have h := ev_lcf (σ := σ) (G := G) (g := g) (tt := tYes) (te := te) (vs := vs) (p := fun _ => true) (f := f) hx hl fun x hx v G1 s r H i Q q => hb x hx v G1 s r H i Q fun σ2 ⟨h1, h2⟩ => q σ2 ⟨h1, et_yes, fun _ => h2⟩
  rw [List.filter_eq_self.mpr (fun _ _ => rfl)] at h
  exact h

/-! ### statements -/
variable {D : Ends} {ts tr : TS}
theorem st_set {i : Nat} (h : Ev te σ G x) (s : Same G H) (k : ∀ v G' H', Gr M0 G H G' H' → rep G' v x → D.nx (σ.set i (some v)) H') : tAsg te (gName i) D σ H := h H s _ k
theorem st_ret (h : Ev te σ G x) (s : Same G H) (k : ∀ v G' H', Gr M0 G H G' H' → rep G' v x → D.rt v H') : tRet te D σ H := h H s _ k
theorem st_if {b : Bool} (h : EvT tt σ G b) (s : Same G H) (k1 : b = true → ∀ G' H', Gr M0 G H G' H' → ts D σ H') (k2 : b = false → ∀ G' H', Gr M0 G H G' H' → tr D σ H') : tIfS tt ts tr D σ H :=
  h H s _ fun G' H' g => ite2 (fun e => k1 e G' H' g) (fun e => k2 (by simpa using e) G' H' g)
theorem st_pair {x : α × β} {i j : Nat} (h : Ev te σ G x) (s : Same G H) (k : ∀ u w G' H', Gr M0 G H G' H' → rep G' u x.1 → rep G' w x.2 → D.nx ((σ.set i (some u)).set j (some w)) H') :
    tAsg te (gTup K 2 (gCons (gName i) (gCons (gName j) gNil))) D σ H := h H s _ fun v G' H' g r => by
  obtain ⟨a, u, w, rfl, h2, h3, h4⟩ := r
  exact ⟨a, [u, w], rfl, .inl (.inl (g.i _ _ h2)), rfl, u, [w], rfl, w, [], rfl, rfl, k u w G' H' g h3 h4⟩
/-- xs.append(e), xs still being made -/
theorem st_append {i : Nat} {p : Addr} {xs : List α} (hv : σ[i]? = some (some (.ref p))) (m : Ml G H p xs) (h : Ev te σ G x) (s : Same G H) (hl : xs.length < 100000)
    (k : ∀ G' H' o, Gr M0 G H G' H' → Ml G' (upd H' p o) p (xs ++ [x]) → Same G' (upd H' p o) → D.nx σ (upd H' p o)) : tDrop (tBM K "list" rAppend (tVar i) (tCons te tNil)) D σ H := by
  refine ⟨.ref p, hv, .inl ⟨rfl, m.sq⟩, h H s _ fun v G' H' g r => ?_⟩
  obtain ⟨n, acc, e, pa⟩ := m.step0 g
  exact ⟨p, acc, v, rfl, rfl, e, sl_lt (by rw [paired_len pa]; exact hl), k G' H' _ g ⟨n, _, upd_same, paired_app pa (.cons r .nil)⟩ (same_mut g.i n)⟩
/-- a new list that is still being made -/
theorem st_newlist {i : Nat} {tr : TA} {xs : List α} (h : EvAs tr σ G xs) (s : Same G H) (hl : xs.length ≤ 100000) (k : ∀ p G' H' o, Gr M0 G H G' H' → H' p = none → Ml G' (upd H' p o) p xs → Same G' (upd H' p o) → D.nx (σ.set i (some (.ref p))) (upd H' p o)) :
    tAsg (tLst tr) (gName i) D σ H := h H s _ fun vs G1 H1 g1 k1 => ⟨by rw [paired_len k1]; exact sl_small hl, fun p np => by
      have nG : G1 p = none := by
        cases e : G1 p with
        | none => rfl
        | some o => rw [g1.i _ _ e] at np; cases np
      exact k p G1 H1 (.lst vs) g1 np ⟨nG, vs, upd_same, k1⟩ (same_mut g1.i nG)⟩
/-- for target in xs: .. -/
theorem st_for {wi : TI} {xs : List α} (P : Nat → L2.St → Hp → Hp → Prop) (hx : EvI wi σ G xs) (s : Same G H)
    (h0 : ∀ G' H', Gr M0 G H G' H' → P 0 σ G' H')
    (hs : ∀ k x v σ' G1 H1 G2 H2, xs[k]? = some x → Same G G1 → Same G1 H1 → P k σ' G1 H1 → Gr M0 G1 H1 G2 H2 → rep G2 v x →
      g v σ' H2 fun σ2 H3 => ts { D with nx := fun σ3 H3 => ∃ G3, Same G1 G3 ∧ Same G3 H3 ∧ P (k + 1) σ3 G3 H3, ct := fun σ3 H3 => ∃ G3, Same G1 G3 ∧ Same G3 H3 ∧ P (k + 1) σ3 G3 H3, bk := D.nx } σ2 H3)
    (hd : ∀ σ' G' H', Same G G' → Same G' H' → P xs.length σ' G' H' → D.nx σ' H') : tFor wi g ts D σ H := by
  refine hx H s _ fun J G1 H1 g1 ok => ?_
  refine ⟨fun k m σ' H' => m = xs.length - k ∧ k ≤ xs.length ∧ ∃ Gk, Same G1 Gk ∧ Same Gk H' ∧ P k σ' Gk H', ⟨_, rfl, Nat.zero_le _, G1, Same.refl G1, g1.i, h0 G1 H1 g1⟩, ?_⟩
  rintro k m σ' H2 ⟨rfl, hk, Gk, sg, sh, pk⟩
  by_cases hlt : k < xs.length
  · refine .inr ⟨ok.go k H2 (sg.trans sh) hlt, fun σ3 H3 => ∃ G3, Same Gk G3 ∧ Same G3 H3 ∧ P (k + 1) σ3 G3 H3, fun σ3 H3 h3 => ?_, fun v H3 yl => ?_⟩
    · obtain ⟨G3, e1, e2, e3⟩ := h3
      exact ⟨xs.length - (k + 1), by omega, rfl, hlt, G3, sg.trans e1, e2, e3⟩
    · obtain ⟨G3, g3, r3⟩ := ok.yld k H2 v H3 Gk xs[k] sg sh yl (List.getElem?_eq_getElem hlt)
      have z := hs k xs[k] v σ' Gk H2 G3 H3 (List.getElem?_eq_getElem hlt) (g1.g.trans sg) sh pk g3 r3
      exact z
  · have e : k = xs.length := by omega
    subst e
    exact .inl ⟨ok.stop _ H2 (sg.trans sh) (Nat.le_refl _), hd σ' Gk H2 (g1.g.trans sg) sh pk⟩
/-! .. with what follows -/
variable {u : TS}
theorem sq_set {i : Nat} (h : Ev te σ G x) (s : Same G H) (k : ∀ v G' H', Gr M0 G H G' H' → rep G' v x → u D (σ.set i (some v)) H') : tSeq (tAsg te (gName i)) u D σ H := h H s _ k
theorem sq_drop (h : Ev te σ G x) (s : Same G H) (k : ∀ G' H', Gr M0 G H G' H' → u D σ H') : tSeq (tDrop te) u D σ H := h H s _ fun _ G' H' g _ => k G' H' g
theorem sq_pair {x : α × β} {i j : Nat} (h : Ev te σ G x) (s : Same G H) (k : ∀ v w G' H', Gr M0 G H G' H' → rep G' v x.1 → rep G' w x.2 → u D ((σ.set i (some v)).set j (some w)) H') :
    tSeq (tAsg te (gTup K 2 (gCons (gName i) (gCons (gName j) gNil)))) u D σ H := st_pair (D := { D with nx := u D }) h s k
/-- an if that only leaves or goes on -/
theorem sq_ifn {b : Bool} (h : EvT tt σ G b) (s : Same G H) (k1 : b = true → ∀ G' H', Gr M0 G H G' H' → ts { D with nx := u D } σ H') (k2 : b = false → ∀ G' H', Gr M0 G H G' H' → u D σ H') : tSeq (tIfS tt ts tNext) u D σ H :=
  st_if (D := { D with nx := u D }) (tr := tNext) h s k1 k2
theorem sq_append {i : Nat} {p : Addr} {xs : List α} (hv : σ[i]? = some (some (.ref p))) (m : Ml G H p xs) (h : Ev te σ G x) (s : Same G H) (hl : xs.length < 100000)
    (k : ∀ G' H' o, Gr M0 G H G' H' → Ml G' (upd H' p o) p (xs ++ [x]) → Same G' (upd H' p o) → u D σ (upd H' p o)) : tSeq (tDrop (tBM K "list" rAppend (tVar i) (tCons te tNil))) u D σ H := st_append (D := { D with nx := u D }) hv m h s hl k
theorem sq_newlist {i : Nat} {tr : TA} {xs : List α} (h : EvAs tr σ G xs) (s : Same G H) (hl : xs.length ≤ 100000) (k : ∀ p G' H' o, Gr M0 G H G' H' → H' p = none → Ml G' (upd H' p o) p xs → Same G' (upd H' p o) → u D (σ.set i (some (.ref p))) (upd H' p o)) :
    tSeq (tAsg (tLst tr) (gName i)) u D σ H := st_newlist (D := { D with nx := u D }) h s hl k
theorem sq_for {wi : TI} {xs : List α} (P : Nat → L2.St → Hp → Hp → Prop) (hx : EvI wi σ G xs) (s : Same G H)
    (h0 : ∀ G' H', Gr M0 G H G' H' → P 0 σ G' H')
    (hs : ∀ k x v σ' G1 H1 G2 H2, xs[k]? = some x → Same G G1 → Same G1 H1 → P k σ' G1 H1 → Gr M0 G1 H1 G2 H2 → rep G2 v x →
      g v σ' H2 fun σ2 H3 => ts { nx := fun σ3 H3 => ∃ G3, Same G1 G3 ∧ Same G3 H3 ∧ P (k + 1) σ3 G3 H3, rt := D.rt, ct := fun σ3 H3 => ∃ G3, Same G1 G3 ∧ Same G3 H3 ∧ P (k + 1) σ3 G3 H3, bk := u D } σ2 H3)
    (hd : ∀ σ' G' H', Same G G' → Same G' H' → P xs.length σ' G' H' → u D σ' H') : tSeq (tFor wi g ts) u D σ H := st_for (D := { D with nx := u D }) P hx s h0 hs hd
theorem up_none {G H : Hp} (i : Same G H) {p : Addr} (h : H p = none) : G p = none := by
  cases e : G p with
  | none => rfl
  | some u => rw [i _ _ e] at h; cases h
theorem gn {i : Nat} {Q : L2.St → Hp → Prop} (h : Q (σ.set i (some v)) H) : gName i v σ H Q := h
theorem gp {x : α × β} {i j : Nat} {Q : L2.St → Hp → Prop} (r : rep G v x) (s : Same G H) (h : ∀ u w, rep G u x.1 → rep G w x.2 → Q ((σ.set i (some u)).set j (some w)) H) : gTup K 2 (gCons (gName i) (gCons (gName j) gNil)) v σ H Q := by
  obtain ⟨a, u, w, rfl, h2, h3, h4⟩ := r
  exact ⟨a, [u, w], rfl, .inl (.inl (s _ _ h2)), rfl, u, [w], rfl, w, [], rfl, rfl, h u w h3 h4⟩
theorem Ml.frz {M : Addr → Prop} {Ge He : Hp} {p : Addr} {xs : List α} (m : Ml G H p xs) (g : Gr M Ge He G H) (np : He p = none) : ∃ G', Gr M Ge He G' H ∧ Pf.rep G' (.ref p) xs ∧ Same G G' := by
  obtain ⟨n, vs, e, pa⟩ := m
  exact ⟨upd G p (.lst vs), g.still np n e, ⟨p, vs, rfl, upd_same, paired_mono (same_new n) pa⟩, same_new n⟩
end
end Pf

namespace Pf
open PySem PySem.Spec PyProof.Rows L2
/-! ### data of any kind -/
mutual
def RD (G : Hp) : PyData → V → Prop
  | .none, v => v = .non
  | .bool b, v => v = .bl b
  | .int i, v => v = .int i
  | .str x, v => v = .str x
  | .list ds, v => ∃ a vs, v = .ref a ∧ G a = some (.lst vs) ∧ RDs G ds vs
  | .tuple ds, v => ∃ a vs, v = .ref a ∧ G a = some (.tup vs) ∧ RDs G ds vs
  | .dict _, _ => False
def RDs (G : Hp) : List PyData → List V → Prop
  | [], vs => vs = []
  | d :: ds, vs => ∃ v r, vs = v :: r ∧ RD G d v ∧ RDs G ds r
end
mutual
theorem RD.mono {G G' : Hp} (e : Same G G') : ∀ (d : PyData) (v : V), RD G d v → RD G' d v
  | .none, _, h => h
  | .bool _, _, h => h
  | .int _, _, h => h
  | .str _, _, h => h
  | .list ds, _, ⟨a, vs, h1, h2, h3⟩ => ⟨a, vs, h1, e _ _ h2, RDs.mono e ds vs h3⟩
  | .tuple ds, _, ⟨a, vs, h1, h2, h3⟩ => ⟨a, vs, h1, e _ _ h2, RDs.mono e ds vs h3⟩
  | .dict _, _, h => h
theorem RDs.mono {G G' : Hp} (e : Same G G') : ∀ (ds : List PyData) (vs : List V), RDs G ds vs → RDs G' ds vs
  | [], _, h => h
  | d :: ds, _, ⟨v, r, h1, h2, h3⟩ => ⟨v, r, h1, RD.mono e d v h2, RDs.mono e ds r h3⟩
end
instance : Rep PyData := ⟨fun G v d => RD G d v, fun e h => RD.mono e _ _ h⟩
theorem rds_paired {G : Hp} : ∀ {ds : List PyData} {vs : List V}, RDs G ds vs → Paired (rep G) vs ds
  | [], _, h => by cases (show _ = [] from h); exact .nil
  | d :: ds, _, ⟨v, r, h1, h2, h3⟩ => by subst h1; exact .cons h2 (rds_paired h3)
instance : Inhabited PyData := ⟨.none⟩
class Dat (α : Type) [Rep α] where
  dat : α → PyData
  rd : ∀ {G : Hp} {v : V} {x : α}, rep G v x → RD G (dat x) v
  inj : ∀ {x y : α}, dat x = dat y → x = y
abbrev dat {α : Type} [Rep α] [Dat α] : α → PyData := Dat.dat
instance : Dat Int := ⟨.int, fun h => h, fun h => by injection h⟩
instance : Dat Bool := ⟨.bool, fun h => h, fun h => by injection h⟩
instance : Dat Str := ⟨.str, fun h => h, fun h => by injection h⟩
instance : Dat PyData := ⟨id, fun h => h, fun h => h⟩
theorem paired_dat {α : Type} [Rep α] [Dat α] {G : Hp} : ∀ {vs : List V} {xs : List α}, Paired (rep G) vs xs → RDs G (xs.map dat) vs
  | _, _, .nil => rfl
  | _, _, .cons r t => ⟨_, _, rfl, Dat.rd r, paired_dat t⟩
theorem map_dat_inj {α : Type} [Rep α] [Dat α] : ∀ {xs ys : List α}, xs.map dat = ys.map dat → xs = ys
  | [], [], _ => rfl
  | [], _ :: _, h => by cases h
  | _ :: _, [], h => by cases h
  | x :: xs, y :: ys, h => by
    injection h with h1 h2
    rw [Dat.inj h1, map_dat_inj h2]
instance {α : Type} [Rep α] [Dat α] : Dat (List α) := ⟨fun xs => .list (xs.map dat), fun ⟨a, vs, h1, h2, h3⟩ => ⟨a, vs, h1, h2, paired_dat h3⟩, fun h => by injection h with h; exact map_dat_inj h⟩
instance {α : Type} [Rep α] [Dat α] : Dat (Tup α) := ⟨fun xs => .tuple (xs.l.map dat), fun ⟨a, vs, h1, h2, h3⟩ => ⟨a, vs, h1, h2, paired_dat h3⟩, fun {x y} h => by
  injection h with h
  cases x; cases y
  exact congrArg Tup.mk (map_dat_inj h)⟩
instance {α β : Type} [Rep α] [Dat α] [Rep β] [Dat β] : Dat (α × β) := ⟨fun x => .tuple [dat x.1, dat x.2], fun ⟨a, u, w, h1, h2, h3, h4⟩ => ⟨a, [u, w], h1, h2, u, [w], rfl, Dat.rd h3, w, [], rfl, Dat.rd h4, rfl⟩, fun {x y} h => by
  injection h with h
  injection h with h1 h
  injection h with h2 h
  cases x; cases y
  exact congr (congrArg Prod.mk (Dat.inj h1)) (Dat.inj h2)⟩
instance {α β γ : Type} [Rep α] [Dat α] [Rep β] [Dat β] [Rep γ] [Dat γ] : Dat (Tri α β γ) := ⟨fun x => .tuple [dat x.a, dat x.b, dat x.c], fun ⟨a, u, w, z, h1, h2, h3, h4, h5⟩ => ⟨a, [u, w, z], h1, h2, u, [w, z], rfl, Dat.rd h3, w, [z], rfl, Dat.rd h4, z, [], rfl, Dat.rd h5, rfl⟩, fun {x y} h => by
  injection h with h
  injection h with h1 h
  injection h with h2 h
  injection h with h3 h
  cases x; cases y
  exact congr (congr (congrArg Tri.mk (Dat.inj h1)) (Dat.inj h2)) (Dat.inj h3)⟩
section
variable {α β γ : Type} [Rep α] [Rep β] [Rep γ] {σ : L2.St} {G : Hp} {te ta tb : TE} {x : α} {K : Fg}
theorem ev_dat [Dat α] (h : Ev te σ G x) : Ev te σ G (dat x) := fun H i Q q => h H i Q fun v G' H' g r => q v G' H' g (Dat.rd r)
/-! is None, isinstance -/
abbrev rIsN : R2 := fun x y H Q => y = .non ∧ Q (.bl (decide (x = .non))) H
def isNone : PyData → Bool
  | .none => true
  | _ => false
theorem rd_none {G : Hp} {d : PyData} {v : V} (h : RD G d v) : decide (v = .non) = isNone d := by
  cases d with
  | none => rw [show v = .non from h]; rfl
  | bool b => rw [show v = .bl b from h]; rfl
  | int b => rw [show v = .int b from h]; rfl
  | str b => rw [show v = .str b from h]; rfl
  | list ds => obtain ⟨a, vs, e, _⟩ := h; rw [e]; rfl
  | tuple ds => obtain ⟨a, vs, e, _⟩ := h; rw [e]; rfl
  | dict _ => exact h.elim
theorem ev_isN {d : PyData} (h : Ev ta σ G d) : Ev (tOp rIsN ta (tC .non)) σ G (isNone d) := fun H i Q q => h H i _ fun v G' H' g r => ⟨rfl, q _ G' H' g (by rw [rd_none r]; rfl)⟩
def tyD : PyData → String
  | .none => "NoneType"
  | .bool _ => "bool"
  | .int _ => "int"
  | .str _ => "str"
  | .list _ => "list"
  | .tuple _ => "tuple"
  | .dict _ => "dict"
theorem rd_ty {G H : Hp} {d : PyData} {v : V} (h : RD G d v) (i : Same G H) : TyX K H v (.type (tyD d)) := by
  cases d with
  | none => rw [show v = .non from h]; exact .base .non
  | bool b => rw [show v = .bl b from h]; exact .base (.bl b)
  | int b => rw [show v = .int b from h]; exact .base (.int b)
  | str b => rw [show v = .str b from h]; exact .base (.str b)
  | list ds => obtain ⟨a, vs, e, e2, _⟩ := h; rw [e]; exact .base (.lst (i _ _ e2))
  | tuple ds => obtain ⟨a, vs, e, e2, _⟩ := h; rw [e]; exact .base (.tup (i _ _ e2))
  | dict _ => exact h.elim
def isTy (T : String) (d : PyData) : Bool := tyD d == T || (tyD d == "bool" && T == "int")
abbrev tys : List String := ["NoneType", "bool", "int", "str", "list", "tuple", "dict"]
abbrev Tys : List String := ["bool", "int", "str", "list", "tuple"]
theorem kit_tab : ∀ t ∈ tys, ∀ T ∈ Tys, kitB t T = some (t == T || (t == "bool" && T == "int")) := by decide +kernel
theorem tyD_mem (d : PyData) : tyD d ∈ tys := by cases d <;> simp [tyD]
theorem kit_is (d : PyData) {T : String} (h : T ∈ Tys) : kitB (tyD d) T = some (isTy T d) := kit_tab _ (tyD_mem d) T h
theorem ev_isi {d : PyData} {T : String} (h : Ev ta σ G d) (hk : T ∈ Tys) : Ev (tCB (rIsi K) (tCons ta (tCons (tC (.ty T)) tNil))) σ G (isTy T d) := fun H i Q q => h H i _ fun v G' H' g r =>
  ⟨v, .ty T, _, _, isTy T d, rfl, .ty T, rd_ty r g.i, kit_ty (kit_is d hk), q _ G' H' g rfl⟩
theorem ev_isiT {d : PyData} {T U : String} (h : Ev ta σ G d) (h1 : T ∈ Tys) (h2 : U ∈ Tys) :
    Ev (tCB (rIsiT K) (tCons ta (tCons (tTup (tCons (tC (.ty T)) (tCons (tC (.ty U)) tNil))) tNil))) σ G (isTy T d || isTy U d) := fun H i Q q => h H i _ fun v G' H' g r => by
  refine ⟨by show 2 ≤ sizeLine; decide, fun p np => ?_⟩
  have g2 := gr_new (o := .tup [.ty T, .ty U]) g.i np
  refine ⟨v, p, [.ty T, .ty U], _, [.type T, .type U], isTy T d || isTy U d, rfl, upd_same, .cons (.ty T) (.cons (.ty U) .nil), rd_ty r (g.i.trans g2.same), ?_, q _ _ _ (g.trans g2) rfl⟩
  refine kitAny_cons (kit_ty (kit_is d h1)) (fun e => kitAny_cons (kit_ty (kit_is d h2)) (fun e2 => ?_) (fun e2 => ?_)) (fun e => ?_)
  · rw [e, e2]; exact kitAny_nil
  · rw [e2]; exact Bool.or_true _
  · rw [e]; rfl
theorem ev_eqD {d e : PyData} (ha : Ev ta σ G d) (hb : Ev tb σ G e) (b : Bool) (hs : ∀ G v u, RD G d v → RD G e u → scal v u = true ∧ decide (v = u) = b) : Ev (tOp rEq ta tb) σ G b :=
  ev2 ha hb fun v u G' _ k1 k2 H h Q q => by
    obtain ⟨h1, h2⟩ := hs G' v u k1 k2
    exact ⟨h1, q _ G' H (Gr.refl h) (by rw [h2]; rfl)⟩
def itemsD : PyData → List PyData
  | .list ds => ds
  | .tuple ds => ds
  | _ => []
def isSeq : PyData → Bool
  | .list _ => true
  | .tuple _ => true
  | _ => false
theorem ev_lenD {d : PyData} (h : Ev ta σ G d) (hs : isSeq d = true) : Ev (tCB (rLen K) (tCons ta tNil)) σ G ((itemsD d).length : Int) := ev_B1 h fun v G' H _ i k Q q => by
  cases d with
  | list ds =>
    obtain ⟨a, vs, rfl, h2, h3⟩ := k
    exact ⟨a, vs, rfl, .inl (.inl (.inl (i _ _ h2))), q _ G' H (Gr.refl i) (by rw [paired_len (rds_paired h3)]; rfl)⟩
  | tuple ds =>
    obtain ⟨a, vs, rfl, h2, h3⟩ := k
    exact ⟨a, vs, rfl, .inr (.inl (.inl (i _ _ h2))), q _ G' H (Gr.refl i) (by rw [paired_len (rds_paired h3)]; rfl)⟩
  | _ => cases hs
theorem ev_ixD {d : PyData} {n : Int} (ha : Ev ta σ G d) (hb : Ev tb σ G n) (hs : isSeq d = true) (h : 0 ≤ n ∧ n < (itemsD d).length) : Ev (tOp (rIx K) ta tb) σ G (ix (itemsD d) n) :=
  ev2 ha hb fun v u G' _ k1 k2 H hh Q q => by
    cases k2
    cases d with
    | list ds =>
      obtain ⟨a, vs, rfl, h2, h3⟩ := k1
      obtain ⟨w, e1, e2⟩ := at_ix (rds_paired h3) h
      exact .inl ⟨a, vs, n, w, rfl, rfl, .inl (.inl (hh _ _ h2)), e1, q w G' H (Gr.refl hh) e2⟩
    | tuple ds =>
      obtain ⟨a, vs, rfl, h2, h3⟩ := k1
      obtain ⟨w, e1, e2⟩ := at_ix (rds_paired h3) h
      exact .inr (.inl ⟨a, vs, n, w, rfl, rfl, .inl (.inl (hh _ _ h2)), e1, q w G' H (Gr.refl hh) e2⟩)
    | _ => cases hs
end
/-! ### data compared -/
def isDict : PyData → Bool
  | .dict _ => true
  | _ => false
def OkN : Nat → PyData → Prop
  | 0, d => isSeq d = false ∧ isDict d = false
  | n + 1, d => isDict d = false ∧ (itemsD d).length ≤ 100000 ∧ ∀ e ∈ itemsD d, OkN n e
theorem okN_flat (n : Nat) {d : PyData} (h : isSeq d = false) (h2 : isDict d = false) : OkN n d := by
  cases n with
  | zero => exact ⟨h, h2⟩
  | succ n =>
    have e : itemsD d = [] := by cases d <;> first | rfl | cases h
    exact ⟨h2, by rw [e]; decide, fun x hx => by rw [e] at hx; cases hx⟩
theorem okN_str (n : Nat) (i : Str) : OkN n (dat i) := okN_flat n rfl rfl
theorem okN_list {α : Type} [Rep α] [Dat α] {n : Nat} {xs : List α} (h : xs.length ≤ 100000) (k : ∀ x ∈ xs, OkN n (dat x)) : OkN (n + 1) (dat xs) :=
  ⟨rfl, by show (xs.map dat).length ≤ _; rw [List.length_map]; exact h, fun e he => by
    obtain ⟨x, hx, rfl⟩ := List.mem_map.mp (show e ∈ xs.map dat from he)
    exact k x hx⟩
/-- found, due -/
def alikeN : Nat → PyData → PyData → Bool
  | _, .none, .none => true
  | _, .bool c, .bool b => decide (c = b)
  | _, .int c, .int b => decide (c = b)
  | _, .str c, .str b => decide (c = b)
  | n + 1, .list fs, .list ds => decide (fs.length = ds.length) && ((rng 0 ds.length).map fun k => alikeN n (ix fs k) (ix ds k)).all id
  | n + 1, .tuple fs, .tuple ds => decide (fs.length = ds.length) && ((rng 0 ds.length).map fun k => alikeN n (ix fs k) (ix ds k)).all id
  | _, _, _ => false
theorem all_rng {n : Nat} {f : Int → Bool} : ((rng 0 (n : Int)).map f).all id = true ↔ ∀ k : Nat, k < n → f (k : Int) = true := by
  rw [List.all_eq_true]
  constructor
  · intro h k hk
    exact h _ (List.mem_map.mpr ⟨(k : Int), rng_mem.mpr ⟨by omega, by omega⟩, rfl⟩)
  · intro h b hb
    obtain ⟨k, hk, rfl⟩ := List.mem_map.mp hb
    have hk := rng_mem.mp hk
    have e : k = ((k.toNat : Nat) : Int) := by omega
    rw [e]
    exact h k.toNat (by omega)
theorem ix_get {fs : List PyData} {k : Nat} (h : k < fs.length) : ix fs (k : Int) = fs[k] := ix_nat (List.getElem?_eq_getElem h)
theorem seq_iff {n : Nat} {fs ds : List PyData} (ih : ∀ f d, OkN n d → (alikeN n f d = true ↔ f = d)) (ok : ∀ e ∈ ds, OkN n e) :
    (decide (fs.length = ds.length) && ((rng 0 ds.length).map fun k => alikeN n (ix fs k) (ix ds k)).all id) = true ↔ fs = ds := by
  rw [Bool.and_eq_true, decide_eq_true_eq, all_rng]
  constructor
  · rintro ⟨h1, h2⟩
    refine List.ext_getElem h1 fun k hk1 hk2 => ?_
    have h := (ih _ _ (by rw [ix_get hk2]; exact ok _ (List.getElem_mem hk2))).mp (h2 k hk2)
    rw [ix_get hk1, ix_get hk2] at h
    exact h
  · rintro rfl
    exact ⟨rfl, fun k hk => (ih _ _ (by rw [ix_get hk]; exact ok _ (List.getElem_mem hk))).mpr rfl⟩
theorem alikeN_iff : ∀ (n : Nat) (f d : PyData), OkN n d → (alikeN n f d = true ↔ f = d)
  | n, f, .none, _ => by cases n <;> cases f <;> simp [alikeN]
  | n, f, .bool b, _ => by cases n <;> cases f <;> simp [alikeN]
  | n, f, .int b, _ => by cases n <;> cases f <;> simp [alikeN]
  | n, f, .str b, _ => by cases n <;> cases f <;> simp [alikeN]
  | 0, _, .list _, h => by cases h.1
  | 0, _, .tuple _, h => by cases h.1
  | n + 1, f, .list ds, h => by
    cases f with
    | list fs => rw [alikeN, seq_iff (ds := ds) (alikeN_iff n) h.2.2]; simp
    | _ => simp [alikeN]
  | n + 1, f, .tuple ds, h => by
    cases f with
    | tuple fs => rw [alikeN, seq_iff (ds := ds) (alikeN_iff n) h.2.2]; simp
    | _ => simp [alikeN]
  | 0, _, .dict _, h => by cases h.2
  | _ + 1, _, .dict _, h => by cases h.1
end Pf

namespace Pf
open PySem PySem.Spec PyProof.Rows L2
/-! ### the layer's rules with the written part as a letter -/
section
variable {X : Cx} {K : Fg}
theorem ix_listK (h : X.K = K) : IxR X (rIxL K) := h ▸ ix_list
theorem ix_tupK (h : X.K = K) : IxR X (rIxT K) := h ▸ ix_tup
theorem ix_seqK (h : X.K = K) : IxR X (rIx K) := h ▸ ix_seq
theorem sl_listK (h : X.K = K) : SlR X (rSlL K) := h ▸ sl_list
theorem call_lenK (h : X.K = K) : CallR X (.builtin "len") (rLen K) := h ▸ call_len_seq
theorem cr_allK (h : X.K = K) (hc : X.calm = true) : CallR X (.builtin "all") (rAll K) := h ▸ cr_all hc
theorem cr_anyK (h : X.K = K) (hc : X.calm = true) : CallR X (.builtin "any") (rAny K) := h ▸ cr_any hc
theorem call_isiKK (h : X.K = K) : CallR X (.builtin "isinstance") (rIsi K) := h ▸ call_isi
theorem call_isiTK (h : X.K = K) : CallR X (.builtin "isinstance") (rIsiT K) := h ▸ call_isiT
theorem call_listK (h : X.K = K) : CallR X (.type "list") (rListOf K) := h ▸ call_list_of
theorem call_tupleK (h : X.K = K) : CallR X (.type "tuple") (rTupOf K) := h ▸ call_tuple_of
theorem cr_sortedPOK (h : X.K = K) : CallR X (.builtin "sorted") (rSortedPO K) := h ▸ cr_sortedPO
theorem op_inDK (h : X.K = K) (hu : X.A.units + 65 < cLine) : OpR X (compareOp .In) (rInD K) := h ▸ op_inD hu
theorem op_notInDK (h : X.K = K) (hu : X.A.units + 65 < cLine) : OpR X (compareOp .NotIn) (rNotInD K) := h ▸ op_notInD hu
theorem op_eqDK (h : X.K = K) (hu : X.A.units + 64 < cLine) : OpR X (compareOp .Eq) (rEqD K) := h ▸ op_eqD hu
theorem op_neDK (h : X.K = K) (hu : X.A.units + 64 < cLine) : OpR X (compareOp .NotEq) (rNeD K) := h ▸ op_neD hu
theorem op_ltTK (h : X.K = K) (hu : X.A.units < cLine) : OpR X (compareOp .Lt) (rLtT K) := h ▸ op_ltT hu
theorem pi_listK {tg l : Expr} {tl : TE} (h : X.K = K) (hl : PE X l tl) : PI X tg l (iList K tl) := h ▸ pi_list hl
theorem pi_tupK {tg l : Expr} {tl : TE} (h : X.K = K) (hl : PE X l tl) : PI X tg l (iTup K tl) := h ▸ pi_tup hl
theorem pg_tupK {es : List Expr} {k : Nat} {t : TGs} {n : Nat} {pos : Pos} (h : X.K = K) (hp : PG X (.Tuple es k pos) (gTup X.K n t)) : PG X (.Tuple es k pos) (gTup K n t) := h ▸ hp
end
end Pf

namespace Pf
open PySem PySem.Spec PyProof.Rows L2
def rGetL (K : Fg) : V → V → Hp → VK → Prop := fun x y H Q => ∃ p xs i v, x = .ref p ∧ y = .int i ∧ SqL K H p xs ∧ 0 ≤ i ∧ atI xs i = some v ∧ Q v H
theorem get_listK {X : Cx} {K : Fg} (h : X.K = K) : PGet X (rGetL K) := by
  subst h
  intro pins s σ H x y v u Q I rx ry h
  obtain ⟨p, xs, i, z, rfl, rfl, hq, h0, he, q⟩ := h
  cases rx
  obtain ⟨t, rfl⟩ := ry
  obtain ⟨its, r, pl, hz⟩ := I.list hq
  obtain ⟨j, h1, h2, h3, h4, h5⟩ := atI_get he
  obtain ⟨w, ew, rw'⟩ := r.get h2
  have hl := r.length
  have hn := line63
  have fin : EP X pins σ Q w s := ⟨z, H, I, rw', q⟩
  have hj : i.toNat = j := by
    rw [seqIndex_of h0 h5] at h1
    exact Option.some.inj h1
  exact wpAny_getItem_list pl.isList h0 (by omega) (by rw [hj]; simpa using ew) fin
/-! ### the law's own bag -/
/-- a bag: its cells, a place, a rest, a salt -/
def Bag (G H : Hp) (b : Addr) : Prop := G b = none ∧ ∃ cv c1 c2 c3, ∃ cells : List Int, H b = some (.lst [cv, .int c1, .int c2, .int c3]) ∧ rep G cv cells ∧ 0 ≤ c1 ∧ 0 ≤ c2 ∧ 0 ≤ c3 ∧ (∀ x ∈ cells, 0 ≤ x)
abbrev Mb (b : Addr) : Addr → Prop := fun a => a = b
theorem Bag.step {M : Addr → Prop} {G H G' H' : Hp} {b : Addr} (x : Bag G H b) (g : Gr M G H G' H') (hb : ¬ M b) : Bag G' H' b := by
  obtain ⟨n, cv, c1, c2, c3, cells, e, r, h⟩ := x
  exact ⟨g.out n e, cv, c1, c2, c3, cells, g.h _ _ hb e, Rep.mono g.g r, h⟩
theorem Bag.step0 {G H G' H' : Hp} {b : Addr} (x : Bag G H b) (g : Gr M0 G H G' H') : Bag G' H' b := x.step g fun z => z
theorem Bag.other {G H : Hp} {b q : Addr} {o : HO} (x : Bag G H b) (ne : b ≠ q) : Bag G (upd H q o) b := by
  obtain ⟨n, cv, c1, c2, c3, cells, e, r, h⟩ := x
  exact ⟨n, cv, c1, c2, c3, cells, by rw [upd_ne ne]; exact e, r, h⟩
theorem Bag.up {G G' H : Hp} {b : Addr} (x : Bag G H b) (g : Same G G') (n : G' b = none) : Bag G' H b := by
  obtain ⟨_, cv, c1, c2, c3, cells, e, r, h⟩ := x
  exact ⟨n, cv, c1, c2, c3, cells, e, Rep.mono g r, h⟩
def spPull : Sp := fun vs H Q _ => ∃ b many G, vs = [.ref b, .int many] ∧ Same G H ∧ Bag G H b ∧ 0 < many ∧ many.natAbs.log2 < 9000 ∧ ∀ r H', 0 ≤ r → r < many → Gr (Mb b) G H G H' → Bag G H' b → Q (.int r) H'
def spBag (K : Fg) : Sp := fun vs H Q _ => ∃ (a : Addr) (ns : List Int) (G : Hp), vs = [.ref a] ∧ Same G H ∧ SqL K G a (ns.map V.int) ∧ ns.length ≤ 63 ∧ ∀ b G' H', Gr M0 G H G' H' → H b = none → Bag G' H' b → Q (.ref b) H'
section
variable {α : Type} [Rep α] {σ : L2.St} {G G1 H : Hp} {te ta tb : TE} {tt : TT} {x : α} {K : Fg} {D : Ends} {ts tr u : TS}
theorem ev_at {i : Nat} {p : Addr} {vs : List V} {n : Nat} {v : V} (hv : σ[i]? = some (some (.ref p))) (hp : G p = some (.lst vs)) (ha : vs[n]? = some v) (r : rep G v x) : Ev (tOp (rIxL K) (tVar i) (tC (.int n))) σ G x :=
  fun H h Q q => ⟨.ref p, hv, p, vs, n, v, rfl, rfl, .inl (.inl (h _ _ hp)), atI_nat ha, q v G H (Gr.refl h) r⟩
/-! what is read while more is taken as still -/
theorem sq_setF [Flat α] {i : Nat} (h : Ev te σ G1 x) (i1 : Same G1 H) (s : Same G H) (k : ∀ v H', Gr M0 G H G H' → Same H H' → rep G v x → u D (σ.set i (some v)) H') : tSeq (tAsg te (gName i)) u D σ H := h.flat i1 s k
theorem st_retF [Flat α] (h : Ev te σ G1 x) (i1 : Same G1 H) (s : Same G H) (k : ∀ v H', Gr M0 G H G H' → Same H H' → rep G v x → D.rt v H') : tRet te D σ H := h.flat i1 s k
theorem st_ifF {b : Bool} (h : EvT tt σ G1 b) (i1 : Same G1 H) (s : Same G H) (k1 : b = true → ∀ H', Gr M0 G H G H' → Same H H' → ts D σ H') (k2 : b = false → ∀ H', Gr M0 G H G H' → Same H H' → tr D σ H') : tIfS tt ts tr D σ H :=
  h.flat i1 s fun H' g e => ite2 (fun z => k1 z H' g e) (fun z => k2 (by simpa using z) H' g e)
theorem sq_ifF {b : Bool} (h : EvT tt σ G1 b) (i1 : Same G1 H) (s : Same G H) (k1 : b = true → ∀ H', Gr M0 G H G H' → Same H H' → ts { D with nx := u D } σ H') (k2 : b = false → ∀ H', Gr M0 G H G H' → Same H H' → tr { D with nx := u D } σ H') : tSeq (tIfS tt ts tr) u D σ H :=
  st_ifF (D := { D with nx := u D }) h i1 s k1 k2
/-- xs[n] = e -/
theorem sq_put [Flat α] {i n : Nat} {p : Addr} {vs : List V} (hv : σ[i]? = some (some (.ref p))) (hp : H p = some (.lst vs)) (hn : n < vs.length) (h : Ev te σ G1 x) (i1 : Same G1 H) (s : Same G H) (np : G p = none)
    (k : ∀ v H', Same H H' → Same G (upd H' p (.lst (vs.set n v))) → rep G v x → u D σ (upd H' p (.lst (vs.set n v)))) : tSeq (tAsg te (gSub (tVar i) (tC (.int n)) rSetL)) u D σ H :=
  h.flat i1 s fun v H' g e r => ⟨.ref p, hv, p, vs, n, n, rfl, rfl, e _ _ hp, by unfold ixN; rw [if_pos (by omega), if_pos (by omega)]; rfl, k v H' e (same_mut g.i np) r⟩
/-- xs[n] += k -/
theorem sq_up {i n : Nat} {p : Addr} {vs : List V} {a k : Int} (hv : σ[i]? = some (some (.ref p))) (hp : H p = some (.lst vs)) (hn : vs[n]? = some (.int a))
    (q : u D σ (upd H p (.lst (vs.set n (.int (a + k)))))) : tSeq (tAugS (tVar i) (tC (.int n)) (tC (.int k)) (rGetL K) (ipI fun i j => i + j) rSetL) u D σ H := by
  have hl : n < vs.length := by
    by_cases h : n < vs.length
    · exact h
    · rw [List.getElem?_eq_none (by omega)] at hn; cases hn
  exact ⟨.ref p, hv, p, vs, n, .int a, rfl, rfl, .inl (.inl hp), by omega, atI_nat hn, a, k, rfl, rfl, p, vs, n, n, rfl, rfl, hp, by unfold ixN; rw [if_pos (by omega), if_pos (by omega)]; rfl, q⟩
theorem sq_cut (Mid : L2.St → Hp → Prop) {H : Hp} (h1 : ts { D with nx := Mid } σ H) (h2 : ∀ σ' H', Mid σ' H' → u D σ' H') : C8.tCut ts u D σ H := ⟨Mid, h1, h2⟩
/-- the script, cut at 63 -/
theorem ev_script {i : Nat} {a : Addr} {ns : List Int} (hv : σ[i]? = some (some (.ref a))) (h : SqL K G a (ns.map V.int)) (hl : ns.length ≤ 63) : Ev (tSl (rSlL K) (tVar i) tNoPart (tPart (tC (.int 63)))) σ G ns := fun H s Q q => by
  refine ⟨.ref a, hv, 63, rfl, a, ns.map V.int, rfl, s.seq h, fun p np => ?_⟩
  have e : cutV (ns.map V.int) none (some 63) = ns.map V.int := by
    unfold cutV
    rw [HT.sIx_none, show HT.sIx (ns.map V.int).length (ns.map V.int).length (some 63) = min 63 (ns.map V.int).length from HT.sIx_nat _ _ 63, List.drop_zero, Nat.sub_zero]
    exact List.take_of_length_le (by rw [List.length_map]; omega)
  rw [e]
  exact q _ (upd G p (.lst (ns.map V.int))) _ (gr_new s np) ⟨p, _, rfl, upd_same, paired_of_ints ns⟩
end
theorem gr_bag {G H H' : Hp} {b : Addr} {o : HO} (g : Gr (Mb b) G H G H') (n : G b = none) : Gr (Mb b) G H G (upd H' b o) := g.mut (.inr rfl) n
theorem gr_b0 {G H H' : Hp} {b : Addr} (g : Gr M0 G H G H') : Gr (Mb b) G H G H' := g.wk
theorem gr_bt {G H H1 H2 : Hp} {b : Addr} (x : Gr (Mb b) G H G H1) (y : Gr (Mb b) G H1 G H2) (n : G b = none) : Gr (Mb b) G H G H2 := x.trans y fun a e => .inl (by cases e; exact n)
def spLaw (K : Fg) : Sp := fun vs H Q _ => ∃ (a : Addr) (ns : List Int), vs = [.ref a] ∧ SqL K H a (ns.map V.int) ∧ ns.length ≤ 63 ∧ ∀ H', Q (.bl true) H'
theorem rd_pull {σ : L2.St} {G H : Hp} {tm : TE} {i : Nat} {b : Addr} {many : Int} {E : XK} {Q : VK} (hv : σ[i]? = some (some (.ref b))) (s : Same G H) (bg : Bag G H b) (hm : Ev tm σ G many) (h0 : 0 < many) (hl : many.natAbs.log2 < 9000)
    (k : ∀ r H', 0 ≤ r → r < many → Gr (Mb b) G H G H' → Bag G H' b → Q (.int r) H') : tCall spPull [] E (tCons (tVar i) (tCons tm tNil)) σ H Q :=
  ⟨.ref b, hv, hm.flat s s fun v H1 g1 s1 r1 => ⟨b, many, G, by rw [rep_int r1]; rfl, g1.i, bg.step0 g1, h0, hl, fun r H' a1 a2 g2 b2 => k r H' a1 a2 (gr_bt (gr_b0 g1) g2 bg.1) b2⟩⟩
theorem sq_pull {σ : L2.St} {G H : Hp} {tm : TE} {i j : Nat} {b : Addr} {many : Int} {u : TS} {D : Ends} (hv : σ[i]? = some (some (.ref b))) (s : Same G H) (bg : Bag G H b) (hm : Ev tm σ G many) (h0 : 0 < many) (hl : many.natAbs.log2 < 9000)
    (k : ∀ r H', 0 ≤ r → r < many → Gr (Mb b) G H G H' → Bag G H' b → u D (σ.set j (some (.int r))) H') : tSeq (tAsg (tCall spPull [] E0 (tCons (tVar i) (tCons tm tNil))) (gName j)) u D σ H := rd_pull (E := E0) (Q := fun x H1 => gName j x σ H1 (u D)) hv s bg hm h0 hl k
theorem sq_pullAdd {σ : L2.St} {G H : Hp} {tm : TE} {i j : Nat} {b : Addr} {c many : Int} {u : TS} {D : Ends} (hv : σ[i]? = some (some (.ref b))) (s : Same G H) (bg : Bag G H b) (hm : Ev tm σ G many) (h0 : 0 < many) (hl : many.natAbs.log2 < 9000)
    (k : ∀ r H', 0 ≤ r → r < many → Gr (Mb b) G H G H' → Bag G H' b → u D (σ.set j (some (.int (c + r)))) H') : tSeq (tAsg (tOp (rI0 fun i j => .int (i + j)) (tC (.int c)) (tCall spPull [] E0 (tCons (tVar i) (tCons tm tNil)))) (gName j)) u D σ H :=
  rd_pull (E := E0) (Q := fun x H1 => rI0 (fun i j => .int (i + j)) (.int c) x H1 fun x H1 => gName j x σ H1 (u D)) hv s bg hm h0 hl fun r H' a1 a2 g b2 => ⟨c, r, rfl, rfl, k r H' a1 a2 g b2⟩
end Pf

namespace Pf
open PySem PySem.Spec PyProof.Rows L2
/-! ### pairs in order -/
abbrev ltI (p q : Int × Int) : Bool := SrtO.lexB p q
def insP (x : Int × Int) : List (Int × Int) → List (Int × Int)
  | [] => [x]
  | y :: r => if ltI y x = true then y :: insP x r else x :: y :: r
def sortP : List (Int × Int) → List (Int × Int)
  | [] => []
  | x :: r => insP x (sortP r)
theorem insP_perm (x : Int × Int) : ∀ l, (insP x l).Perm (x :: l)
  | [] => List.Perm.refl _
  | y :: r => by
    unfold insP
    split
    · exact ((insP_perm x r).cons y).trans (List.Perm.swap x y r)
    · exact List.Perm.refl _
theorem sortP_perm : ∀ l, (sortP l).Perm l
  | [] => List.Perm.refl _
  | x :: r => (insP_perm x (sortP r)).trans ((sortP_perm r).cons x)
theorem sortP_len (l : List (Int × Int)) : (sortP l).length = l.length := (sortP_perm l).length_eq
theorem ltI_tr {x y z : Int × Int} (h1 : ltI y x = false) (h2 : ltI z y = false) : ltI z x = false := by
  have a := SrtO.lexB_no.mp h1
  have b := SrtO.lexB_no.mp h2
  refine SrtO.lexB_no.mpr ?_
  omega
theorem ltI_as {x y : Int × Int} (h : ltI x y = true) : ltI y x = false := by
  have a := SrtO.lexB_iff.mp h
  refine SrtO.lexB_no.mpr ?_
  omega
theorem ltI_eq {x y : Int × Int} (h1 : ltI x y = false) (h2 : ltI y x = false) : x = y := by
  have a := SrtO.lexB_no.mp h1
  have b := SrtO.lexB_no.mp h2
  have e1 : x.1 = y.1 := by omega
  have e2 : x.2 = y.2 := by omega
  cases x; cases y
  exact congr (congrArg Prod.mk e1) e2
theorem insP_sorted (x : Int × Int) : ∀ l, SrtO.Srtd ltI l → SrtO.Srtd ltI (insP x l)
  | [], _ => List.pairwise_singleton _ _
  | y :: r, h => by
    obtain ⟨h1, h2⟩ := List.pairwise_cons.mp h
    unfold insP
    split
    · rename_i hy
      refine List.pairwise_cons.mpr ⟨fun z hz => ?_, insP_sorted x r h2⟩
      rcases List.mem_cons.mp ((insP_perm x r).mem_iff.mp hz) with e | e
      · subst e; exact ltI_as hy
      · exact h1 z e
    · rename_i hy
      have hy : ltI y x = false := by simpa using hy
      refine List.pairwise_cons.mpr ⟨fun z hz => ?_, h⟩
      rcases List.mem_cons.mp hz with e | e
      · subst e; exact hy
      · exact ltI_tr hy (h1 z e)
theorem sortP_sorted : ∀ l, SrtO.Srtd ltI (sortP l)
  | [] => List.Pairwise.nil
  | x :: r => insP_sorted x _ (sortP_sorted r)
theorem sorted_uniq : ∀ {l m : List (Int × Int)}, l.Perm m → SrtO.Srtd ltI l → SrtO.Srtd ltI m → l = m
  | [], m, p, _, _ => p.nil_eq
  | x :: l, [], p, _, _ => by cases p.symm.nil_eq
  | x :: l, y :: m, p, h1, h2 => by
    have e : x = y := by
      have hx := p.mem_iff.mp (List.mem_cons_self)
      have hy := p.symm.mem_iff.mp (List.mem_cons_self)
      rcases List.mem_cons.mp hx with e | e
      · exact e
      · rcases List.mem_cons.mp hy with e' | e'
        · exact e'.symm
        · exact ltI_eq ((List.pairwise_cons.mp h2).1 x e) ((List.pairwise_cons.mp h1).1 y e')
    subst e
    rw [sorted_uniq (List.Perm.cons_inv p) (List.pairwise_cons.mp h1).2 (List.pairwise_cons.mp h2).2]
theorem sortP_uniq {l m : List (Int × Int)} (p : l.Perm m) (h : SrtO.Srtd ltI l) : l = sortP m := sorted_uniq (p.trans (sortP_perm m).symm) h (sortP_sorted m)
/-- the pair that stands at a value -/
def keyAt (G : Hp) (v : V) : Int × Int := match v with
  | .ref t => match G t with
    | some (.tup [.int i, .int j]) => (i, j)
    | _ => (0, 0)
  | _ => (0, 0)
theorem keyAt_of {G : Hp} {v : V} {p : Int × Int} (h : rep G v p) : keyAt G v = p ∧ ∃ t, v = .ref t ∧ G t = some (.tup [.int p.1, .int p.2]) := by
  obtain ⟨t, u, w, rfl, h2, h3, h4⟩ := h
  cases h3; cases h4
  unfold keyAt
  exact ⟨by simp only [h2], t, rfl, h2⟩
theorem map_keyAt {G : Hp} : ∀ {vs : List V} {ps : List (Int × Int)}, Paired (rep G) vs ps → vs.map (keyAt G) = ps
  | _, _, .nil => rfl
  | _, _, .cons r t => by rw [List.map_cons, (keyAt_of r).1, map_keyAt t]
theorem paired_keyAt {G : Hp} : ∀ {vs : List V}, (∀ v ∈ vs, ∃ p : Int × Int, rep G v p) → Paired (rep G) vs (vs.map (keyAt G))
  | [], _ => .nil
  | v :: vs, h => by
    obtain ⟨p, hp⟩ := h v List.mem_cons_self
    refine .cons ?_ (paired_keyAt fun u hu => h u (List.mem_cons_of_mem _ hu))
    rw [(keyAt_of hp).1]; exact hp
theorem paired_mem {α : Type} [Rep α] {G : Hp} : ∀ {vs : List V} {xs : List α}, Paired (rep G) vs xs → ∀ v ∈ vs, ∃ x : α, rep G v x
  | _, _, .cons r t, v, h => by
    rcases List.mem_cons.mp h with e | e
    · subst e; exact ⟨_, r⟩
    · exact paired_mem t v e
section
variable {α β : Type} [Rep α] [Rep β] {σ : L2.St} {G H : Hp} {te ta tb : TE} {tt : TT} {x : α} {K : Fg} {D : Ends} {ts tr u : TS}
theorem ev_sortedP {ps : List (Int × Int)} (ha : Ev ta σ G ps) : Ev (tCB (rSortedPO K) (tCons ta tNil)) σ G (sortP ps) := ev_B1 ha fun v G' H _ i k Q q => by
  obtain ⟨a, vs, rfl, h2, h3⟩ := k
  refine ⟨a, vs, keyAt G', rfl, .inl (.inl (i _ _ h2)), fun x hx => ?_, fun ys p hs hb np => ?_⟩
  · obtain ⟨p, hp⟩ := paired_mem h3 x hx
    obtain ⟨e, t, e1, e2⟩ := keyAt_of hp
    exact ⟨t, e1, by rw [e]; exact i _ _ e2⟩
  · have hy : ∀ v ∈ ys, ∃ p : Int × Int, rep G' v p := fun v hv => paired_mem h3 v (hb.perm.mem_iff.mp hv)
    have hm : ys.map (keyAt G') = sortP ps := by
      refine sortP_uniq ?_ (List.pairwise_map.mpr hs)
      rw [← map_keyAt h3]
      exact hb.perm.map _
    refine q _ (upd G' p (.lst ys)) _ (gr_new i np) ⟨p, ys, rfl, upd_same, ?_⟩
    rw [← hm]
    exact paired_mono (gr_new (o := .lst ys) i np).g (paired_keyAt hy)
/-! ### at one heap -/
def EvH (te : TE) (σ : L2.St) (G H : Hp) (x : α) : Prop := ∀ Q : VK, (∀ v G' H', Gr M0 G H G' H' → rep G' v x → Q v H') → te σ H Q
def EvIH (wi : TI) (σ : L2.St) (G H : Hp) (xs : List α) : Prop := ∀ R : It → Hp → Prop, (∀ J G' H', Gr M0 G H G' H' → ItOk J G' xs → R J H') → wi σ H R
theorem Ev.at (h : Ev te σ G x) (s : Same G H) : EvH te σ G H x := h H s
theorem EvI.at {wi : TI} {xs : List α} (h : EvI wi σ G xs) (s : Same G H) : EvIH wi σ G H xs := h H s
theorem eih_list {xs : List α} (h : EvH te σ G H xs) : EvIH (iList K te) σ G H xs := fun R q => h _ fun v G' H' g k => by
  obtain ⟨a, vs, rfl, h2, h3⟩ := k
  refine ⟨a, rfl, ⟨vs, .inl (.inl (g.i _ _ h2))⟩, q _ G' H' g ⟨fun k H s l => ?_, fun k H s l => ?_, fun k H v H' G1 x s1 s2 y e => ?_⟩⟩
  · obtain ⟨v, e, _⟩ := paired_get h3 (List.getElem?_eq_getElem l)
    exact ⟨vs, v, .inl (.inl (s _ _ h2)), e⟩
  · exact ⟨vs, .inl (.inl (s _ _ h2)), by rw [paired_len h3]; exact l⟩
  · obtain ⟨rfl, y⟩ := y
    have e1 := y vs (.inl (.inl (s2 _ _ (s1 _ _ h2))))
    obtain ⟨x', e2, r⟩ := paired_get' h3 e1
    rw [e] at e2
    cases e2
    exact ⟨G1, Gr.refl s2, Rep.mono s1 r⟩
/-! ### a dict with pairs as keys, still being made -/
abbrev kk (p : Int × Int) : List Key := [Sum.inl p.1, Sum.inl p.2]
theorem kk_inj {p q : Int × Int} (h : kk p = kk q) : p = q := by
  injection h with h1 h
  injection h with h2 h
  cases p; cases q
  exact congr (congrArg Prod.mk (Sum.inl.inj h1)) (Sum.inl.inj h2)
def OptRep (G : Hp) (o : Option V) (m : Option α) : Prop := match m with
  | some x => ∃ v, o = some v ∧ rep G v x
  | none => o = none
def Md (G H : Hp) (d : Addr) (n : Nat) (m : Int × Int → Option α) : Prop := G d = none ∧ ∃ kvs, H d = some (.dT kvs) ∧ kvs.length ≤ n ∧ ∀ p, OptRep G (valV kvs (kk p)) (m p)
theorem OptRep.mono {G G' : Hp} (e : Same G G') {o : Option V} {m : Option α} (h : OptRep G o m) : OptRep G' o m := by
  cases m with
  | none => exact h
  | some x => obtain ⟨v, h1, h2⟩ := h; exact ⟨v, h1, Rep.mono e h2⟩
theorem Md.step {M : Addr → Prop} {G H G' H' : Hp} {d : Addr} {n : Nat} {m : Int × Int → Option α} (x : Md G H d n m) (g : Gr M G H G' H') (hp : ¬ M d) : Md G' H' d n m := by
  obtain ⟨h1, kvs, h2, h3, h4⟩ := x
  exact ⟨g.out h1 h2, kvs, g.h _ _ hp h2, h3, fun p => (h4 p).mono g.g⟩
theorem Md.step0 {G H G' H' : Hp} {d : Addr} {n : Nat} {m : Int × Int → Option α} (x : Md G H d n m) (g : Gr M0 G H G' H') : Md G' H' d n m := x.step g fun z => z
theorem Md.other {q d : Addr} {o : HO} {n : Nat} {m : Int × Int → Option α} (x : Md G H d n m) (ne : d ≠ q) : Md G (upd H q o) d n m := by
  obtain ⟨h1, kvs, h2, h⟩ := x
  exact ⟨h1, kvs, by rw [upd_ne ne]; exact h2, h⟩
theorem Md.up {G' : Hp} {d : Addr} {n : Nat} {m : Int × Int → Option α} (x : Md G H d n m) (g : Same G G') (nd : G' d = none) : Md G' H d n m := by
  obtain ⟨h1, kvs, h2, h3, h4⟩ := x
  exact ⟨nd, kvs, h2, h3, fun p => (h4 p).mono g⟩
theorem Md.cast {d : Addr} {n : Nat} {m m' : Int × Int → Option α} (x : Md G H d n m) (e : ∀ p, m p = m' p) : Md G H d n m' := by
  obtain ⟨h1, kvs, h2, h3, h4⟩ := x
  exact ⟨h1, kvs, h2, h3, fun p => by rw [← e p]; exact h4 p⟩
theorem st_retC {y : α} (h : Ev te σ G x) (s : Same G H) (e : x = y) (k : ∀ v G' H', Gr M0 G H G' H' → rep G' v y → D.rt v H') : tRet te D σ H := h H s _ fun v G' H' g r => k v G' H' g (e ▸ r)
end
end Pf

namespace Pf
open PySem PySem.Spec PyProof.Rows L2
/-! ### == of data -/
mutual
theorem rd_dp {K : Fg} {G H : Hp} (i : Same G H) : ∀ (d : PyData) (v : V), RD G d v → Dp K H v d
  | .none, v, h => by rw [show v = .non from h]; exact .non
  | .bool b, v, h => by rw [show v = .bl b from h]; exact .bl b
  | .int b, v, h => by rw [show v = .int b from h]; exact .int b
  | .str b, v, h => by rw [show v = .str b from h]; exact .str b
  | .list ds, v, ⟨a, vs, h1, h2, h3⟩ => by rw [h1]; exact .lst (.inl (.inl (i _ _ h2))) (rds_dp i ds vs h3)
  | .tuple ds, v, ⟨a, vs, h1, h2, h3⟩ => by rw [h1]; exact .tup (.inl (.inl (i _ _ h2))) (rds_dp i ds vs h3)
  | .dict _, v, h => h.elim
theorem rds_dp {K : Fg} {G H : Hp} (i : Same G H) : ∀ (ds : List PyData) (vs : List V), RDs G ds vs → DpAll K H vs ds
  | [], vs, h => by rw [show vs = [] from h]; exact .nil
  | d :: ds, _, ⟨v, r, h1, h2, h3⟩ => by rw [h1]; exact .cons (rd_dp i d v h2) (rds_dp i ds r h3)
end
/-- data that == tells apart as Lean does -/
class DatE (α : Type) [Rep α] [DecidableEq α] extends Dat α where
  ok : ∀ x : α, (dat x).canLay0 = true
  dp : Nat
  deep : ∀ x : α, (dat x).depth ≤ dp
  eq : ∀ x y : α, PyData.eqv (dat x) (dat y) = decide (x = y)
instance : DatE Int := { (inferInstance : Dat Int) with ok := fun _ => rfl, dp := 0, deep := fun _ => Nat.le_refl _, eq := fun x y => Bool.beq_eq_decide_eq x y }
section
variable {α β : Type} [Rep α] [DecidableEq α] [DatE α] [Rep β] [DecidableEq β] [DatE β]
theorem lay_map : ∀ xs : List α, PyData.canLayAll0 (xs.map dat) = true
  | [] => rfl
  | x :: xs => by rw [List.map_cons, PyData.canLayAll0, DatE.ok x, lay_map xs]; rfl
theorem deep_map : ∀ xs : List α, PyData.depthAll (xs.map dat) ≤ DatE.dp α
  | [] => Nat.zero_le _
  | x :: xs => by rw [List.map_cons, PyData.depthAll]; exact Nat.max_le.mpr ⟨DatE.deep x, deep_map xs⟩
theorem eq_map : ∀ xs ys : List α, PyData.eqvAll (xs.map dat) (ys.map dat) = decide (xs = ys)
  | [], [] => rfl
  | [], y :: ys => by rw [decide_eq_false (fun h => by cases h)]; rfl
  | x :: xs, [] => by rw [decide_eq_false (fun h => by cases h)]; rfl
  | x :: xs, y :: ys => by
    rw [List.map_cons, List.map_cons, PyData.eqvAll, DatE.eq x y, eq_map xs ys]
    by_cases h1 : x = y <;> by_cases h2 : xs = ys <;> simp [h1, h2]
end
instance {α : Type} [Rep α] [DecidableEq α] [DatE α] : DatE (List α) := { (inferInstance : Dat (List α)) with ok := fun xs => lay_map xs, dp := DatE.dp α + 1, deep := fun xs => Nat.succ_le_succ (deep_map xs), eq := fun xs ys => eq_map xs ys }
theorem tup_dec {α : Type} [DecidableEq α] (xs ys : Tup α) : decide (xs.l = ys.l) = decide (xs = ys) := by
  cases xs; cases ys
  simp
instance {α : Type} [Rep α] [DecidableEq α] [DatE α] : DatE (Tup α) := { (inferInstance : Dat (Tup α)) with ok := fun xs => lay_map xs.l, dp := DatE.dp α + 1, deep := fun xs => Nat.succ_le_succ (deep_map xs.l), eq := fun xs ys => (eq_map xs.l ys.l).trans (tup_dec xs ys) }
instance {α β : Type} [Rep α] [DecidableEq α] [DatE α] [Rep β] [DecidableEq β] [DatE β] : DatE (α × β) := { (inferInstance : Dat (α × β)) with
  ok := fun x => by
    show PyData.canLayAll0 [dat x.1, dat x.2] = true
    rw [PyData.canLayAll0, PyData.canLayAll0, PyData.canLayAll0, DatE.ok, DatE.ok]; rfl
  dp := max (DatE.dp α) (DatE.dp β) + 1
  deep := fun x => by
    show PyData.depthAll [dat x.1, dat x.2] + 1 ≤ _
    rw [PyData.depthAll, PyData.depthAll, PyData.depthAll]
    exact Nat.succ_le_succ (Nat.max_le.mpr ⟨Nat.le_trans (DatE.deep x.1) (Nat.le_max_left _ _), Nat.max_le.mpr ⟨Nat.le_trans (DatE.deep x.2) (Nat.le_max_right _ _), Nat.zero_le _⟩⟩)
  eq := fun x y => by
    show PyData.eqvAll [dat x.1, dat x.2] [dat y.1, dat y.2] = _
    rw [PyData.eqvAll, PyData.eqvAll, PyData.eqvAll, DatE.eq, DatE.eq]
    cases x; cases y
    simp }
theorem shaped_dat {α : Type} [Rep α] [DecidableEq α] [DatE α] (x : α) (h : DatE.dp α ≤ 64) : SeqAt.shaped (dat x) = true := by
  unfold SeqAt.shaped
  rw [DatE.ok x, decide_eq_true (Nat.le_trans (DatE.deep x) h)]; rfl
section
variable {α β γ : Type} [Rep α] [Rep β] [Rep γ] {σ : L2.St} {G H : Hp} {te ta tb : TE} {tt : TT} {x y : α} {K : Fg} {D : Ends} {ts tr u : TS}
theorem ev_neT [DecidableEq α] [DatE α] (ha : Ev ta σ G x) (hb : Ev tb σ G y) (h : DatE.dp α ≤ 64) : Ev (tOp (rNeD K) ta tb) σ G (!decide (x = y)) :=
  ev2 ha hb fun v u G' _ k1 k2 H i Q q => ⟨dat x, dat y, rd_dp i _ _ (Dat.rd k1), rd_dp i _ _ (Dat.rd k2), shaped_dat x h, shaped_dat y h, q _ G' H (Gr.refl i) (by rw [DatE.eq]; rfl)⟩
theorem any_dat [DecidableEq α] [DatE α] (x : α) : ∀ xs : List α, ((xs.map dat).any fun z => PyData.eqv z (dat x)) = decide (x ∈ xs)
  | [] => by simp
  | y :: ys => by
    rw [List.map_cons, List.any_cons, DatE.eq, any_dat x ys]
    by_cases h : y = x
    · subst h; simp
    · have h' : ¬ x = y := fun z => h z.symm
      simp [h, h']
theorem ev_inL [DecidableEq α] [DatE α] {xs : List α} (ha : Ev ta σ G x) (hb : Ev tb σ G xs) (h : DatE.dp α + 1 ≤ 64) : Ev (tOp (rInD K) ta tb) σ G (decide (x ∈ xs)) :=
  ev2 ha hb fun v u G' _ k1 k2 H i Q q => ⟨dat x, xs.map dat, rd_dp i _ _ (Dat.rd k1), rd_dp i _ _ (Dat.rd k2), shaped_dat x (by omega), shaped_dat xs h, q _ G' H (Gr.refl i) (by rw [any_dat]; rfl)⟩
/-! ### pairs by < -/
theorem lexLt_pair (p q : Int × Int) : HT.lexLt [p.1, p.2] [q.1, q.2] = ltI p q := by
  rw [HT.lexLt_cons, HT.lexLt_cons, HT.lexLt_nil_nil]
  unfold ltI SrtO.lexB
  by_cases h1 : p.1 = q.1
  · rw [if_pos h1, if_pos h1]
    by_cases h2 : p.2 = q.2
    · rw [if_pos h2, decide_eq_false (by omega)]
    · rw [if_neg h2]
  · rw [if_neg h1, if_neg h1]
theorem ev_ltP {p q : Int × Int} (ha : Ev ta σ G p) (hb : Ev tb σ G q) : Ev (tOp (rLtT K) ta tb) σ G (ltI p q) :=
  ev2 ha hb fun v u G' _ k1 k2 H i Q k => by
    obtain ⟨_, t1, rfl, e1⟩ := keyAt_of k1
    obtain ⟨_, t2, rfl, e2⟩ := keyAt_of k2
    exact ⟨t1, t2, [p.1, p.2], [q.1, q.2], rfl, rfl, .inl (.inl (i _ _ e1)), .inl (.inl (i _ _ e2)), k _ G' H (Gr.refl i) (by rw [lexLt_pair]; rfl)⟩
/-! ### tuples cut and put together -/
def cutI {ι : Type} (xs : List ι) (lo hi : Option Int) : List ι := (xs.drop (HT.sIx xs.length 0 lo)).take (HT.sIx xs.length xs.length hi - HT.sIx xs.length 0 lo)
theorem paired_cut {vs : List V} {xs : List α} (h : Paired (rep G) vs xs) (lo hi : Option Int) : Paired (rep G) (cutV vs lo hi) (cutI xs lo hi) := by
  unfold cutV cutI
  rw [paired_len h]
  exact paired_take _ (paired_drop _ h)
def EvO (to : TO) (σ : L2.St) (G : Hp) (o : Option Int) : Prop := ∀ H, Same G H → ∀ Q : Option Int → Hp → Prop, (∀ G' H', Gr M0 G H G' H' → Q o H') → to σ H Q
theorem eo_none : EvO tNoPart σ G none := fun H i Q q => q G H (Gr.refl i)
theorem eo_some {n : Int} (h : Ev te σ G n) : EvO (tPart te) σ G (some n) := fun H i Q q => h H i _ fun v G' H' g k => ⟨n, k, q G' H' g⟩
theorem EvO.mono {to : TO} {o : Option Int} {G1 : Hp} (h : EvO to σ G o) (e : Same G G1) : EvO to σ G1 o := fun H i Q q => h H (e.trans i) Q fun G' H' g => q (uni G' G1) H' (gr_up e i g)
theorem cut_whole {ι : Type} {xs : List ι} {lo hi : Option Int} (h : HT.sIx xs.length 0 lo = 0 ∧ HT.sIx xs.length xs.length hi = xs.length) : cutI xs lo hi = xs := by
  unfold cutI
  rw [h.1, h.2, List.drop_zero, Nat.sub_zero, List.take_length]
theorem ev_slT {xs : Tup α} {tl th : TO} {lo hi : Option Int} (ha : Ev ta σ G xs) (hl : EvO tl σ G lo) (hh : EvO th σ G hi) : Ev (tSl (rSlA K) ta tl th) σ G (Tup.mk (cutI xs.l lo hi)) := fun H i Q q =>
  ha H i _ fun v G1 H1 g1 k1 => (hl.mono g1.g) H1 g1.i _ fun G2 H2 g2 => (hh.mono (g1.g.trans g2.g)) H2 g2.i _ fun G3 H3 g3 => by
    obtain ⟨a, vs, rfl, h2, h3⟩ := k1
    have e3 := (g2.g.trans g3.g) _ _ h2
    have h3' := paired_mono (g2.g.trans g3.g) h3
    have g13 := (g1.trans g2).trans g3
    have hl := paired_len h3'
    refine ⟨a, vs, rfl, .inl (.inl (g3.i _ _ e3)), fun hw => ?_, fun hw p np => ?_⟩
    · rw [hl] at hw
      exact q _ G3 H3 g13 ⟨a, vs, rfl, e3, by rw [cut_whole hw]; exact h3'⟩
    · exact q _ (upd G3 p (.tup (cutV vs lo hi))) _ (g13.trans (gr_new g3.i np)) ⟨p, _, rfl, upd_same, paired_mono (gr_new (o := .tup (cutV vs lo hi)) g3.i np).g (paired_cut h3' lo hi)⟩
/-! ### zip of two tuples -/
theorem ei_zipT {xs : Tup α} {ys : Tup β} (ha : Ev ta σ G xs) (hb : Ev tb σ G ys) : EvI (RZ.iZipA K (tCons ta (tCons tb tNil))) σ G (xs.l.zip ys.l) := fun H i R q =>
  ha H i _ fun v G1 H1 g1 k1 => (hb.mono g1.g) H1 g1.i _ fun w G2 H2 g2 k2 => by
    obtain ⟨a, vs, rfl, h2, h3⟩ := k1
    obtain ⟨b, us, rfl, h4, h5⟩ := k2
    have h2' := g2.g _ _ h2
    have h3' := paired_mono g2.g h3
    refine ⟨a, b, vs, us, rfl, .inr ⟨.inl (.inl (g2.i _ _ h2')), .inl (.inl (g2.i _ _ h4)), q _ G2 H2 (g1.trans g2) ⟨fun k H s l => ?_, fun k H s l => ?_, fun k H v H' Ga x s1 s2 yl e => ?_⟩⟩⟩
    · rw [List.length_zip] at l
      obtain ⟨v1, e1, _⟩ := paired_get h3' (List.getElem?_eq_getElem (show k < xs.l.length by omega))
      obtain ⟨v2, e2, _⟩ := paired_get h5 (List.getElem?_eq_getElem (show k < ys.l.length by omega))
      exact ⟨vs, us, v1, v2, .inl (.inl (s _ _ h2')), .inl (.inl (s _ _ h4)), e1, e2⟩
    · rw [List.length_zip] at l
      have e1 := paired_len h3'
      have e2 := paired_len h5
      exact ⟨vs, us, .inl (.inl (s _ _ h2')), .inl (.inl (s _ _ h4)), by omega⟩
    · obtain ⟨T, x1, x2, rfl, nT, rfl, f1, f2⟩ := yl
      have e1 := f1 vs (.inl (.inl (s2 _ _ (s1 _ _ h2'))))
      have e2 := f2 us (.inl (.inl (s2 _ _ (s1 _ _ h4))))
      obtain ⟨z1, ez1, r1⟩ := paired_get' h3' e1
      obtain ⟨z2, ez2, r2⟩ := paired_get' h5 e2
      have ex : x = (z1, z2) := by
        rw [List.getElem?_zip_eq_some] at e
        obtain ⟨e3, e4⟩ := e
        rw [ez1] at e3
        rw [ez2] at e4
        cases x
        exact congr (congrArg Prod.mk (Option.some.inj e3).symm) (Option.some.inj e4).symm
      subst ex
      have gn := gr_new (o := .tup [x1, x2]) s2 nT
      exact ⟨upd Ga T (.tup [x1, x2]), gn, T, x1, x2, rfl, upd_same, Rep.mono (s1.trans gn.g) r1, Rep.mono (s1.trans gn.g) r2⟩
/-! ### a comprehension whose source has come -/
def LcK (g : TG) (tt : TT) (te : TE) (vs : List Nat) (σ : L2.St) (Q : VK) (J : It) (H1 : Hp) : Prop := ∀ D, H1 D = none → ∃ W : Nat → Nat → Hp → Prop, (∃ m, W 0 m (upd H1 D (.lst []))) ∧ ∀ i m H, W i m H →
  (J.stop i H ∧ Q (.ref D) H) ∨ (J.go i H ∧ ∃ Nx : Hp → Prop, (∀ H', Nx H' → ∃ m', m' < m ∧ W (i + 1) m' H') ∧ ∀ x H', J.yld i H x H' → g x (wipe σ vs) H' fun σ2 H2 => wipe σ2 vs = wipe σ vs ∧ tt σ2 H2 fun b H3 =>
    if b = true then te σ2 H3 fun y H4 => ∃ acc, H4 D = some (.lst acc) ∧ acc.length < sizeLine ∧ Nx (upd H4 D (.lst (acc ++ [y]))) else Nx H3)
theorem lc_rest {J : It} {g : TG} {vs : List Nat} {xs : List α} {p : α → Bool} {f : α → β} {H1 : Hp} {Q : VK} (ok : ItOk J G xs) (i : Same G H1) (hl : xs.length ≤ 100000)
    (hb : ∀ x ∈ xs, ∀ v G1, Same G G1 → rep G1 v x → GB g v (wipe σ vs) G1 fun σ2 => wipe σ2 vs = wipe σ vs ∧ EvT tt σ2 G1 (p x) ∧ (p x = true → Ev te σ2 G1 (f x)))
    (q : ∀ v G' H', Gr M0 G H1 G' H' → rep G' v ((xs.filter p).map f) → Q v H') : LcK g tt te vs σ Q J H1 := by
  have h := ev_lcf (wi := fun _ H R => R J H) (σ := σ) (G := G) (g := g) (tt := tt) (te := te) (vs := vs) (p := p) (f := f) (xs := xs) (fun H i R k => k J G H (Gr.refl i) ok) hl hb H1 i Q q
  exact h
theorem sq_lcw {wi : TI} {g : TG} {vs : List Nat} {i : Nat} (h : wi σ H (LcK g tt te vs σ fun x H1 => u D (σ.set i (some x)) H1)) : tSeq (tAsg (tLc wi g tt te vs) (gName i)) u D σ H := h
theorem itok_list {a : Addr} {vs : List V} {xs : List α} (h2 : G a = some (.lst vs)) (h3 : Paired (rep G) vs xs) : ItOk (Itl K a) G xs := by
  refine ⟨fun k H s l => ?_, fun k H s l => ?_, fun k H v H' G1 x s1 s2 y e => ?_⟩
  · obtain ⟨v, e, _⟩ := paired_get h3 (List.getElem?_eq_getElem l)
    exact ⟨vs, v, .inl (.inl (s _ _ h2)), e⟩
  · exact ⟨vs, .inl (.inl (s _ _ h2)), by rw [paired_len h3]; exact l⟩
  · obtain ⟨rfl, y⟩ := y
    have e1 := y vs (.inl (.inl (s2 _ _ (s1 _ _ h2))))
    obtain ⟨x', e2, r⟩ := paired_get' h3 e1
    rw [e] at e2
    cases e2
    exact ⟨G1, Gr.refl s2, Rep.mono s1 r⟩
end
end Pf

namespace Pf
open PySem PySem.Spec PyProof.Rows L2
section
variable {X : Cx} {K : Fg}
theorem sl_tupAK (h : X.K = K) : SlR X (rSlA K) := h ▸ sl_tupA
theorem pi_zipAK {tg it : Expr} {ta : TA} (h : X.K = K) (hz : PI X tg it (RZ.iZipA X.K ta)) : PI X tg it (RZ.iZipA K ta) := h ▸ hz
/-! ### a < b < c < d -/
def tChain3 (r r' r'' : R2) (ta tb tc td : TE) : TE := fun σ H Q => ta σ H fun x H1 => tb σ H1 fun y H2 => r x y H2 fun z H3 => ∃ k, z = .bl k ∧
  (if k = true then tc σ H3 fun w' H4 => r' y w' H4 fun z' H5 => ∃ k', z' = .bl k' ∧ (if k' = true then td σ H5 fun w'' H6 => r'' w' w'' H6 Q else Q (.bl false) H5) else Q (.bl false) H3)
theorem ite_y {A B : Prop} (h : A) : if true = true then A else B := by rw [if_pos rfl]; exact h
theorem ite_n {A B : Prop} (h : B) : if false = true then A else B := by rw [if_neg Bool.false_ne_true]; exact h
theorem pe_chain3 {op op' op'' : CmpOp} {r r' r'' : R2} {a b c d : Expr} {ta tb tc td : TE} {pos : Pos} (ho : OpR X (compareOp op) r) (ho' : OpR X (compareOp op') r') (ho'' : OpR X (compareOp op'') r'') (ha : PE X a ta) (hb : PE X b tb) (hc : PE X c tc) (hd : PE X d td)
    (hm : lastMarks [op, op', op''] [b, c, d] = false := by with_unfolding_all rfl) : PE X (.Compare a [op, op', op''] [b, c, d] pos) (tChain3 r r' r'' ta tb tc td) := by
  refine ⟨fun pins s σ H Q I h => ?_⟩
  refine Compare_chain (thn (ha.run pins s σ H _ I h) fun v s1 ⟨x, H1, I1, r1, q1⟩ => chain_link (thn (hb.run pins s1 σ H1 _ I1 q1) fun u s2 ⟨y, H2, I2, r2, q2⟩ =>
    thn (ho pins s2 σ H2 x y v u _ I2 r1 r2 q2) fun d1 s3 ⟨z, H3, I3, r3, k, e, q3⟩ => ?_)) hm
  subst e
  cases r3
  refine wpAny_truthy_bool ?_
  cases k with
  | false => exact ite_n ⟨.bl false, H3, I3, rfl, q3⟩
  | true =>
    refine ite_y (chain_link (thn (hc.run pins s3 σ H3 _ I3 q3) fun w4 s4 ⟨z4, H4, I4, r4, q4⟩ => thn (ho' pins s4 σ H4 y z4 u w4 _ I4 r2 r4 q4) fun d5 s5 ⟨z5, H5, I5, r5, k5, e5, q5⟩ => ?_))
    subst e5
    cases r5
    refine wpAny_truthy_bool ?_
    cases k5 with
    | false => exact ite_n ⟨.bl false, H5, I5, rfl, q5⟩
    | true => exact ite_y (chain_last (thn (hd.run pins s5 σ H5 _ I5 q5) fun w6 s6 ⟨z6, H6, I6, r6, q6⟩ => ho'' pins s6 σ H6 z4 z6 w4 w6 Q I6 r4 r6 q6))
end
section
variable {α β γ : Type} [Rep α] [Rep β] [Rep γ] {σ : L2.St} {G H : Hp} {te ta tb tc td : TE} {tt : TT} {K : Fg}
theorem ev_chain3I {i j k l : Int} (ha : Ev ta σ G i) (hb : Ev tb σ G j) (hc : Ev tc σ G k) (hd : Ev td σ G l) :
    Ev (tChain3 (rI0 fun i j => .bl (decide (i < j))) (rI0 fun i j => .bl (decide (i < j))) (rI0 fun i j => .bl (decide (i < j))) ta tb tc td) σ G (decide (i < j) && (decide (j < k) && decide (k < l))) := fun H s Q q =>
  ha H s _ fun v G1 H1 g1 k1 => (hb.mono g1.g) H1 g1.i _ fun u G2 H2 g2 k2 => ⟨i, j, k1, k2, decide (i < j), rfl, by
    have g12 := g1.trans g2
    cases e : decide (i < j) with
    | false => exact ite_n (q _ G2 H2 g12 (by rw [e]; rfl))
    | true =>
      refine ite_y ((hc.mono g12.g) H2 g2.i _ fun w G3 H3 g3 k3 => ⟨j, k, k2, k3, decide (j < k), rfl, ?_⟩)
      have g13 := g12.trans g3
      cases e2 : decide (j < k) with
      | false => exact ite_n (q _ G3 H3 g13 (by rw [e, e2]; rfl))
      | true => exact ite_y ((hd.mono g13.g) H3 g3.i _ fun w' G4 H4 g4 k4 => ⟨k, l, k3, k4, q _ G4 H4 (g13.trans g4) (by rw [e, e2]; rfl)⟩)⟩
theorem yes_y {σ : L2.St} {H : Hp} {A B : Hp → Prop} (h : A H) : tYes σ H fun b H3 => if b = true then A H3 else B H3 := ite_y (A := A H) (B := B H) h
/-! ### two for in one comprehension -/
theorem ev_lc2 {wi wi1 : TI} {g g1 : TG} {vs vs1 : List Nat} {xs : List α} {ys : α → List β} {f : α → β → γ} (hx : EvI wi σ G xs) (hl : (xs.flatMap fun x => (ys x).map (f x)).length ≤ 100000)
    (hb : ∀ x ∈ xs, ∀ v G1, Same G G1 → rep G1 v x → GB g v (wipe σ vs) G1 fun σ2 => wipe σ2 vs = wipe σ vs ∧ EvI wi1 σ2 G1 (ys x) ∧
      ∀ y ∈ ys x, ∀ v' G2, Same G1 G2 → rep G2 v' y → GB g1 v' (wipe σ2 vs1) G2 fun σ3 => wipe σ3 vs1 = wipe σ2 vs1 ∧ Ev te σ3 G2 (f x y)) :
    Ev (tLc2 wi g tYes wi1 g1 tYes te vs vs1) σ G (xs.flatMap fun x => (ys x).map (f x)) := fun H i Q q => by
  refine hx H i _ fun J G1 H1 g1' ok D nD => ?_
  have nG : G1 D = none := up_none g1'.i nD
  refine ⟨fun k m H => m = xs.length - k ∧ k ≤ xs.length ∧ ∃ Gk, Gr M0 G1 H1 Gk H ∧ Ml Gk H D ((xs.take k).flatMap fun x => (ys x).map (f x)), ⟨_, rfl, Nat.zero_le _, G1, (Gr.refl g1'.i).mut (.inl nD) nG, nG, [], upd_same, .nil⟩, ?_⟩
  rintro k m H2 ⟨rfl, hk, Gk, gk, ml⟩
  by_cases hlt : k < xs.length
  · have hxk : xs[k]? = some xs[k] := List.getElem?_eq_getElem hlt
    have etk : (xs.take (k + 1)).flatMap (fun x => (ys x).map (f x)) = (xs.take k).flatMap (fun x => (ys x).map (f x)) ++ (ys xs[k]).map (f xs[k]) := by
      rw [List.take_add_one, hxk, List.flatMap_append]
      congr 1
      show (ys xs[k]).map (f xs[k]) ++ [] = _
      exact List.append_nil _
    have epre : ((xs.take k).flatMap fun x => (ys x).map (f x)).length + (ys xs[k]).length ≤ 100000 := by
      have e1 : ((xs.take (k + 1)).flatMap fun x => (ys x).map (f x)).length ≤ (xs.flatMap fun x => (ys x).map (f x)).length := by
        conv => rhs; rw [← List.take_append_drop (k + 1) xs, List.flatMap_append, List.length_append]
        exact Nat.le_add_right _ _
      rw [etk, List.length_append, List.length_map] at e1
      omega
    refine .inr ⟨ok.go k H2 (gk.g.trans gk.i) hlt, fun H' => ∃ Gk, Gr M0 G1 H1 Gk H' ∧ Ml Gk H' D ((xs.take (k + 1)).flatMap fun x => (ys x).map (f x)), fun H' h' => ⟨xs.length - (k + 1), by omega, rfl, hlt, h'⟩, fun v H3 yl => ?_⟩
    obtain ⟨G3, g3, r3⟩ := ok.yld k H2 v H3 Gk xs[k] gk.g gk.i yl hxk
    have g13 := gk.trans g3
    refine hb xs[k] (List.getElem_mem hlt) v G3 (g1'.g.trans g13.g) r3 H3 g3.i _ fun σ2 ⟨hw, hi1, hb1⟩ => ⟨hw, yes_y ?_⟩
    refine hi1 H3 g3.i _ fun J1 G4 H4 g4 ok1 => ?_
    have ml4 := (ml.step0 g3).step0 g4
    refine ⟨fun j n H => n = (ys xs[k]).length - j ∧ j ≤ (ys xs[k]).length ∧ ∃ Gj, Same G4 Gj ∧ Gr M0 G1 H1 Gj H ∧ Ml Gj H D ((xs.take k).flatMap (fun x => (ys x).map (f x)) ++ ((ys xs[k]).take j).map (f xs[k])), ⟨_, rfl, Nat.zero_le _, G4, Same.refl _, g13.trans g4, ?_⟩, ?_⟩
    · rw [List.take_zero, List.map_nil, List.append_nil]; exact ml4
    · rintro j n H5 ⟨rfl, hj, Gj, sj, gj, mlj⟩
      by_cases hlj : j < (ys xs[k]).length
      · have hyj : (ys xs[k])[j]? = some (ys xs[k])[j] := List.getElem?_eq_getElem hlj
        refine .inr ⟨ok1.go j H5 (sj.trans gj.i) hlj, fun H' => ∃ Gj, Same G4 Gj ∧ Gr M0 G1 H1 Gj H' ∧ Ml Gj H' D ((xs.take k).flatMap (fun x => (ys x).map (f x)) ++ ((ys xs[k]).take (j + 1)).map (f xs[k])), fun H' h' => ⟨(ys xs[k]).length - (j + 1), by omega, rfl, hlj, h'⟩, fun v' H6 yl' => ?_⟩
        obtain ⟨G6, g6, r6⟩ := ok1.yld j H5 v' H6 Gj _ sj gj.i yl' hyj
        have s36 : Same G3 G6 := g4.g.trans (sj.trans g6.g)
        refine hb1 _ (List.getElem_mem hlj) v' G6 s36 r6 H6 g6.i _ fun σ3 ⟨hw3, he⟩ => ⟨hw3, yes_y ?_⟩
        refine he H6 g6.i _ fun y G7 H7 g7 r7 => ?_
        obtain ⟨n7, acc, e7, p7⟩ := (mlj.step0 g6).step0 g7
        refine ⟨acc, e7, sl_lt ?_, G7, sj.trans (g6.g.trans g7.g), ((gj.trans g6).trans g7).mut (.inl nD) n7, n7, acc ++ [y], upd_same, ?_⟩
        · rw [paired_len p7, List.length_append, List.length_map, List.length_take]; omega
        · rw [List.take_add_one, hyj, List.map_append, ← List.append_assoc]
          exact paired_app p7 (.cons r7 .nil)
      · have e : (ys xs[k]).take j = ys xs[k] := List.take_of_length_le (by omega)
        rw [e, ← etk] at mlj
        exact .inl ⟨ok1.stop j H5 (sj.trans gj.i) (by omega), Gj, gj, mlj⟩
  · have e : xs.take k = xs := List.take_of_length_le (by omega)
    rw [e] at ml
    obtain ⟨n5, acc, e5, p5⟩ := ml
    exact .inl ⟨ok.stop k H2 (gk.g.trans gk.i) (by omega), q _ (upd Gk D (.lst acc)) H2 (g1'.trans (gk.still nD n5 e5)) ⟨D, acc, rfl, upd_same, paired_mono (same_new n5) p5⟩⟩
end
end Pf

namespace Pf
open PySem PySem.Spec PyProof.Rows L2
abbrev Plan := Int × Tup (Int × Int)
def lawPair (a b : Int) : Int × Int := (if b < a then b else a, if b > a then b else a)
def planOf (F : Int) (row : List (Int × Int)) : Plan := (F, Tup.mk (sortP ((row.filter fun lh => decide (1 < lh.2 - lh.1)).map fun lh => lawPair lh.1 (lh.2 % F))))

def isCutM (faces low high : Int) : Bool := if (decide (low < 0) || decide (faces ≤ high)) = true then false else (decide (2 ≤ high - low) && !decide ((low, high) = (0, faces - 1)))
def risingM (cuts : List (Int × Int)) : Bool := ((cuts.zip (cuts.drop 1)).map fun oq => ltI oq.1 oq.2).all id
def crossingM (cuts : List (Int × Int)) : Bool := (cuts.flatMap fun a => cuts.map fun b => decide (a.1 < b.1) && (decide (b.1 < a.2) && decide (a.2 < b.2))).any id
def isPlanM (p : Plan) : Bool :=
  if (decide (p.1 < 3) || (decide (40 < p.1) || !decide ((p.2.l.length : Int) = p.1 - 3))) = true then false
  else if (!(p.2.l.map fun lh => isCutM p.1 lh.1 lh.2).all id) = true then false
  else risingM p.2.l && !crossingM p.2.l
theorem cut_drop1 (xs : List (Int × Int)) : cutI xs (some 1) none = xs.drop 1 := by
  unfold cutI
  rw [show HT.sIx xs.length 0 (some 1) = min 1 xs.length from HT.sIx_nat xs.length 0 1, HT.sIx_none]
  cases xs with
  | nil => rfl
  | cons x r =>
    rw [show min 1 (x :: r).length = 1 by
      rw [List.length_cons]
      omega]
    show (List.take ((x :: r).length - 1) r) = r
    rw [List.length_cons, Nat.add_sub_cancel]
    exact List.take_length
theorem flat_len {α β : Type} (xs : List α) (ys : List β) {γ : Type} (f : α → β → γ) : (xs.flatMap fun x => ys.map (f x)).length = xs.length * ys.length := by
  induction xs with
  | nil => simp
  | cons x r ih => rw [List.flatMap_cons, List.length_append, List.length_map, ih, List.length_cons, Nat.add_mul]; omega

/-- a way to cut the arc from s to e, as it is drawn -/
inductive CutT : Int → Int → List (Int × Int) → Prop
  | leaf {s e : Int} : e - s = 1 → CutT s e []
  | node {s m e : Int} {A B : List (Int × Int)} : s < m → m < e → CutT s m A → CutT m e B → CutT s e ((s, m) :: (m, e) :: (A ++ B))
theorem CutT.len {s e : Int} {A : List (Int × Int)} (h : CutT s e A) : (A.length : Int) = 2 * (e - s - 1) := by
  induction h with
  | leaf h => simp; omega
  | node h1 h2 _ _ ih1 ih2 => simp only [List.length_cons, List.length_append]; omega

/-! ### drawn plans are plans -/
theorem CutT.lt {s e : Int} {A : List (Int × Int)} (h : CutT s e A) : s < e := by
  cases h with
  | leaf h => omega
  | node h1 h2 _ _ => omega
theorem CutT.inside {s e : Int} {A : List (Int × Int)} (h : CutT s e A) : ∀ x ∈ A, s ≤ x.1 ∧ x.1 < x.2 ∧ x.2 ≤ e ∧ ¬ (x.1 = s ∧ x.2 = e) := by
  induction h with
  | leaf h => intro x hx; cases hx
  | @node s m e A B h1 h2 hA hB ih1 ih2 =>
    intro x hx
    rcases List.mem_cons.mp hx with rfl | hx
    · exact ⟨by show s ≤ s; omega, by show s < m; omega, by show m ≤ e; omega, by show ¬ (s = s ∧ m = e); omega⟩
    rcases List.mem_cons.mp hx with rfl | hx
    · exact ⟨by show s ≤ m; omega, by show m < e; omega, by show e ≤ e; omega, by show ¬ (m = s ∧ e = e); omega⟩
    rcases List.mem_append.mp hx with hx | hx
    · have := ih1 x hx; omega
    · have := ih2 x hx; omega
theorem CutT.nodup {s e : Int} {A : List (Int × Int)} (h : CutT s e A) : A.Nodup := by
  induction h with
  | leaf h => exact List.nodup_nil
  | @node s m e A B h1 h2 hA hB ih1 ih2 =>
    have i1 := hA.inside
    have i2 := hB.inside
    rw [List.nodup_cons, List.nodup_cons, List.nodup_append]
    refine ⟨fun z => ?_, fun z => ?_, ih1, ih2, fun x hx y hy e => ?_⟩
    · rcases List.mem_cons.mp z with e | z
      · injection e with e1 e2; omega
      rcases List.mem_append.mp z with z | z
      · have q := i1 _ z; exact q.2.2.2 ⟨rfl, rfl⟩
      · have q := i2 _ z; have q1 : m ≤ s := q.1; omega
    · rcases List.mem_append.mp z with z | z
      · have q := i1 _ z; have q1 : e ≤ m := q.2.2.1; omega
      · have q := i2 _ z; exact q.2.2.2 ⟨rfl, rfl⟩
    · subst e
      have := i1 _ hx
      have := i2 _ hy
      omega
theorem CutT.apart {s e : Int} {A : List (Int × Int)} (h : CutT s e A) : ∀ x ∈ A, ∀ y ∈ A, ¬ (x.1 < y.1 ∧ y.1 < x.2 ∧ x.2 < y.2) := by
  induction h with
  | leaf h => intro x hx; cases hx
  | @node s m e A B h1 h2 hA hB ih1 ih2 =>
    have i1 := hA.inside
    have i2 := hB.inside
    have c : ∀ x ∈ (s, m) :: (m, e) :: (A ++ B), (x.1 = s ∧ x.2 = m) ∨ (x.1 = m ∧ x.2 = e) ∨ (x ∈ A ∧ s ≤ x.1 ∧ x.1 < x.2 ∧ x.2 ≤ m) ∨ (x ∈ B ∧ m ≤ x.1 ∧ x.1 < x.2 ∧ x.2 ≤ e) := by
      intro x hx
      rcases List.mem_cons.mp hx with rfl | hx
      · exact .inl ⟨rfl, rfl⟩
      rcases List.mem_cons.mp hx with rfl | hx
      · exact .inr (.inl ⟨rfl, rfl⟩)
      rcases List.mem_append.mp hx with hx | hx
      · have := i1 x hx; exact .inr (.inr (.inl ⟨hx, by omega⟩))
      · have := i2 x hx; exact .inr (.inr (.inr ⟨hx, by omega⟩))
    intro x hx y hy
    rcases c x hx with hx | hx | ⟨hx, hx'⟩ | ⟨hx, hx'⟩ <;> rcases c y hy with hy | hy | ⟨hy, hy'⟩ | ⟨hy, hy'⟩ <;> first | omega | exact ih1 x hx y hy | exact ih2 x hx y hy
abbrev wideB (lh : Int × Int) : Bool := decide (1 < lh.2 - lh.1)
theorem CutT.wide {s e : Int} {A : List (Int × Int)} (h : CutT s e A) : ((A.filter wideB).length : Int) = if e - s = 1 then 0 else e - s - 2 := by
  induction h with
  | leaf h => rw [if_pos h]; rfl
  | @node s m e A B h1 h2 hA hB ih1 ih2 =>
    have l1 := hA.lt
    have l2 := hB.lt
    rw [if_neg (by omega), List.filter_cons, List.filter_cons, List.filter_append]
    have e1 : wideB (s, m) = decide (1 < m - s) := rfl
    have e2 : wideB (m, e) = decide (1 < e - m) := rfl
    rw [e1, e2]
    by_cases c1 : 1 < m - s <;> by_cases c2 : 1 < e - m <;> simp only [c1, c2, decide_true, decide_false, if_true, if_false, List.length_cons, List.length_append, Bool.false_eq_true] <;> (split at ih1 <;> split at ih2 <;> omega)
/-- a pair of the arc 1 .. n as a pair of corners -/
abbrev foldN (n : Int) (lh : Int × Int) : Int × Int := lawPair lh.1 (lh.2 % n)
theorem fold_lt {n : Int} {x : Int × Int} (h1 : 1 ≤ x.1) (h2 : x.1 < x.2) (h3 : x.2 < n) : foldN n x = x := by
  have e : x.2 % n = x.2 := Int.emod_eq_of_lt (by omega) h3
  unfold foldN lawPair
  rw [e, if_neg (by omega), if_pos (by omega)]
theorem fold_n {n : Int} {x : Int × Int} (h1 : 1 ≤ x.1) (h3 : x.2 = n) : foldN n x = (0, x.1) := by
  have e : x.2 % n = 0 := by rw [h3]; exact Int.emod_self
  unfold foldN lawPair
  rw [e, if_pos (by omega), if_neg (by omega)]
def cutsOf (n : Int) (A : List (Int × Int)) : List (Int × Int) := (A.filter wideB).map (foldN n)
theorem planOf_eq (n : Int) (A : List (Int × Int)) : planOf n A = (n, Tup.mk (sortP (cutsOf n A))) := rfl
theorem cuts_mem {n : Int} {A : List (Int × Int)} (h : CutT 1 n A) {c : Int × Int} (hc : c ∈ cutsOf n A) : (c ∈ A ∧ 1 ≤ c.1 ∧ 2 ≤ c.2 - c.1 ∧ c.2 < n) ∨ (c.1 = 0 ∧ (c.2, n) ∈ A ∧ 2 ≤ c.2 ∧ 2 ≤ n - c.2) := by
  obtain ⟨x, hx, rfl⟩ := List.mem_map.mp hc
  obtain ⟨hx1, hx2⟩ := List.mem_filter.mp hx
  have hx2 : 1 < x.2 - x.1 := of_decide_eq_true hx2
  have hi := h.inside x hx1
  by_cases hn : x.2 = n
  · rw [fold_n hi.1 hn]
    refine .inr ⟨rfl, ?_, by show 2 ≤ x.1; omega, by show 2 ≤ n - x.1; omega⟩
    rw [← hn]; exact hx1
  · rw [fold_lt hi.1 hi.2.1 (by omega)]
    exact .inl ⟨hx1, hi.1, by omega, by omega⟩
theorem cuts_nodup {n : Int} {A : List (Int × Int)} (h : CutT 1 n A) : (cutsOf n A).Nodup := by
  unfold cutsOf
  have hf : (A.filter wideB).Nodup := h.nodup.filter _
  refine List.pairwise_map.mpr (hf.imp_of_mem ?_)
  intro x y hx hy hne e
  have ix := h.inside x (List.mem_filter.mp hx).1
  have iy := h.inside y (List.mem_filter.mp hy).1
  refine hne ?_
  by_cases hxn : x.2 = n <;> by_cases hyn : y.2 = n
  · rw [fold_n ix.1 hxn, fold_n iy.1 hyn] at e
    injection e with _ e2
    cases x; cases y
    exact congr (congrArg Prod.mk e2) (hxn.trans hyn.symm)
  · rw [fold_n ix.1 hxn, fold_lt iy.1 iy.2.1 (by omega)] at e
    have e1 : (0 : Int) = y.1 := congrArg Prod.fst e
    omega
  · rw [fold_n iy.1 hyn, fold_lt ix.1 ix.2.1 (by omega)] at e
    have e1 : x.1 = (0 : Int) := congrArg Prod.fst e
    omega
  · rw [fold_lt ix.1 ix.2.1 (by omega), fold_lt iy.1 iy.2.1 (by omega)] at e
    exact e
theorem ltI_tot {x y : Int × Int} (h : ltI y x = false) (ne : x ≠ y) : ltI x y = true := by
  cases e : ltI x y with
  | true => rfl
  | false => exact absurd (ltI_eq e h) ne
theorem sort_strict {l : List (Int × Int)} (h : l.Nodup) : (sortP l).Pairwise fun x y => ltI x y = true := by
  have hn : (sortP l).Nodup := (sortP_perm l).nodup_iff.mpr h
  have hs := sortP_sorted l
  refine (List.Pairwise.and hn hs).imp ?_
  rintro x y ⟨h1, h2⟩
  exact ltI_tot h2 h1
theorem rising_of : ∀ {l : List (Int × Int)}, (l.Pairwise fun x y => ltI x y = true) → risingM l = true
  | [], _ => rfl
  | [_], _ => rfl
  | x :: y :: r, h => by
    obtain ⟨h1, h2⟩ := List.pairwise_cons.mp h
    have ih := rising_of h2
    unfold risingM at ih ⊢
    show ((ltI x y) :: _).all id = true
    rw [List.all_cons, Bool.and_eq_true]
    exact ⟨h1 y List.mem_cons_self, ih⟩
theorem drawn_is_plan {n : Int} {A : List (Int × Int)} (h : CutT 1 n A) (h3 : 3 ≤ n) (h40 : n ≤ 40) : isPlanM (planOf n A) = true := by
  rw [planOf_eq]
  have hl : ((sortP (cutsOf n A)).length : Int) = n - 3 := by
    rw [sortP_len]
    show (((A.filter wideB).map (foldN n)).length : Int) = n - 3
    rw [List.length_map, h.wide, if_neg (by omega)]
    omega
  have hm : ∀ c, c ∈ sortP (cutsOf n A) ↔ c ∈ cutsOf n A := fun c => (sortP_perm _).mem_iff
  unfold isPlanM
  have c1 : (decide (n < 3) || (decide (40 < n) || !decide (((sortP (cutsOf n A)).length : Int) = n - 3))) = false := by
    rw [decide_eq_false (by omega), decide_eq_false (by omega), decide_eq_true hl]; rfl
  have c2 : ((sortP (cutsOf n A)).map fun lh => isCutM n lh.1 lh.2).all id = true := by
    rw [List.all_eq_true]
    intro b hb
    obtain ⟨c, hc, rfl⟩ := List.mem_map.mp hb
    rcases cuts_mem h ((hm c).mp hc) with q | q
    · show isCutM n c.1 c.2 = true
      unfold isCutM
      rw [decide_eq_false (by omega), decide_eq_false (by omega), if_neg (by decide), decide_eq_true (by omega), decide_eq_false (fun e => by have e1 : c.1 = 0 := congrArg Prod.fst e; omega)]
      rfl
    · show isCutM n c.1 c.2 = true
      unfold isCutM
      rw [decide_eq_false (by omega), decide_eq_false (by omega), if_neg (by decide), decide_eq_true (by omega), decide_eq_false (fun e => by have e1 : c.2 = n - 1 := congrArg Prod.snd e; omega)]
      rfl
  have c3 : crossingM (sortP (cutsOf n A)) = false := by
    cases e : crossingM (sortP (cutsOf n A)) with
    | false => rfl
    | true =>
      exfalso
      unfold crossingM at e
      rw [List.any_eq_true] at e
      obtain ⟨b, hb, hb2⟩ := e
      obtain ⟨x, hx, hb⟩ := List.mem_flatMap.mp hb
      obtain ⟨y, hy, rfl⟩ := List.mem_map.mp hb
      simp only [id, Bool.and_eq_true, decide_eq_true_eq] at hb2
      rcases cuts_mem h ((hm x).mp hx) with q | q <;> rcases cuts_mem h ((hm y).mp hy) with q' | q'
      · exact h.apart x q.1 y q'.1 hb2
      · omega
      · exact h.apart y q'.1 (x.2, n) q.2.1 ⟨by show y.1 < x.2; omega, by show x.2 < y.2; omega, by show y.2 < n; omega⟩
      · omega
  show (if (decide (n < 3) || (decide (40 < n) || !decide (((sortP (cutsOf n A)).length : Int) = n - 3))) = true then false
    else if (!((sortP (cutsOf n A)).map fun lh => isCutM n lh.1 lh.2).all id) = true then false else risingM (sortP (cutsOf n A)) && !crossingM (sortP (cutsOf n A))) = true
  rw [c1, if_neg (by decide), c2, if_neg (by decide), c3, rising_of (sort_strict (cuts_nodup h))]
  rfl

end Pf

namespace Pf
open PySem PySem.Spec PyProof.Rows L2
/-! ### corners become others -/
theorem all_map {α : Type} {f : α → Bool} {l : List α} : (l.map f).all id = true ↔ ∀ x ∈ l, f x = true := by
  rw [List.all_eq_true]
  constructor
  · intro h x hx
    exact h _ (List.mem_map.mpr ⟨x, hx, rfl⟩)
  · intro h b hb
    obtain ⟨x, hx, rfl⟩ := List.mem_map.mp hb
    exact h x hx
/-- what a plan is, in plain words -/
structure Valid (n : Int) (L : List (Int × Int)) : Prop where
  lo : 3 ≤ n
  hi : n ≤ 40
  len : (L.length : Int) = n - 3
  cut : ∀ c ∈ L, 0 ≤ c.1 ∧ 2 ≤ c.2 - c.1 ∧ c.2 < n ∧ ¬ (c.1 = 0 ∧ c.2 = n - 1)
  nd : L.Nodup
  no : ∀ x ∈ L, ∀ y ∈ L, ¬ (x.1 < y.1 ∧ y.1 < x.2 ∧ x.2 < y.2)
theorem isCut_iff {n l h : Int} : isCutM n l h = true ↔ 0 ≤ l ∧ 2 ≤ h - l ∧ h < n ∧ ¬ (l = 0 ∧ h = n - 1) := by
  unfold isCutM
  by_cases c : l < 0 ∨ n ≤ h
  · have e : (decide (l < 0) || decide (n ≤ h)) = true := by simpa using c
    rw [if_pos e]
    constructor
    · intro z; cases z
    · intro z; omega
  · have e : ¬ (decide (l < 0) || decide (n ≤ h)) = true := by simpa using c
    rw [if_neg e, Bool.and_eq_true, decide_eq_true_eq, Bool.not_eq_true', decide_eq_false_iff_not]
    constructor
    · rintro ⟨h1, h2⟩
      exact ⟨by omega, h1, by omega, fun z => h2 (congr (congrArg Prod.mk z.1) z.2)⟩
    · rintro ⟨h1, h2, h3, h4⟩
      exact ⟨h2, fun z => h4 ⟨congrArg Prod.fst z, congrArg Prod.snd z⟩⟩
theorem crossing_iff {L : List (Int × Int)} : crossingM L = false ↔ ∀ x ∈ L, ∀ y ∈ L, ¬ (x.1 < y.1 ∧ y.1 < x.2 ∧ x.2 < y.2) := by
  constructor
  · intro h x hx y hy z
    have : crossingM L = true := by
      unfold crossingM
      rw [List.any_eq_true]
      exact ⟨_, List.mem_flatMap.mpr ⟨x, hx, List.mem_map.mpr ⟨y, hy, rfl⟩⟩, by simp only [id, Bool.and_eq_true, decide_eq_true_eq]; exact z⟩
    rw [h] at this
    cases this
  · intro h
    cases e : crossingM L with
    | false => rfl
    | true =>
      exfalso
      unfold crossingM at e
      rw [List.any_eq_true] at e
      obtain ⟨b, hb, hb2⟩ := e
      obtain ⟨x, hx, hb⟩ := List.mem_flatMap.mp hb
      obtain ⟨y, hy, rfl⟩ := List.mem_map.mp hb
      simp only [id, Bool.and_eq_true, decide_eq_true_eq] at hb2
      exact h x hx y hy hb2
theorem ltI_trans {x y z : Int × Int} (h1 : ltI x y = true) (h2 : ltI y z = true) : ltI x z = true := by
  have a := SrtO.lexB_iff.mp h1
  have b := SrtO.lexB_iff.mp h2
  refine SrtO.lexB_iff.mpr ?_
  omega
theorem rising_pw : ∀ {l : List (Int × Int)}, risingM l = true → l.Pairwise fun x y => ltI x y = true
  | [], _ => List.Pairwise.nil
  | [_], _ => List.pairwise_singleton _ _
  | x :: y :: r, h => by
    unfold risingM at h
    have h : ((ltI x y) :: (((y :: r).zip ((y :: r).drop 1)).map fun oq => ltI oq.1 oq.2)).all id = true := h
    rw [List.all_cons, Bool.and_eq_true] at h
    have ih := rising_pw (l := y :: r) h.2
    refine List.pairwise_cons.mpr ⟨fun z hz => ?_, ih⟩
    rcases List.mem_cons.mp hz with rfl | hz
    · exact h.1
    · exact ltI_trans h.1 ((List.pairwise_cons.mp ih).1 z hz)
theorem pw_sorted {l : List (Int × Int)} (h : l.Pairwise fun x y => ltI x y = true) : l = sortP l := sortP_uniq (List.Perm.refl _) (h.imp ltI_as)
theorem ltI_irr (x : Int × Int) : ltI x x = false := SrtO.lexB_no.mpr (by omega)
theorem pw_nodup {l : List (Int × Int)} (h : l.Pairwise fun x y => ltI x y = true) : l.Nodup := h.imp fun {x y} h e => by subst e; rw [ltI_irr] at h; cases h
theorem plan_iff {n : Int} {L : List (Int × Int)} : isPlanM (n, Tup.mk L) = true ↔ Valid n L ∧ L = sortP L := by
  constructor
  · intro h
    unfold isPlanM at h
    have h : (if (decide (n < 3) || (decide (40 < n) || !decide ((L.length : Int) = n - 3))) = true then false else if (!(L.map fun lh => isCutM n lh.1 lh.2).all id) = true then false else risingM L && !crossingM L) = true := h
    split at h
    · cases h
    rename_i c1
    split at h
    · cases h
    rename_i c2
    simp only [Bool.or_eq_true, decide_eq_true_eq, Bool.not_eq_true', decide_eq_false_iff_not, not_or, Int.not_lt, Decidable.not_not] at c1
    rw [Bool.not_eq_true', Bool.not_eq_false] at c2
    rw [Bool.and_eq_true, Bool.not_eq_true'] at h
    have pw := rising_pw h.1
    exact ⟨⟨c1.1, c1.2.1, c1.2.2, fun c hc => isCut_iff.mp (all_map.mp c2 c hc), pw_nodup pw, crossing_iff.mp h.2⟩, pw_sorted pw⟩
  · rintro ⟨v, e⟩
    have c1 : (decide (n < 3) || (decide (40 < n) || !decide ((L.length : Int) = n - 3))) = false := by
      have := v.lo
      have := v.hi
      rw [decide_eq_false (by omega), decide_eq_false (by omega), decide_eq_true v.len]; rfl
    have c2 : (L.map fun lh => isCutM n lh.1 lh.2).all id = true := all_map.mpr fun c hc => isCut_iff.mpr (v.cut c hc)
    have c3 : risingM L = true := by rw [e]; exact rising_of (sort_strict v.nd)
    unfold isPlanM
    show (if (decide (n < 3) || (decide (40 < n) || !decide ((L.length : Int) = n - 3))) = true then false else if (!(L.map fun lh => isCutM n lh.1 lh.2).all id) = true then false else risingM L && !crossingM L) = true
    rw [c1, if_neg (by decide), c2, if_neg (by decide), c3, crossing_iff.mpr v.no]
    rfl
theorem Valid.perm {n : Int} {L M : List (Int × Int)} (v : Valid n L) (h : L.Perm M) : Valid n M :=
  ⟨v.lo, v.hi, by rw [← h.length_eq]; exact v.len, fun c hc => v.cut c (h.mem_iff.mpr hc), h.nodup_iff.mp v.nd, fun x hx y hy => v.no x (h.mem_iff.mpr hx) y (h.mem_iff.mpr hy)⟩
theorem plan_facts {p : Plan} (h : isPlanM p = true) : 3 ≤ p.1 ∧ p.1 ≤ 40 ∧ p.2.l.length ≤ 37 ∧ (∀ c ∈ p.2.l, 0 ≤ c.1 ∧ c.1 < p.1 ∧ 0 ≤ c.2 ∧ c.2 < p.1) ∧ Valid p.1 p.2.l ∧ p.2.l = sortP p.2.l := by
  obtain ⟨n, ⟨L⟩⟩ := p
  obtain ⟨v, e⟩ := plan_iff.mp h
  have h1 := v.lo
  have h2 := v.hi
  have h3 := v.len
  exact ⟨h1, h2, by show L.length ≤ 37; omega, fun c hc => by have := v.cut c hc; show 0 ≤ c.1 ∧ c.1 < n ∧ 0 ≤ c.2 ∧ c.2 < n; omega, v, e⟩

end Pf

namespace Pf
open PySem PySem.Spec PyProof.Rows L2
/-! ### plans under turning and mirroring -/
theorem lp_sym (a b : Int) : lawPair a b = lawPair b a := by
  unfold lawPair
  by_cases h1 : b < a
  · rw [if_pos h1, if_neg (by omega), if_neg (by omega), if_pos (by omega)]
  · by_cases h2 : a < b
    · rw [if_neg h1, if_pos (by omega), if_pos (by omega), if_neg (by omega)]
    · have e : a = b := by omega
      subst e
      rfl
theorem lp_lt {a b : Int} (h : a < b) : lawPair a b = (a, b) := by
  unfold lawPair
  rw [if_neg (by omega), if_pos (by omega)]
theorem lp_cases (a b : Int) : (lawPair a b = (a, b) ∧ a ≤ b) ∨ (lawPair a b = (b, a) ∧ b < a) := by
  by_cases h : b < a
  · exact .inr ⟨by rw [lp_sym]; exact lp_lt h, h⟩
  · refine .inl ⟨?_, by omega⟩
    by_cases h2 : a < b
    · exact lp_lt h2
    · have e : a = b := by omega
      subst e
      unfold lawPair
      simp
end Pf

namespace Pf
open PySem PySem.Spec PyProof.Rows L2
/-! ### a def whose last parameter y has a default dv -/
structure TxD (K : Fg) (mg : Str → Option Value) (x : Str) (ps : List Str) (y : Str) (st : Stmt) (n : Nat) (dv : V) : Prop where
  ex : ∃ f fd, FunD K x x (defArgs st) (defBody st) (defScope st) [dv] [] f fd ∧ Binds K fd ps [] ∧ (∃ ds, Vals [dv] ds ∧ Binds K fd ps ds) ∧ KBn K fd ps n [y] (fun us ws => us ++ ws) (fun vs zs => vs ++ zs) ∧ mg x = some (.ref f)
structure DfD (P : Program) (w : World) (K : Fg) (mg : Str → Option Value) (base : Heap) (k : Nat) (x : Str) (ps : List Str) (y : Str) (n : Nat) (dv : V) (sp : Sp) : Prop where
  ex : ∃ f fd, FnOk P w K mg base CX0 k f fd ps sp ∧ Binds K fd ps [] ∧ (∃ ds, Vals [dv] ds ∧ Binds K fd ps ds) ∧ KBn K fd ps n [y] (fun us ws => us ++ ws) (fun vs zs => vs ++ zs) ∧ PySem.W.keepIn K (.ref f) = true ∧ mg x = some (.ref f)
section
variable {P : Program} {w : World} {K : Fg} {mg : Str → Option Value} {base : Heap}
theorem TxD.ok {x y : Str} {st : Stmt} {N ps : List Str} {k n : Nat} {dv : V} {sp : Sp} (T : TxD K mg x ps y st n dv) (S : FnScope N ps (defScope st)) (len : ∀ vs H Q E, sp vs H Q E → vs.length = ps.length)
    (hbody : ∀ (cdv : Value) (f : Addr) (A : Around) (outer : List Env) (s : Shared) (H : Hp) (vs : List V) (Q : VK) (E : XK), Room k (A.deeper (envOfC x (defScope st) s.heap.objs.size f cdv)) → sp vs H Q E →
      ∃ t, PSs (cxOf CX0 P w K mg base N x (defScope st) f cdv A outer s H E).nox (defBody st) t ∧ t { nx := fun _ H' => Q .non H', rt := Q } (start N vs) H) : DfD P w K mg base (k + 1) x ps y n dv sp := by
  obtain ⟨f, fd, F, b, b1, b2, m⟩ := T.ex
  refine ⟨f, fd, F.ok S len fun cdv A outer s H vs Q E hr h => ?_, b, b1, b2, F.kp, m⟩
  obtain ⟨t, h1, h2⟩ := hbody cdv f A outer s H vs Q E hr h
  exact ⟨t, h1.nox, h2⟩
variable {X : Cx} {j k n : Nat} {x y : Str} {ps : List Str} {dv : V} {sp : Sp} {p pos : Pos} {e : Expr} {es : List Expr} {t tk : TA}
end
section
variable {α β γ : Type} [Rep α] [Rep β] [Rep γ] {σ : L2.St} {G H : Hp} {ta tb : TE} {x : α} {x2 : β} {v2 : V}
end
/-! ### such a def as the top leaves it -/
section
variable {K : Fg} {mg : Str → Option Value} {x y : Str} {st : Stmt} {f T : Addr} {oc : Value} {od an : Option Addr} {osl : Array (Option Value)} {kV doc pm cdv ct u : Value} {o : Obj} {m n : Nat} {dv : V} {ps : List Str}
end
end Pf

namespace Pf
open PySem PySem.Spec PyProof.Rows L2
/-- around a body nothing is let out -/
theorem takes_n5 {X : Cx} : L2N.Takes X (fun _ _ _ _ => False) := fun _ _ ⟨_, _, _, _, _, _, _, _, _, _, _, _, _, _, _, _, w⟩ => w.elim
section
variable {P : Program} {w : World} {K : Fg} {mg : Str → Option Value} {base : Heap}
/-- a def that may raise: its errors bear no context -/
theorem _root_.L2.Fun.okN {x qual : Str} {st : Stmt} {f : Addr} {fd : FuncData} {N ps : List Str} {k : Nat} {sp : Sp} (F : Fun K x qual st f fd) (S : FnScope N ps (defScope st)) (lenS : ∀ vs H Q E, sp vs H Q E → vs.length = ps.length)
    (runs : ∀ (cdv : Value) (A : Around) (outer : List Env) (s : Shared) (H : Hp) (vs : List V) (Q : VK) (E : XK), Room k (A.deeper (envOfC qual (defScope st) s.heap.objs.size f cdv)) → sp vs H Q E →
      ∃ t, PSs (cxOf (L2N.CX P w) P w K mg base N qual (defScope st) f cdv A outer s H E) (defBody st) t ∧ t { nx := fun _ H' => Q .non H', rt := Q } (start N vs) H) : FnOk P w K mg base (L2N.CX P w) (k + 1) f fd ps sp := by
  obtain ⟨_, _, _, _, _, _, cdv, _, _, rfl, look, code⟩ := F.ex
  exact fn_of look code S lenS fun A outer s H vs Q E hr hsp => runs cdv A outer s H vs Q E hr hsp
end
/-! ### errors of the program's own, made with a text -/
structure Ecl (K : Fg) (mg : Str → Option Value) (x : Str) (C : Addr) : Prop where
  g : mg x = some (.ref C)
  x : PySem.W.excIn K C [.type "ValueError", .type "Exception", .type "BaseException", .type "object"] "ValueError.__new__" = true
  k : PySem.W.keepIn K (.ref C) = true
  b : PySem.W.subIn K (.ref C) (.type "BaseException") = some true
  t : PySem.W.typeIn K (.ref C) = some (.type "type")
  i : PySem.W.isClsIn K C = true
theorem exm_is {K : Fg} {mg : Str → Option Value} {x : Str} {C S : Addr} {r : Bool} (e : Ecl K mg x S) (h : PySem.W.subIn K (.ref C) (.ref S) = some r) : PySem.W.exmOne K (.ref C) (.ref S) = some r := by
  have e1 : (PySem.W.subIn K (.ref S) (.type "BaseException") == some true) = true := by rw [e.b] <;> rfl
  have e2 : ((PySem.W.clsIn K S).isSome && PySem.W.typeIn K (.ref S) == some (.type "type")) = true := by
    have h2 : (PySem.W.clsIn K S).isSome = true := e.i
    rw [h2, e.t] <;> rfl
  unfold PySem.W.exmOne PySem.W.kitCls
  rw [if_pos e1]
  simp only
  rw [if_pos e2]
  exact h
structure DfX (P : Program) (w : World) (K : Fg) (mg : Str → Option Value) (base : Heap) (k : Nat) (x : Str) (ps : List Str) (sp : Sp) : Prop where
  ex : ∃ f fd, FnOk P w K mg base (L2N.CX P w) k f fd ps sp ∧ Binds K fd ps [] ∧ PySem.W.keepIn K (.ref f) = true ∧ mg x = some (.ref f)
section
variable {P : Program} {w : World} {K : Fg} {mg : Str → Option Value} {base : Heap}
theorem Tx.okX {x : Str} {st : Stmt} {N ps : List Str} {k : Nat} {sp : Sp} (T : Tx K mg x ps st) (S : FnScope N ps (defScope st)) (len : ∀ vs H Q E, sp vs H Q E → vs.length = ps.length)
    (hbody : ∀ (cdv : Value) (f : Addr) (A : Around) (outer : List Env) (s : Shared) (H : Hp) (vs : List V) (Q : VK) (E : XK), Room k (A.deeper (envOfC x (defScope st) s.heap.objs.size f cdv)) → sp vs H Q E →
      ∃ t, PSs (cxOf (L2N.CX P w) P w K mg base N x (defScope st) f cdv A outer s H E) (defBody st) t ∧ t { nx := fun _ H' => Q .non H', rt := Q } (start N vs) H) : DfX P w K mg base (k + 1) x ps sp := by
  obtain ⟨f, fd, F, b, m⟩ := T.ex
  exact ⟨f, fd, F.okN S len fun cdv A outer s H vs Q E hr h => hbody cdv f A outer s H vs Q E hr h, b, F.kp, m⟩
variable {X : Cx} {j k : Nat} {x : Str} {ps : List Str} {sp : Sp} {p pos : Pos} {e : Expr} {es : List Expr} {t : TA} {W : WX}
/-- a call within a try -/
theorem pe_dfS (D : DfX X.prog X.w X.K X.mg X.base j x ps sp) (hr : Room k X.A) (le : j ≤ k) (hg : Gl X x) (tk : L2N.Takes X W)
    (ha : PA X (e :: es) t) (hdb : (x == ("__debug__" : Str)) = false := by decide) (he : starEach (e :: es) X.env = (false, eval e X.env) :: starEach es X.env := by rfl) (hpl : (backTo pos (starEach es X.env)).any (·.1) = false := by rfl) :
    PE X (.Call (.Name x p) (e :: es) [] pos) (tCallS sp (WE W) t) := by
  obtain ⟨f, fd, F, b, kp, m⟩ := D.ex
  exact pe_callS F (hr.mono le) hg m kp b (fun σ => L2N.passAt tk σ) ha hdb he hpl
end
/-! ### a list that is new -/
section
variable {α β : Type} [Rep α] [Rep β] {σ : L2.St} {G H : Hp} {te : TE} {tt : TT} {g : TG} {K : Fg}
/-- a new list that the asker may change -/
def EvN (te : TE) (σ : L2.St) (G : Hp) (xs : List α) : Prop := ∀ H, Same G H → ∀ Q : VK, (∀ p G' H', Gr M0 G H G' H' → H p = none → Ml G' H' p xs → Q (.ref p) H') → te σ H Q
theorem EvN.ev {xs : List α} (h : EvN te σ G xs) : Ev te σ G xs := fun H i Q q => h H i Q fun p G' H' g np m => by
  obtain ⟨G2, g2, r2, _⟩ := m.frz g np
  exact q _ G2 H' g2 r2
theorem en_lcf {wi : TI} {vs : List Nat} {xs : List α} {p : α → Bool} {f : α → β} (hx : EvI wi σ G xs) (hl : xs.length ≤ 100000)
    (hb : ∀ x ∈ xs, ∀ v G1, Same G G1 → rep G1 v x → GB g v (wipe σ vs) G1 fun σ2 => wipe σ2 vs = wipe σ vs ∧ EvT tt σ2 G1 (p x) ∧ (p x = true → Ev te σ2 G1 (f x))) : EvN (tLc wi g tt te vs) σ G ((xs.filter p).map f) := fun H i Q q => by
  refine hx H i _ fun J G1 H1 g1 ok D nD => ?_
  have nG : G1 D = none := up_none g1.i nD
  refine ⟨fun k m H => m = xs.length - k ∧ k ≤ xs.length ∧ ∃ Gk, Gr M0 G1 H1 Gk H ∧ Ml Gk H D (((xs.take k).filter p).map f), ⟨_, rfl, Nat.zero_le _, G1, (Gr.refl g1.i).mut (.inl nD) nG, nG, [], upd_same, .nil⟩, ?_⟩
  rintro k m H2 ⟨rfl, hk, Gk, gk, ml⟩
  by_cases hlt : k < xs.length
  · refine .inr ⟨ok.go k H2 (gk.g.trans gk.i) hlt, fun H' => ∃ Gk, Gr M0 G1 H1 Gk H' ∧ Ml Gk H' D (((xs.take (k + 1)).filter p).map f), fun H' h' => ⟨xs.length - (k + 1), by omega, rfl, hlt, h'⟩, fun v H3 yl => ?_⟩
    have hxk : xs[k]? = some xs[k] := List.getElem?_eq_getElem hlt
    obtain ⟨G3, g3, r3⟩ := ok.yld k H2 v H3 Gk xs[k] gk.g gk.i yl hxk
    have g13 := gk.trans g3
    have et : ((xs.take (k + 1)).filter p).map f = ((xs.take k).filter p).map f ++ (if p xs[k] = true then [f xs[k]] else []) := by
      rw [List.take_add_one, hxk, List.filter_append, List.map_append]
      congr 1
      show ((([xs[k]] : List α)).filter p).map f = _
      by_cases hp : p xs[k] = true
      · rw [if_pos hp, List.filter_cons, if_pos hp]; rfl
      · rw [if_neg hp, List.filter_cons, if_neg hp]; rfl
    refine hb xs[k] (List.getElem_mem hlt) v G3 (g1.g.trans g13.g) r3 H3 g3.i _ fun σ2 ⟨hw, ht, he⟩ => ⟨hw, ?_⟩
    refine ht H3 g3.i _ fun G4 H4 g4 => ?_
    have ml4 := (ml.step0 g3).step0 g4
    refine ite2 (fun hp => ?_) (fun hp => ?_)
    · refine ((he hp).mono g4.g) H4 g4.i _ fun y G5 H5 g5 r5 => ?_
      have ml5 := ml4.step0 g5
      obtain ⟨n5, acc, e5, p5⟩ := ml5
      refine ⟨acc, e5, sl_lt ?_, G5, ((g13.trans g4).trans g5).mut (.inl nD) n5, n5, acc ++ [y], upd_same, ?_⟩
      · rw [paired_len p5, List.length_map]
        exact Nat.lt_of_le_of_lt (Nat.le_trans (List.length_filter_le _ _) (by rw [List.length_take]; exact Nat.min_le_left _ _)) (by omega)
      · rw [et, if_pos hp]
        exact paired_app p5 (.cons r5 .nil)
    · refine ⟨G4, g13.trans g4, ?_⟩
      rw [et, if_neg hp, List.append_nil]
      exact ml4
  · have e : xs.take k = xs := List.take_of_length_le (by omega)
    rw [e] at ml
    exact .inl ⟨ok.stop k H2 (gk.g.trans gk.i) (by omega), q _ Gk H2 (g1.trans gk) (up_none g1.same nD) ml⟩
end
/-! ### a dict of pairs that stands still -/
structure Dic (α : Type) where
  m : Int × Int → Option α
instance {α : Type} [Rep α] : Rep (Dic α) := ⟨fun G v d => ∃ a kvs, v = .ref a ∧ G a = some (.dT kvs) ∧ ∀ p, OptRep G (valV kvs (kk p)) (d.m p),
  fun e ⟨a, kvs, h1, h2, h3⟩ => ⟨a, kvs, h1, e _ _ h2, fun p => (h3 p).mono e⟩⟩
section
variable {α : Type} [Rep α] {σ : L2.St} {G H : Hp} {ta tb : TE} {K : Fg}
theorem Md.frz {M : Addr → Prop} {Ge He : Hp} {d : Addr} {n : Nat} {m : Int × Int → Option α} (x : Md G H d n m) (g : Gr M Ge He G H) (np : He d = none) : ∃ G', Gr M Ge He G' H ∧ Pf.rep G' (.ref d) (Dic.mk m) ∧ Same G G' := by
  obtain ⟨h1, kvs, h2, h3, h4⟩ := x
  exact ⟨upd G d (.dT kvs), g.still np h1 h2, ⟨d, kvs, rfl, upd_same, fun p => (h4 p).mono (same_new h1)⟩, same_new h1⟩
theorem opt_some {o : Option V} {m : Option α} (h : OptRep G o m) : o.isSome = m.isSome := by
  cases m with
  | none => rw [show o = none from h]; rfl
  | some x => obtain ⟨v, e, _⟩ := h; rw [e]; rfl
end
/-! ### defs that hand back a new list -/
section
variable {α β γ : Type} [Rep α] [Rep β] [Rep γ] {σ : L2.St} {G H : Hp} {ta tb te : TE} {x : α} {x2 : β} {D : Ends} {u : TS}
def spL1 (pre : α → Prop) (f : α → List γ) : Sp := fun vs H Q _ => ∃ v x G, vs = [v] ∧ Same G H ∧ rep G v x ∧ pre x ∧ ∀ p G' H', Gr M0 G H G' H' → H p = none → Ml G' H' p (f x) → Q (.ref p) H'
def spL2 (pre : α → β → Prop) (f : α → β → List γ) : Sp := fun vs H Q _ => ∃ v x v2 x2 G, vs = [v, v2] ∧ Same G H ∧ rep G v x ∧ rep G v2 x2 ∧ pre x x2 ∧ ∀ p G' H', Gr M0 G H G' H' → H p = none → Ml G' H' p (f x x2) → Q (.ref p) H'
theorem sq_setN {i : Nat} {xs : List γ} (h : EvN te σ G xs) (s : Same G H) (k : ∀ p G' H', Gr M0 G H G' H' → H p = none → Ml G' H' p xs → u D (σ.set i (some (.ref p))) H') : tSeq (tAsg te (gName i)) u D σ H := h H s _ k
theorem st_retN {xs : List γ} (h : EvN te σ G xs) (s : Same G H) (k : ∀ p G' H', Gr M0 G H G' H' → H p = none → Ml G' H' p xs → D.rt (.ref p) H') : tRet te D σ H := h H s _ k
end
end Pf

namespace Pf
open PySem PySem.Spec PyProof.Rows L2
/-! ### lines and fans -/
def sidesM (n : Int) : List (Int × Int) := (rng 0 n).map fun c => lawPair c ((c + 1) % n)
def linesM (p : Plan) : List (Int × Int) := sortP (sidesM p.1 ++ p.2.l)
def lawSides (n : Int) : List (Int × Int) := ((rng 0 (n - 1)).map fun l => (l, l + 1)) ++ [(0, n - 1)]
def allLines (p : Plan) : List (Int × Int) := sortP (lawSides p.1 ++ p.2.l)
theorem rng_snoc {a b : Int} (h : a ≤ b) : rng a (b + 1) = rng a b ++ [b] := by
  unfold rng
  have e : (b + 1 - a).toNat = (b - a).toNat + 1 := by omega
  rw [e, List.range_succ, List.map_append]
  congr 1
  show [a + ((b - a).toNat : Int)] = [b]
  congr 1
  omega
theorem sides_eq {n : Int} (h : 2 ≤ n) : sidesM n = lawSides n := by
  unfold sidesM lawSides
  have e : rng 0 n = rng 0 (n - 1) ++ [n - 1] := by
    have z := rng_snoc (a := 0) (b := n - 1) (by omega)
    rw [show n - 1 + 1 = n by omega] at z
    exact z
  rw [e, List.map_append]
  congr 1
  · refine List.map_congr_left fun c hc => ?_
    have hc := rng_mem.mp hc
    rw [Int.emod_eq_of_lt (by omega) (by omega), lp_lt (by omega)]
  · show [lawPair (n - 1) ((n - 1 + 1) % n)] = [(0, n - 1)]
    rw [show n - 1 + 1 = n by omega, Int.emod_self, lp_sym, lp_lt (by omega)]
theorem lines_eq {p : Plan} (h : 2 ≤ p.1) : linesM p = allLines p := by
  unfold linesM allLines
  rw [sides_eq h]
theorem lines_len {p : Plan} (h : isPlanM p = true) : ((allLines p).length : Int) = 2 * p.1 - 3 := by
  obtain ⟨h3, h40, _, _, v, _⟩ := plan_facts h
  have := v.len
  unfold allLines lawSides
  rw [sortP_len, List.length_append, List.length_append, List.length_map, rng_len]
  simp only [List.length_singleton]
  omega
theorem line_lt {p : Plan} (h : isPlanM p = true) {q : Int × Int} (hq : q ∈ allLines p) : 0 ≤ q.1 ∧ q.1 < q.2 ∧ q.2 < p.1 := by
  obtain ⟨h3, h40, _, _, v, _⟩ := plan_facts h
  unfold allLines at hq
  have hq := (sortP_perm _).mem_iff.mp hq
  rcases List.mem_append.mp hq with hq | hq
  · unfold lawSides at hq
    rcases List.mem_append.mp hq with hq | hq
    · obtain ⟨l, hl, rfl⟩ := List.mem_map.mp hq
      have hl := rng_mem.mp hl
      exact ⟨by show 0 ≤ l; omega, by show l < l + 1; omega, by show l + 1 < p.1; omega⟩
    · rw [List.mem_singleton.mp hq]
      exact ⟨by show (0 : Int) ≤ 0; omega, by show (0 : Int) < p.1 - 1; omega, by show p.1 - 1 < p.1; omega⟩
  · have := v.cut q hq
    omega
def fanM (p : Plan) (f : Int) : List Int := (((rng 1 p.1).map fun s => (f + s) % p.1).filter fun c => decide (lawPair f c ∈ linesM p)).map fun c => c
end Pf

namespace Pf
open PySem PySem.Spec PyProof.Rows L2
/-! ### dicts whose keys are tuples of whole numbers and texts, in their order -/
class TK (κ : Type) [Rep κ] where
  ky : κ → List Key
  inj : ∀ {x y : κ}, ky x = ky y → x = y
  to : ∀ {G : Hp} {b : Addr} {x : κ}, G b = some (.tup ((ky x).map kV)) → rep G (.ref b) x
  of : ∀ {G : Hp} {v : V} {x : κ}, rep G v x → ∃ b, v = .ref b ∧ G b = some (.tup ((ky x).map kV))
instance : TK (Int × Int) where
  ky := kk
  inj := kk_inj
  to := fun {G b x} h => ⟨b, .int x.1, .int x.2, rfl, h, rfl, rfl⟩
  of := fun {G v x} ⟨b, u, w, e, h, h1, h2⟩ => ⟨b, e, by rw [rep_int h1, rep_int h2] at h; exact h⟩
instance : TK (Tri Int Int Int) where
  ky := fun x => [Sum.inl x.a, Sum.inl x.b, Sum.inl x.c]
  inj := fun {x y} h => by
    injection h with h1 h; injection h with h2 h; injection h with h3 h
    cases x; cases y
    cases Sum.inl.inj h1; cases Sum.inl.inj h2; cases Sum.inl.inj h3; rfl
  to := fun {G b x} h => ⟨b, .int x.a, .int x.b, .int x.c, rfl, h, rfl, rfl, rfl⟩
  of := fun {G v x} ⟨b, u, w, z, e, h, h1, h2, h3⟩ => ⟨b, e, by rw [rep_int h1, rep_int h2, rep_int h3] at h; exact h⟩
instance : TK (Tri Int Int Str) where
  ky := fun x => [Sum.inl x.a, Sum.inl x.b, Sum.inr x.c]
  inj := fun {x y} h => by
    injection h with h1 h; injection h with h2 h; injection h with h3 h
    cases x; cases y
    cases Sum.inl.inj h1; cases Sum.inl.inj h2; cases Sum.inr.inj h3; rfl
  to := fun {G b x} h => ⟨b, .int x.a, .int x.b, .str x.c, rfl, h, rfl, rfl, rfl⟩
  of := fun {G v x} ⟨b, u, w, z, e, h, h1, h2, h3⟩ => ⟨b, e, by rw [rep_int h1, rep_int h2, rep_str h3] at h; exact h⟩
structure Dct (κ α : Type) where
  l : List (κ × α)
section
variable {κ α β : Type} [Rep κ] [TK κ] [DecidableEq κ] [Rep α] [Rep β] {σ : L2.St} {G H : Hp} {ta tb te : TE} {K : Fg} {D : Ends} {u : TS}
def EnR (G : Hp) (kv : List Key × V) (x : κ × α) : Prop := kv.1 = TK.ky x.1 ∧ rep G kv.2 x.2
theorem enr_mono {G G' : Hp} (e : Same G G') {kvs : List (List Key × V)} {l : List (κ × α)} (h : Paired (EnR G) kvs l) : Paired (EnR G') kvs l := Paired.mapP h fun _ _ r => ⟨r.1, Rep.mono e r.2⟩
instance : Rep (Dct κ α) := ⟨fun G v d => ∃ a kvs, v = .ref a ∧ G a = some (.dT kvs) ∧ Paired (EnR G) kvs d.l, fun e ⟨a, kvs, h1, h2, h3⟩ => ⟨a, kvs, h1, e _ _ h2, enr_mono e h3⟩⟩
def look (l : List (κ × α)) (k : κ) : Option α := (l.find? fun e => decide (e.1 = k)).map (·.2)
def put (l : List (κ × α)) (k : κ) (x : α) : List (κ × α) := if (l.any fun e => decide (e.1 = k)) = true then l.map (fun e => if e.1 = k then (e.1, x) else e) else l ++ [(k, x)]
def Mt (G H : Hp) (d : Addr) (l : List (κ × α)) : Prop := G d = none ∧ ∃ kvs, H d = some (.dT kvs) ∧ Paired (EnR G) kvs l
theorem ky_dec {x y : κ} : decide (TK.ky x = TK.ky y) = decide (x = y) := by
  by_cases h : x = y
  · subst h; rw [decide_eq_true rfl, decide_eq_true rfl]
  · rw [decide_eq_false h, decide_eq_false fun e => h (TK.inj e)]
theorem val_look (k : κ) : ∀ {kvs : List (List Key × V)} {l : List (κ × α)}, Paired (EnR G) kvs l → OptRep G (valV kvs (TK.ky k)) (look l k)
  | _, _, .nil => rfl
  | (c, v) :: kvs, (x, y) :: l, .cons ⟨h1, h2⟩ t => by
    have ih := val_look k t
    have h1 : c = TK.ky x := h1
    subst h1
    unfold valV look at ih ⊢
    rw [List.find?_cons, List.find?_cons]
    show OptRep G (Option.map _ (match decide (TK.ky x = TK.ky k) with | true => _ | false => _)) (Option.map _ (match decide (x = k) with | true => _ | false => _))
    rw [ky_dec]
    cases decide (x = k) with
    | true => exact ⟨v, rfl, h2⟩
    | false => exact ih
theorem any_look (k : κ) : ∀ {kvs : List (List Key × V)} {l : List (κ × α)}, Paired (EnR G) kvs l → (kvs.any fun kv => decide (kv.1 = TK.ky k)) = l.any fun e => decide (e.1 = k)
  | _, _, .nil => rfl
  | (c, v) :: kvs, (x, y) :: l, .cons ⟨h1, h2⟩ t => by
    have h1 : c = TK.ky x := h1
    subst h1
    rw [List.any_cons, List.any_cons, any_look k t]
    show (decide (TK.ky x = TK.ky k) || _) = (decide (x = k) || _)
    rw [ky_dec]
theorem repl_paired {v : V} {k : κ} {x : α} (r : rep G v x) : ∀ {kvs : List (List Key × V)} {l : List (κ × α)}, Paired (EnR G) kvs l → Paired (EnR G) (kvs.map fun kv => if kv.1 = TK.ky k then (kv.1, v) else kv) (l.map fun e => if e.1 = k then (e.1, x) else e)
  | _, _, .nil => .nil
  | (c, u) :: kvs, (z, y) :: l, .cons ⟨h1, h2⟩ t => by
    have h1 : c = TK.ky z := h1
    subst h1
    refine .cons ?_ (repl_paired r t)
    show EnR G (if TK.ky z = TK.ky k then (TK.ky z, v) else (TK.ky z, u)) (if z = k then (z, x) else (z, y))
    by_cases e : z = k
    · rw [if_pos e, if_pos (congrArg TK.ky e)]; exact ⟨rfl, r⟩
    · rw [if_neg e, if_neg fun q => e (TK.inj q)]; exact ⟨rfl, h2⟩
theorem put_paired {kvs : List (List Key × V)} {l : List (κ × α)} {v : V} {k : κ} {x : α} (h : Paired (EnR G) kvs l) (r : rep G v x) : Paired (EnR G) (putK kvs (TK.ky k) v) (put l k x) := by
  unfold putK put
  rw [any_look k h]
  by_cases q : (l.any fun e => decide (e.1 = k)) = true
  · rw [if_pos q, if_pos q]; exact repl_paired r h
  · rw [if_neg q, if_neg q]; exact paired_app h (.cons ⟨rfl, r⟩ .nil)
theorem Mt.step {M : Addr → Prop} {G' H' : Hp} {d : Addr} {l : List (κ × α)} (x : Mt G H d l) (g : Gr M G H G' H') (hp : ¬ M d) : Mt G' H' d l := by
  obtain ⟨h1, kvs, h2, h3⟩ := x
  exact ⟨g.out h1 h2, kvs, g.h _ _ hp h2, enr_mono g.g h3⟩
theorem Mt.step0 {G' H' : Hp} {d : Addr} {l : List (κ × α)} (x : Mt G H d l) (g : Gr M0 G H G' H') : Mt G' H' d l := x.step g fun z => z
theorem Mt.other {q d : Addr} {o : HO} {l : List (κ × α)} (x : Mt G H d l) (ne : d ≠ q) : Mt G (upd H q o) d l := by
  obtain ⟨h1, kvs, h2, h⟩ := x
  exact ⟨h1, kvs, by rw [upd_ne ne]; exact h2, h⟩
theorem Mt.frz {M : Addr → Prop} {Ge He : Hp} {d : Addr} {l : List (κ × α)} (x : Mt G H d l) (g : Gr M Ge He G H) (np : He d = none) : ∃ G', Gr M Ge He G' H ∧ Pf.rep G' (.ref d) (Dct.mk l) ∧ Same G G' := by
  obtain ⟨h1, kvs, h2, h4⟩ := x
  exact ⟨upd G d (.dT kvs), g.still np h1 h2, ⟨d, kvs, rfl, upd_same, enr_mono (same_new h1) h4⟩, same_new h1⟩
theorem sq_newT {i : Nat} (s : Same G H) (k : ∀ d o, H d = none → Mt (κ := κ) (α := α) G (upd H d o) d [] → Same G (upd H d o) → u D (σ.set i (some (.ref d))) (upd H d o)) : tSeq (tAsg tDNewT (gName i)) u D σ H := fun d nd =>
  k d (.dT []) nd ⟨up_none s nd, [], upd_same, .nil⟩ (same_mut s (up_none s nd))
/-- d[k] = e -/
theorem st_tput {i : Nat} {d : Addr} {l : List (κ × α)} {p : κ} {x : α} (hv : σ[i]? = some (some (.ref d))) (md : Mt G H d l) (s : Same G H) (hx : EvH te σ G H x) (hk : Ev tb σ G p) (hn : l.length < 100000)
    (k : ∀ G' H' o, Gr M0 G H G' H' → Mt G' (upd H' d o) d (put l p x) → Same G' (upd H' d o) → D.nx σ (upd H' d o)) : sDPut (tVar i) tb te D σ H := hx _ fun v G1 H1 g1 k1 =>
  ⟨.ref d, hv, (hk.mono g1.g) H1 g1.i _ fun w G2 H2 g2 k2 => by
    obtain ⟨n1, kvs, e1, e3⟩ := (md.step0 g1).step0 g2
    obtain ⟨b, rfl, h2⟩ := TK.of k2
    have hl := Paired.length e3
    exact ⟨d, upd H2 d (.dT (putK kvs (TK.ky p) v)), rfl, DPut.t e1 (g2.i _ _ h2) (sl_lt (by omega)), k G2 H2 _ (g1.trans g2) ⟨n1, _, upd_same, put_paired e3 (Rep.mono g2.g k1)⟩ (same_mut g2.i n1)⟩⟩
theorem sq_tput {i : Nat} {d : Addr} {l : List (κ × α)} {p : κ} {x : α} (hv : σ[i]? = some (some (.ref d))) (md : Mt G H d l) (s : Same G H) (hx : EvH te σ G H x) (hk : Ev tb σ G p) (hn : l.length < 100000)
    (k : ∀ G' H' o, Gr M0 G H G' H' → Mt G' (upd H' d o) d (put l p x) → Same G' (upd H' d o) → u D σ (upd H' d o)) : tSeq (sDPut (tVar i) tb te) u D σ H := st_tput (D := { D with nx := u D }) hv md s hx hk hn k
/-! d stands still -/
theorem ev_tin {p : κ} {d : Dct κ α} (ha : Ev ta σ G p) (hb : Ev tb σ G d) : Ev (tDIn ta tb) σ G ((look d.l p).isSome) := fun H i Q q =>
  ha H i _ fun v G1 H1 g1 k1 => (hb.mono g1.g) H1 g1.i _ fun u G2 H2 g2 k2 => by
    obtain ⟨b, rfl, h2⟩ := TK.of k1
    obtain ⟨a, kvs, rfl, e1, e2⟩ := k2
    exact ⟨a, valV kvs (TK.ky p), rfl, DGet.t (g2.i _ _ e1) (g2.i _ _ (g2.g _ _ h2)), q _ G2 H2 (g1.trans g2) (by rw [opt_some (val_look p e2)]; rfl)⟩
theorem ev_tnotin {p : κ} {d : Dct κ α} (ha : Ev ta σ G p) (hb : Ev tb σ G d) : Ev (tDNotIn ta tb) σ G (!(look d.l p).isSome) := fun H i Q q =>
  ha H i _ fun v G1 H1 g1 k1 => (hb.mono g1.g) H1 g1.i _ fun u G2 H2 g2 k2 => by
    obtain ⟨b, rfl, h2⟩ := TK.of k1
    obtain ⟨a, kvs, rfl, e1, e2⟩ := k2
    exact ⟨a, valV kvs (TK.ky p), rfl, DGet.t (g2.i _ _ e1) (g2.i _ _ (g2.g _ _ h2)), q _ G2 H2 (g1.trans g2) (by rw [opt_some (val_look p e2)]; rfl)⟩
theorem ev_tget {p : κ} {d : Dct κ α} {x : α} (ha : Ev ta σ G d) (hb : Ev tb σ G p) (hm : look d.l p = some x) : Ev (tDGet ta tb) σ G x := fun H i Q q =>
  ha H i _ fun v G1 H1 g1 k1 => (hb.mono g1.g) H1 g1.i _ fun u G2 H2 g2 k2 => by
    obtain ⟨b, rfl, h2⟩ := TK.of k2
    obtain ⟨a, kvs, rfl, e1, e2⟩ := Rep.mono g2.g k1
    have h := val_look p e2
    rw [hm] at h
    obtain ⟨w, e4, r⟩ := h
    exact ⟨a, w, rfl, e4 ▸ DGet.t (g2.i _ _ e1) (g2.i _ _ h2), q w G2 H2 (g1.trans g2) r⟩
/-- a value or None -/
instance : Rep (Option Int) := ⟨fun _ v x => v = match x with | some i => .int i | none => .non, fun _ h => h⟩
instance : Flat (Option Int) := ⟨fun h => h⟩
theorem rep_on {v : V} (h : rep (α := Option Int) G v none) : v = .non := h
theorem rep_os {v : V} {i : Int} (h : rep (α := Option Int) G v (some i)) : v = .int i := h
/-- d.get(k) -/
theorem ev_tget1 {p : κ} {d : Dct κ Int} (ha : Ev ta σ G d) (hb : Ev tb σ G p) : Ev (tDGet1 ta tb) σ G (look d.l p) := fun H i Q q =>
  ha H i _ fun v G1 H1 g1 k1 => by
    obtain ⟨a, kvs, rfl, e1, e2⟩ := k1
    refine ⟨a, rfl, .inr ⟨kvs, .inl (g1.i _ _ e1)⟩, (hb.mono g1.g) H1 g1.i _ fun u G2 H2 g2 k2 => ?_⟩
    obtain ⟨b, rfl, h2⟩ := TK.of k2
    refine ⟨valV kvs (TK.ky p), DGet.t (g2.i _ _ (g2.g _ _ e1)) (g2.i _ _ h2), q _ G2 H2 (g1.trans g2) ?_⟩
    have h := val_look p e2
    cases e : look d.l p with
    | none => rw [e] at h; rw [show valV kvs (TK.ky p) = none from h]; rfl
    | some x => rw [e] at h; obtain ⟨w, e4, r⟩ := h; rw [e4]; cases r; rfl
theorem ev_isON {o : Option Int} (h : Ev ta σ G o) : Ev (tOp rIsN ta (tC .non)) σ G (!o.isSome) := fun H i Q q => h H i _ fun v G' H' g r => ⟨rfl, q _ G' H' g (by
  cases o with
  | none => rw [rep_on r]; rfl
  | some i => rw [rep_os r]; rfl)⟩
end
section
variable {κ α : Type} [DecidableEq κ]
/-! a law of look and put -/
theorem look_put (l : List (κ × α)) (k q : κ) (x : α) : look (put l k x) q = if q = k then some x else look l q := by
  have key : ∀ l : List (κ × α), (l.map fun e => if e.1 = k then (e.1, x) else e).find? (fun e => decide (e.1 = q)) = (l.find? fun e => decide (e.1 = q)).map fun e => if e.1 = k then (e.1, x) else e := by
    intro l
    induction l with
    | nil => rfl
    | cons e r ih =>
      rw [List.map_cons, List.find?_cons, List.find?_cons]
      have h1 : (if e.1 = k then (e.1, x) else e).1 = e.1 := by by_cases h : e.1 = k <;> simp [h]
      rw [h1]
      cases decide (e.1 = q) with
      | true => rfl
      | false => exact ih
  unfold look put
  by_cases h : (l.any fun e => decide (e.1 = k)) = true
  · rw [if_pos h, key]
    by_cases e : q = k
    · subst e
      rw [if_pos rfl]
      cases f : l.find? fun e => decide (e.1 = q) with
      | none =>
        obtain ⟨e, he, hq⟩ := List.any_eq_true.mp h
        exact absurd hq (List.find?_eq_none.mp f e he)
      | some e =>
        have := List.find?_some f
        have he : e.1 = q := of_decide_eq_true this
        show some (if e.1 = q then (e.1, x) else e).2 = some x
        rw [if_pos he]
    · rw [if_neg e]
      cases f : l.find? fun e => decide (e.1 = q) with
      | none => rfl
      | some z =>
        have he := List.find?_some f
        have he : z.1 = q := of_decide_eq_true he
        show some (if z.1 = k then (z.1, x) else z).2 = some z.2
        rw [if_neg fun h => e (he.symm.trans h)]
  · rw [if_neg h, List.find?_append]
    have hn : (l.find? fun e => decide (e.1 = k)) = none := by
      refine List.find?_eq_none.mpr fun e he hq => h (List.any_eq_true.mpr ⟨e, he, hq⟩)
    by_cases e : q = k
    · subst e
      rw [if_pos rfl, hn, Option.none_or]
      rw [List.find?_cons, show decide ((q, x).1 = q) = true from decide_eq_true rfl]
      rfl
    · rw [if_neg e]
      cases f : l.find? fun e => decide (e.1 = q) with
      | none =>
        rw [Option.none_or, List.find?_cons, show decide ((k, x).1 = q) = false from decide_eq_false fun z => e z.symm]
        rfl
      | some z => rfl
theorem put_keys (l : List (κ × α)) (k : κ) (x : α) : (put l k x).map (·.1) = if k ∈ l.map (·.1) then l.map (·.1) else l.map (·.1) ++ [k] := by
  unfold put
  by_cases h : (l.any fun e => decide (e.1 = k)) = true
  · obtain ⟨e, he, hq⟩ := List.any_eq_true.mp h
    rw [if_pos h, if_pos (List.mem_map.mpr ⟨e, he, of_decide_eq_true hq⟩), List.map_map]
    refine List.map_congr_left fun e _ => ?_
    show (if e.1 = k then (e.1, x) else e).1 = e.1
    by_cases h : e.1 = k <;> simp [h]
  · rw [if_neg h, if_neg fun z => by
      obtain ⟨e, he, hq⟩ := List.mem_map.mp z
      exact h (List.any_eq_true.mpr ⟨e, he, decide_eq_true hq⟩)]
    simp
theorem put_nodup {l : List (κ × α)} (h : (l.map (·.1)).Nodup) (k : κ) (x : α) : ((put l k x).map (·.1)).Nodup := by
  rw [put_keys]
  by_cases e : k ∈ l.map (·.1)
  · rw [if_pos e]; exact h
  · rw [if_neg e]
    refine List.nodup_append.mpr ⟨h, List.pairwise_singleton _ _, fun a ha b hb => ?_⟩
    rw [List.mem_singleton.mp hb]
    intro z; subst z; exact e ha
theorem put_len (l : List (κ × α)) (k : κ) (x : α) : (put l k x).length ≤ l.length + 1 := by
  unfold put
  split
  · rw [List.length_map]; omega
  · rw [List.length_append]; exact Nat.le_refl _
theorem look_mem {l : List (κ × α)} {k : κ} : (look l k).isSome = true ↔ k ∈ l.map (·.1) := by
  unfold look
  rw [Option.isSome_map, List.find?_isSome]
  constructor
  · rintro ⟨e, he, hq⟩
    exact List.mem_map.mpr ⟨e, he, of_decide_eq_true hq⟩
  · intro h
    obtain ⟨e, he, hq⟩ := List.mem_map.mp h
    exact ⟨e, he, decide_eq_true hq⟩
end
end Pf

namespace Pf
open PySem PySem.Spec PyProof.Rows L2
/-! ### enumerate of a tuple -/
section
variable {prog : Program} {w : World} {A : Around} {E : Value → Shared → Prop} {s : Shared}
end
/-! ### a loop whose source has come -/
section
variable {α : Type} [Rep α] {σ : L2.St} {G H : Hp} {D : Ends} {ts u : TS} {g : TG} {K : Fg}
end
/-! ### t[::-1], t a tuple -/
section
variable {prog : Program} {w : World} {A : Around} {E : Value → Shared → Prop} {s : Shared}
end
end Pf

namespace Pf
open PySem PySem.Spec PyProof.Rows L2
/-! ### a plan, looked at cut by cut -/
/-! ### enumerate, <= of pairs -/
def enumI {α : Type} (xs : List α) : List (Int × α) := xs.zipIdx.map fun p => ((p.2 : Int), p.1)
theorem enum_len {α : Type} (xs : List α) : (enumI xs).length = xs.length := by unfold enumI; rw [List.length_map, List.length_zipIdx]
theorem enum_get {α : Type} {xs : List α} {k : Nat} {x : Int × α} (h : (enumI xs)[k]? = some x) : x.1 = (k : Int) ∧ xs[k]? = some x.2 := by
  unfold enumI at h
  rw [List.getElem?_map, List.getElem?_zipIdx] at h
  cases e : xs[k]? with
  | none => rw [e] at h; cases h
  | some a =>
    rw [e] at h
    have h := Option.some.inj h
    subst h
    exact ⟨by show ((0 + k : Nat) : Int) = k; omega, rfl⟩
section
variable {α β γ : Type} [Rep α] [Rep β] [Rep γ] {σ : L2.St} {G H : Hp} {ta tb : TE} {K : Fg}
end
end Pf

namespace Pf
open PySem PySem.Spec PyProof.Rows L2
def waysBeside (ways : List Int) (first chosen last : Int) : Int := ix ways (chosen - first + 1) * ix ways (last - chosen + 1)
/-! ### the way of a number -/
def before (W : List Int) (s m e : Int) : Int := ((rng (s + 1) m).map fun c => waysBeside W s c e).sum
inductive CutN (W : List Int) : Int → Int → Int → List (Int × Int) → Prop
  | leaf {s e k : Int} : e - s < 2 → CutN W s e k []
  | node {s m e k : Int} {A B : List (Int × Int)} : s < m → m < e → 0 ≤ k - before W s m e → k - before W s m e < waysBeside W s m e →
      CutN W s m ((k - before W s m e) / ix W (e - m + 1)) A → CutN W m e ((k - before W s m e) % ix W (e - m + 1)) B → CutN W s e k (([(s, m), (m, e)].filter wideB) ++ A ++ B)
theorem CutN.cut {W : List Int} {s e k : Int} {L : List (Int × Int)} (h : CutN W s e k L) : s < e → ∃ A, CutT s e A ∧ L = A.filter wideB := by
  induction h with
  | leaf h => intro q; exact ⟨[], .leaf (by omega), rfl⟩
  | @node s m e k A B h1 h2 h3 h4 _ _ ih1 ih2 =>
    intro _
    obtain ⟨A', c1, e1⟩ := ih1 h1
    obtain ⟨B', c2, e2⟩ := ih2 h2
    refine ⟨_, .node h1 h2 c1 c2, ?_⟩
    rw [e1, e2, List.append_assoc, ← List.filter_append, ← List.filter_append]
    rfl
theorem sum_snoc (l : List Int) (x : Int) : (l ++ [x]).sum = l.sum + x := by
  rw [List.sum_append]
  simp
theorem before_s {W : List Int} {s m e : Int} (h : s < m) : before W s (m + 1) e = before W s m e + waysBeside W s m e := by
  unfold before
  rw [rng_snoc (by omega), List.map_append]
  exact sum_snoc _ _
theorem rng_shift (a b k : Int) : rng (a + k) (b + k) = (rng a b).map fun c => c + k := by
  unfold rng
  rw [List.map_map, show (b + k - (a + k)).toNat = (b - a).toNat by omega]
  refine List.map_congr_left fun c _ => ?_
  show a + k + (c : Int) = a + (c : Int) + k
  omega
theorem before_shift (W : List Int) (s m e k : Int) : before W (s + k) (m + k) (e + k) = before W s m e := by
  unfold before
  rw [show s + k + 1 = s + 1 + k by omega, rng_shift, List.map_map]
  congr 1
  refine List.map_congr_left fun c _ => ?_
  show waysBeside W (s + k) (c + k) (e + k) = waysBeside W s c e
  unfold waysBeside
  rw [show c + k - (s + k) + 1 = c - s + 1 by omega, show e + k - (c + k) + 1 = e - c + 1 by omega]
structure WOk (W : List Int) (n : Int) : Prop where
  len : n < W.length
  pos : ∀ i, 2 ≤ i → i ≤ n → 0 < ix W i
  small : ∀ i, 0 ≤ ix W i ∧ ix W i < 2 ^ 80
  sum : ∀ m, 3 ≤ m → m ≤ n → ix W m = before W 0 (m - 1) (m - 1)
theorem WOk.whole {W : List Int} {n s e : Int} (w : WOk W n) (h : 2 ≤ e - s) (hn : e - s + 1 ≤ n) : before W s e e = ix W (e - s + 1) := by
  rw [w.sum (e - s + 1) (by omega) hn, ← before_shift W 0 _ _ s]
  rw [show (0 : Int) + s = s by omega, show e - s + 1 - 1 + s = e by omega]
theorem WOk.beside {W : List Int} {n s m e : Int} (w : WOk W n) : 0 ≤ waysBeside W s m e := Int.mul_nonneg (w.small _).1 (w.small _).1
theorem CutT.few {s e : Int} {A : List (Int × Int)} (h : CutT s e A) : ((A.filter wideB).length : Int) ≤ e - s := by
  rw [h.wide]
  have := h.lt
  split <;> omega

end Pf

namespace Pf
open PySem PySem.Spec PyProof.Rows L2
/-! ### divmod of great numbers -/
section
variable {α β : Type} [Rep α] [Rep β] {σ : L2.St} {G H : Hp} {te ta tb : TE} {tt : TT} {x : α} {K : Fg} {D : Ends} {ts tr u : TS}
/-! ### lists of one's own -/
/-! ### while, += of whole numbers -/
end
/-! ### defs that refuse -/
section
variable {α β : Type} [Rep α] [Rep β]
end
end Pf

namespace Pf
open PySem PySem.Spec PyProof.Rows L2
/-! ### the number of a way to cut -/
inductive NumT (W : List Int) : Int → Int → List (Int × Int) → Int → Prop
  | leaf {s e : Int} : e - s = 1 → NumT W s e [] 0
  | node {s m e k1 k2 : Int} {A B : List (Int × Int)} : s < m → m < e → NumT W s m A k1 → NumT W m e B k2 → NumT W s e ((s, m) :: (m, e) :: (A ++ B)) (before W s m e + k1 * ix W (e - m + 1) + k2)
theorem NumT.cut {W : List Int} {s e k : Int} {A : List (Int × Int)} (h : NumT W s e A k) : CutT s e A := by
  induction h with
  | leaf h => exact .leaf h
  | node h1 h2 _ _ ih1 ih2 => exact .node h1 h2 ih1 ih2
theorem before_mono {W : List Int} {n s e : Int} (w : WOk W n) : ∀ (d : Nat) (m : Int), s < m → before W s m e ≤ before W s (m + d) e
  | 0, m, _ => by rw [show m + ((0 : Nat) : Int) = m by omega]; exact Int.le_refl _
  | d + 1, m, h => by
    have ih := before_mono w d m h (e := e)
    have z := before_s (W := W) (s := s) (m := m + d) (e := e) (by omega)
    have b := w.beside (s := s) (m := m + d) (e := e)
    rw [show m + ((d + 1 : Nat) : Int) = m + d + 1 by omega]
    omega
theorem before_le {W : List Int} {n s e m m' : Int} (w : WOk W n) (h : s < m) (h2 : m ≤ m') : before W s m e ≤ before W s m' e := by
  have z := before_mono w (m' - m).toNat m h (e := e)
  rw [show m + (((m' - m).toNat : Nat) : Int) = m' by omega] at z
  exact z
theorem CutN.uniq {W : List Int} {n s e k : Int} {L : List (Int × Int)} (w : WOk W n) (h : CutN W s e k L) : ∀ {L' : List (Int × Int)}, CutN W s e k L' → L = L' := by
  induction h with
  | leaf h =>
    intro L' h'
    cases h' with
    | leaf _ => rfl
    | node a b _ _ _ _ => omega
  | @node s m e k A B h1 h2 h3 h4 _ _ ih1 ih2 =>
    intro L' h'
    cases h' with
    | leaf _ => omega
    | @node _ m' _ _ A' B' a1 a2 a3 a4 c1 c2 =>
      have em : m = m' := by
        have s1 := before_s (W := W) (s := s) (m := m) (e := e) h1
        have s2 := before_s (W := W) (s := s) (m := m') (e := e) a1
        rcases Int.lt_trichotomy m m' with q | q | q
        · have := before_le w (s := s) (e := e) (m := m + 1) (m' := m') (by omega) (by omega); omega
        · exact q
        · have := before_le w (s := s) (e := e) (m := m' + 1) (m' := m) (by omega) (by omega); omega
      subst em
      rw [ih1 c1, ih2 c2]
/-! the lines of an arc -/
def Sub (J : Int → Int → Prop) (s e : Int) (A : List (Int × Int)) : Prop := ∀ a b, s ≤ a → a < b → b ≤ e → ¬ (a = s ∧ b = e) → (J a b ↔ b - a = 1 ∨ (a, b) ∈ A)
theorem Sub.left {J : Int → Int → Prop} {s m e : Int} {A B : List (Int × Int)} (h : Sub J s e ((s, m) :: (m, e) :: (A ++ B))) (h1 : s < m) (h2 : m < e) (hB : CutT m e B) : Sub J s m A := by
  intro a b ha hab hb hne
  rw [h a b ha hab (by omega) (by omega)]
  constructor
  · rintro (z | z)
    · exact .inl z
    · rcases List.mem_cons.mp z with z | z
      · injection z with z1 z2; omega
      rcases List.mem_cons.mp z with z | z
      · injection z with z1 z2; omega
      rcases List.mem_append.mp z with z | z
      · exact .inr z
      · have := hB.inside _ z
        have q1 : m ≤ a := this.1
        omega
  · rintro (z | z)
    · exact .inl z
    · exact .inr (List.mem_cons_of_mem _ (List.mem_cons_of_mem _ (List.mem_append_left _ z)))
theorem Sub.right {J : Int → Int → Prop} {s m e : Int} {A B : List (Int × Int)} (h : Sub J s e ((s, m) :: (m, e) :: (A ++ B))) (h1 : s < m) (h2 : m < e) (hA : CutT s m A) : Sub J m e B := by
  intro a b ha hab hb hne
  rw [h a b (by omega) hab hb (by omega)]
  constructor
  · rintro (z | z)
    · exact .inl z
    · rcases List.mem_cons.mp z with z | z
      · injection z with z1 z2; omega
      rcases List.mem_cons.mp z with z | z
      · injection z with z1 z2; omega
      rcases List.mem_append.mp z with z | z
      · have := hA.inside _ z
        have q1 : b ≤ m := this.2.2.1
        omega
      · exact .inr z
  · rintro (z | z)
    · exact .inl z
    · exact .inr (List.mem_cons_of_mem _ (List.mem_cons_of_mem _ (List.mem_append_right _ z)))
theorem Sub.mid {J : Int → Int → Prop} {s m e : Int} {A B : List (Int × Int)} (h : Sub J s e ((s, m) :: (m, e) :: (A ++ B))) (h1 : s < m) (h2 : m < e) : J s m ∧ J m e :=
  ⟨(h s m (by omega) h1 (by omega) (by omega)).mpr (.inr List.mem_cons_self), (h m e (by omega) h2 (by omega) (by omega)).mpr (.inr (List.mem_cons_of_mem _ List.mem_cons_self))⟩
theorem Sub.no {J : Int → Int → Prop} {s m e c : Int} {A B : List (Int × Int)} (h : Sub J s e ((s, m) :: (m, e) :: (A ++ B))) (h1 : s < m) (h2 : m < e) (hA : CutT s m A) (hB : CutT m e B) (hc : s < c) (hcm : c < m) : ¬ J c e := by
  intro z
  rcases (h c e (by omega) (by omega) (by omega) (by omega)).mp z with z | z
  · omega
  rcases List.mem_cons.mp z with z | z
  · injection z with z1 z2; omega
  rcases List.mem_cons.mp z with z | z
  · injection z with z1 z2; omega
  rcases List.mem_append.mp z with z | z
  · have := hA.inside _ z
    have q1 : e ≤ m := this.2.2.1
    omega
  · have := hB.inside _ z
    have q1 : m ≤ c := this.1
    omega
theorem mem_sides {n a b : Int} : (a, b) ∈ lawSides n ↔ (0 ≤ a ∧ a < n - 1 ∧ b = a + 1) ∨ (a = 0 ∧ b = n - 1) := by
  unfold lawSides
  rw [List.mem_append, List.mem_singleton]
  constructor
  · rintro (z | z)
    · obtain ⟨l, hl, e⟩ := List.mem_map.mp z
      have hl := rng_mem.mp hl
      injection e with e1 e2
      subst e1
      exact .inl ⟨hl.1, hl.2, e2.symm⟩
    · injection z with z1 z2
      exact .inr ⟨z1, z2⟩
  · rintro (⟨z1, z2, z3⟩ | ⟨z1, z2⟩)
    · exact .inl (List.mem_map.mpr ⟨a, rng_mem.mpr ⟨z1, z2⟩, by rw [z3]⟩)
    · exact .inr (by rw [z1, z2])
theorem mem_lines {n a b : Int} {L : List (Int × Int)} (h : 2 ≤ n) : (a, b) ∈ linesM (n, Tup.mk (sortP L)) ↔ (a, b) ∈ lawSides n ∨ (a, b) ∈ L := by
  rw [lines_eq (p := (n, Tup.mk (sortP L))) h]
  unfold allLines
  rw [(sortP_perm _).mem_iff, List.mem_append]
  show _ ∨ (a, b) ∈ sortP L ↔ _
  rw [(sortP_perm L).mem_iff]
theorem sub_p {n : Int} {A : List (Int × Int)} (h : CutT 1 n A) (h3 : 3 ≤ n) : Sub (fun a b => lawPair (a % n) (b % n) ∈ linesM (planOf n A)) 1 n A := by
  intro a b ha hab hb hne
  have ea : a % n = a := Int.emod_eq_of_lt (by omega) (by omega)
  show lawPair (a % n) (b % n) ∈ linesM (planOf n A) ↔ _
  rw [ea, planOf_eq]
  by_cases hbn : b = n
  · subst hbn
    rw [Int.emod_self, lp_sym, lp_lt (by omega), mem_lines (by omega), mem_sides]
    constructor
    · rintro (z | z)
      · left; omega
      · rcases cuts_mem h z with q | q
        · have : (1 : Int) ≤ 0 := q.2.1
          omega
        · exact .inr q.2.1
    · rintro (z | z)
      · left; right; omega
      · by_cases q : b - a = 1
        · left; right; omega
        · refine .inr (List.mem_map.mpr ⟨(a, b), List.mem_filter.mpr ⟨z, decide_eq_true (by show 1 < b - a; omega)⟩, ?_⟩)
          exact fold_n ha rfl
  · have eb : b % n = b := Int.emod_eq_of_lt (by omega) (by omega)
    rw [eb, lp_lt hab, mem_lines (by omega), mem_sides]
    constructor
    · rintro (z | z)
      · left; omega
      · rcases cuts_mem h z with q | q
        · exact .inr q.1
        · have : a = 0 := q.1
          omega
    · rintro (z | z)
      · left; left; omega
      · by_cases q : b - a = 1
        · left; left; omega
        · refine .inr (List.mem_map.mpr ⟨(a, b), List.mem_filter.mpr ⟨z, decide_eq_true (by show 1 < b - a; omega)⟩, ?_⟩)
          exact fold_lt ha hab (by omega)
/-! moved by one -/
abbrev sh (c : Int) (x : Int × Int) : Int × Int := (x.1 + c, x.2 + c)
/-! by reckoning -/
end Pf

namespace Pf
open PySem PySem.Spec PyProof.Rows L2
/-! ### lines, and the parts between them -/
/-- a and b are joined -/
def Jn (p : Plan) (a b : Int) : Prop := lawPair a b ∈ linesM p
instance (p : Plan) (a b : Int) : Decidable (Jn p a b) := inferInstanceAs (Decidable (_ ∈ _))
theorem Jn.sym {p : Plan} {a b : Int} (h : Jn p a b) : Jn p b a := by unfold Jn at h ⊢; rw [lp_sym]; exact h
theorem lines_mem {p : Plan} (h : isPlanM p = true) {a b : Int} : (a, b) ∈ linesM p ↔ (a, b) ∈ lawSides p.1 ∨ (a, b) ∈ p.2.l := by
  obtain ⟨h3, _⟩ := plan_facts h
  rw [lines_eq (by omega)]
  unfold allLines
  rw [(sortP_perm _).mem_iff, List.mem_append]
theorem jn_lt {p : Plan} (h : isPlanM p = true) {a b : Int} (hab : a < b) : Jn p a b ↔ (0 ≤ a ∧ b < p.1 ∧ b = a + 1) ∨ (a = 0 ∧ b = p.1 - 1) ∨ (a, b) ∈ p.2.l := by
  obtain ⟨h3, _⟩ := plan_facts h
  unfold Jn
  rw [lp_lt hab, lines_mem h, mem_sides]
  constructor
  · rintro ((z | z) | z)
    · left; omega
    · right; left; exact z
    · right; right; exact z
  · rintro (z | z | z)
    · left; left; omega
    · left; right; exact z
    · right; exact z
theorem Jn.ne {p : Plan} (h : isPlanM p = true) {a b : Int} (j : Jn p a b) : 0 ≤ a ∧ a < p.1 ∧ 0 ≤ b ∧ b < p.1 ∧ a ≠ b := by
  obtain ⟨h3, _⟩ := plan_facts h
  unfold Jn at j
  rw [lines_eq (by omega)] at j
  have := line_lt h j
  rcases lp_cases a b with ⟨e, q⟩ | ⟨e, q⟩
  · rw [e] at this
    have h1 : 0 ≤ a := this.1
    have h2 : a < b := this.2.1
    have h3 : b < p.1 := this.2.2
    omega
  · rw [e] at this
    have h1 : 0 ≤ b := this.1
    have h2 : b < a := this.2.1
    have h3 : a < p.1 := this.2.2
    omega
theorem jn_side {p : Plan} (h : isPlanM p = true) {a b : Int} (h0 : 0 ≤ a) (h1 : b < p.1) (e : b = a + 1) : Jn p a b := (jn_lt h (by omega)).mpr (.inl ⟨h0, h1, e⟩)
theorem jn_last {p : Plan} (h : isPlanM p = true) : Jn p 0 (p.1 - 1) := by
  obtain ⟨h3, _⟩ := plan_facts h
  exact (jn_lt h (by omega)).mpr (.inr (.inl ⟨rfl, rfl⟩))
theorem no_cross {p : Plan} (h : isPlanM p = true) {a b c d : Int} (hab : a < b) (hbc : b < c) (hcd : c < d) (h1 : Jn p a c) (h2 : Jn p b d) : False := by
  obtain ⟨_, _, _, _, v, _⟩ := plan_facts h
  have n1 := h1.ne h
  have n2 := h2.ne h
  rcases (jn_lt h (by omega)).mp h1 with z | z | z
  · omega
  · omega
  rcases (jn_lt h (by omega)).mp h2 with y | y | y
  · omega
  · omega
  exact v.no _ z _ y ⟨hab, hbc, hcd⟩
/-- going round, a, b and c are met in this order -/
def Cy (a b c : Int) : Prop := (a < b ∧ b < c) ∨ (b < c ∧ c < a) ∨ (c < a ∧ a < b)
instance (a b c : Int) : Decidable (Cy a b c) := inferInstanceAs (Decidable (_ ∨ _))
theorem Cy.rot {a b c : Int} (h : Cy a b c) : Cy b c a := by unfold Cy at *; omega
/-- a part, as one goes round it: s, v, e -/
structure Tr (p : Plan) (s v e : Int) : Prop where
  cy : Cy s v e
  se : Jn p s e
  sv : Jn p s v
  ve : Jn p v e
theorem Tr.rot {p : Plan} {s v e : Int} (t : Tr p s v e) : Tr p v e s := ⟨t.cy.rot, t.sv.sym, t.ve, t.se.sym⟩
instance (p : Plan) (s v e : Int) : Decidable (Tr p s v e) := decidable_of_iff (Cy s v e ∧ Jn p s e ∧ Jn p s v ∧ Jn p v e) ⟨fun h => ⟨h.1, h.2.1, h.2.2.1, h.2.2.2⟩, fun h => ⟨h.1, h.2, h.3, h.4⟩⟩
theorem tr_aux {p : Plan} (h : isPlanM p = true) {s v w e : Int} (t : Tr p s v e) (u : Tr p s w e) (h1 : Cy s v w) : False := by
  have a := t.cy; have b := u.cy
  unfold Cy at a b h1
  have x1 := u.sv; have x2 := t.ve
  by_cases c1 : s < v ∧ v < w ∧ w < e
  · exact no_cross h c1.1 c1.2.1 c1.2.2 x1 x2
  by_cases c2 : v < w ∧ w < e ∧ e < s
  · exact no_cross h c2.1 c2.2.1 c2.2.2 x2 x1.sym
  by_cases c3 : w < e ∧ e < s ∧ s < v
  · exact no_cross h c3.1 c3.2.1 c3.2.2 x1.sym x2.sym
  by_cases c4 : e < s ∧ s < v ∧ v < w
  · exact no_cross h c4.1 c4.2.1 c4.2.2 x2.sym x1
  omega
theorem Tr.uniq {p : Plan} (h : isPlanM p = true) {s v w e : Int} (t : Tr p s v e) (u : Tr p s w e) : v = w := by
  apply Classical.byContradiction
  intro ne
  have a := t.cy; have b := u.cy
  by_cases c : Cy s v w
  · exact tr_aux h t u c
  · refine tr_aux h u t ?_
    unfold Cy at *; omega
/-! going round -/
theorem wrap {n x : Int} (h0 : 0 ≤ x) (h2 : x < 2 * n) : x % n = if x < n then x else x - n := by
  by_cases h : x < n
  · rw [if_pos h, Int.emod_eq_of_lt h0 h]
  · rw [if_neg h]
    have e : x = (x - n) + n := by omega
    rw [e, Int.add_emod_right, Int.emod_eq_of_lt (by omega) (by omega)]
    omega
theorem wrapN {n x : Int} (h0 : -n ≤ x) (h2 : x < n) : x % n = if x < 0 then x + n else x := by
  by_cases h : x < 0
  · rw [if_pos h, ← Int.add_emod_right, Int.emod_eq_of_lt (by omega) (by omega)]
  · rw [if_neg h, Int.emod_eq_of_lt (by omega) (by omega)]
def goM (n s e : Int) : List Int := (rng 1 ((e - s) % n)).map fun k => (s + k) % n
theorem mem_go {n s e c : Int} (hs : 0 ≤ s ∧ s < n) (he : 0 ≤ e ∧ e < n) (ne : s ≠ e) : c ∈ goM n s e ↔ 0 ≤ c ∧ c < n ∧ Cy s c e := by
  unfold goM
  rw [List.mem_map, wrapN (by omega) (by omega)]
  constructor
  · rintro ⟨k, hk, rfl⟩
    have hk := rng_mem.mp hk
    have hkn : k < n := by split at hk <;> omega
    rw [wrap (by omega) (by omega)]
    unfold Cy
    split <;> split at hk <;> omega
  · rintro ⟨h0, h1, hc⟩
    unfold Cy at hc
    refine ⟨if c < s then c + n - s else c - s, rng_mem.mpr ?_, ?_⟩
    · split <;> split <;> omega
    · split
      · rw [show s + (c + n - s) = c + n by omega, Int.add_emod_right, Int.emod_eq_of_lt h0 h1]
      · rw [show s + (c - s) = c by omega, Int.emod_eq_of_lt h0 h1]
/-- the third corner between t and u, going round -/
def thM (p : Plan) (t u : Int) : Option Int := (goM p.1 t u).find? fun c => decide (Jn p c t) && decide (Jn p c u)
theorem th_iff {p : Plan} (h : isPlanM p = true) {t u c : Int} (j : Jn p t u) : thM p t u = some c ↔ Tr p t c u := by
  have ne := j.ne h
  constructor
  · intro e
    unfold thM at e
    have h1 := List.mem_of_find?_eq_some e
    have h2 := List.find?_some e
    simp only [Bool.and_eq_true, decide_eq_true_eq] at h2
    have := (mem_go (by omega) (by omega) (by omega)).mp h1
    exact ⟨this.2.2, j, h2.1.sym, h2.2⟩
  · intro t'
    have n1 := t'.sv.ne h
    have hm : c ∈ goM p.1 t u := (mem_go (by omega) (by omega) (by omega)).mpr ⟨by omega, by omega, t'.cy⟩
    cases e : thM p t u with
    | none =>
      unfold thM at e
      have := List.find?_eq_none.mp e c hm
      simp only [Bool.and_eq_true, decide_eq_true_eq, not_and] at this
      exact absurd t'.ve (this t'.sv.sym)
    | some d =>
      unfold thM at e
      have h1 := List.mem_of_find?_eq_some e
      have h2 := List.find?_some e
      simp only [Bool.and_eq_true, decide_eq_true_eq] at h2
      have := (mem_go (by omega) (by omega) (by omega)).mp h1
      rw [Tr.uniq h t' ⟨this.2.2, j, h2.1.sym, h2.2⟩]
/-! the parts -/
abbrev T3 := Tri Int Int Int
def partsM (p : Plan) : List T3 := (linesM p).flatMap fun lm => ((rng (lm.2 + 1) p.1).filter fun c => decide ((lm.1, c) ∈ linesM p) && decide ((lm.2, c) ∈ linesM p)).map fun c => ⟨lm.1, lm.2, c⟩
theorem jn_in {p : Plan} {a b : Int} (h : a < b) : (a, b) ∈ linesM p ↔ Jn p a b := by unfold Jn; rw [lp_lt h]
theorem mem_parts {p : Plan} (h : isPlanM p = true) {a b c : Int} : (⟨a, b, c⟩ : T3) ∈ partsM p ↔ a < b ∧ b < c ∧ Jn p a b ∧ Jn p a c ∧ Jn p b c := by
  obtain ⟨h3, _⟩ := plan_facts h
  unfold partsM
  rw [List.mem_flatMap]
  constructor
  · rintro ⟨⟨x, y⟩, h1, h2⟩
    obtain ⟨z, hz, e⟩ := List.mem_map.mp h2
    obtain ⟨hz1, hz2⟩ := List.mem_filter.mp hz
    have hz1 := rng_mem.mp hz1
    simp only [Bool.and_eq_true, decide_eq_true_eq] at hz2
    injection e with e1 e2 e3
    have e1 : x = a := e1
    have e2 : y = b := e2
    subst e1 e2 e3
    have l1 := line_lt h (q := (x, y)) (by rw [← lines_eq (by omega)]; exact h1)
    have l2 : x < y := l1.2.1
    have l3 : y + 1 ≤ z := hz1.1
    exact ⟨l2, by omega, (jn_in l2).mp h1, (jn_in (by omega)).mp hz2.1, (jn_in (by omega)).mp hz2.2⟩
  · rintro ⟨hab, hbc, j1, j2, j3⟩
    have n3 := j3.ne h
    refine ⟨(a, b), (jn_in hab).mpr j1, List.mem_map.mpr ⟨c, List.mem_filter.mpr ⟨rng_mem.mpr ⟨by show b + 1 ≤ c; omega, by omega⟩, ?_⟩, rfl⟩⟩
    simp only [Bool.and_eq_true, decide_eq_true_eq]
    exact ⟨(jn_in (by omega)).mpr j2, (jn_in hbc).mpr j3⟩
def puts3 (t : T3) : List ((Int × Int) × Int) := [((t.a, t.c), t.b), ((t.b, t.a), t.c), ((t.c, t.b), t.a)]
def putsM (p : Plan) : List ((Int × Int) × Int) := (partsM p).flatMap puts3
theorem mem_puts {p : Plan} (h : isPlanM p = true) {s e v : Int} : ((s, e), v) ∈ putsM p ↔ Tr p s v e := by
  unfold putsM
  rw [List.mem_flatMap]
  constructor
  · rintro ⟨⟨a, b, c⟩, h1, h2⟩
    obtain ⟨l1, l2, j1, j2, j3⟩ := (mem_parts h).mp h1
    have t : Tr p a b c := ⟨.inl ⟨l1, l2⟩, j2, j1, j3⟩
    simp only [puts3, List.mem_cons, List.not_mem_nil, or_false, Prod.mk.injEq] at h2
    rcases h2 with ⟨⟨rfl, rfl⟩, rfl⟩ | ⟨⟨rfl, rfl⟩, rfl⟩ | ⟨⟨rfl, rfl⟩, rfl⟩
    · exact t
    · exact t.rot
    · exact t.rot.rot
  · intro t
    have c := t.cy
    unfold Cy at c
    rcases c with c | c | c
    · exact ⟨⟨s, v, e⟩, (mem_parts h).mpr ⟨c.1, c.2, t.sv, t.se, t.ve⟩, by simp [puts3]⟩
    · exact ⟨⟨v, e, s⟩, (mem_parts h).mpr ⟨c.1, c.2, t.ve, t.sv.sym, t.se.sym⟩, by simp [puts3]⟩
    · exact ⟨⟨e, s, v⟩, (mem_parts h).mpr ⟨c.1, c.2, t.se.sym, t.ve.sym, t.sv⟩, by simp [puts3]⟩
def putAll {κ α : Type} [DecidableEq κ] (ps : List (κ × α)) (l : List (κ × α)) : List (κ × α) := ps.foldl (fun l kv => put l kv.1 kv.2) l
theorem putAll_snoc {κ α : Type} [DecidableEq κ] (ps : List (κ × α)) (x : κ × α) (l : List (κ × α)) : putAll (ps ++ [x]) l = put (putAll ps l) x.1 x.2 := by unfold putAll; rw [List.foldl_append]; rfl
theorem putAll_len {κ α : Type} [DecidableEq κ] : ∀ (ps l : List (κ × α)), (putAll ps l).length ≤ l.length + ps.length
  | [], l => Nat.le_refl _
  | x :: ps, l => by
    have := putAll_len ps (put l x.1 x.2)
    have := put_len l x.1 x.2
    show (putAll ps (put l x.1 x.2)).length ≤ _
    rw [List.length_cons]; omega
theorem look_all {κ α : Type} [DecidableEq κ] (n : Nat) : ∀ (ps : List (κ × α)), ps.length = n → (∀ k v v', (k, v) ∈ ps → (k, v') ∈ ps → v = v') → ∀ k v, look (putAll ps []) k = some v ↔ (k, v) ∈ ps := by
  induction n with
  | zero =>
    intro ps hl _ k v
    rw [List.length_eq_zero_iff.mp hl]
    constructor
    · intro h; cases h
    · intro h; cases h
  | succ n ih =>
    intro ps hl hc k v
    have hne : ps ≠ [] := fun z => by rw [z] at hl; cases hl
    obtain ⟨qs, x, rfl⟩ : ∃ qs x, ps = qs ++ [x] := ⟨ps.dropLast, ps.getLast hne, (List.dropLast_concat_getLast hne).symm⟩
    rw [List.length_append] at hl
    have hl : qs.length = n := Nat.succ.inj hl
    have hq := ih qs hl (fun k v v' h1 h2 => hc k v v' (List.mem_append_left _ h1) (List.mem_append_left _ h2))
    rw [putAll_snoc, look_put, List.mem_append, List.mem_singleton]
    by_cases e : k = x.1
    · subst e
      rw [if_pos rfl]
      constructor
      · intro h; injection h with h; right; rw [← h]
      · rintro (h | h)
        · rw [hc x.1 v x.2 (List.mem_append_left _ h) (List.mem_append_right _ (List.mem_singleton.mpr rfl))]
        · rw [← h]
    · rw [if_neg e, hq k v]
      constructor
      · exact .inl
      · rintro (h | h)
        · exact h
        · exact absurd (congrArg Prod.fst h) e
def thirdsM (p : Plan) : Dct (Int × Int) Int := ⟨putAll (putsM p) []⟩
theorem look_thirds {p : Plan} (h : isPlanM p = true) {s e v : Int} : look (thirdsM p).l (s, e) = some v ↔ Tr p s v e := by
  unfold thirdsM
  rw [look_all (putsM p).length (putsM p) rfl (fun k v v' h1 h2 => Tr.uniq h ((mem_puts h (s := k.1) (e := k.2)).mp h1) ((mem_puts h).mp h2)), mem_puts h]
theorem look_th {p : Plan} (h : isPlanM p = true) {t u : Int} (j : Jn p t u) : look (thirdsM p).l (t, u) = thM p t u := by
  cases e : thM p t u with
  | some c => exact (look_thirds h).mpr ((th_iff h j).mp e)
  | none =>
    cases e2 : look (thirdsM p).l (t, u) with
    | none => rfl
    | some c => rw [(th_iff h j).mpr ((look_thirds h).mp e2)] at e; cases e
/-! ### each plan is a way to cut the arc from 0 on -/
theorem top_of {P : Int → Prop} {s e : Int} (h : ∃ m, s < m ∧ m < e ∧ P m) : ∃ m, s < m ∧ m < e ∧ P m ∧ ∀ x, m < x → x < e → ¬ P x := by
  obtain ⟨m, h1, h2, h3⟩ := h
  have key : ∀ (d : Nat) (m : Int), s < m → m < e → P m → e - m ≤ d → ∃ m, s < m ∧ m < e ∧ P m ∧ ∀ x, m < x → x < e → ¬ P x := by
    intro d
    induction d with
    | zero => intro m a b c z; omega
    | succ d ih =>
      intro m a b c z
      by_cases q : ∃ x, m < x ∧ x < e ∧ P x
      · obtain ⟨x, q1, q2, q3⟩ := q
        exact ih x (by omega) q2 q3 (by omega)
      · exact ⟨m, a, b, c, fun x hx he hp => q ⟨x, hx, he, hp⟩⟩
  exact key (e - m).toNat m h1 h2 h3 (by omega)
theorem cnt_split {α : Type} {P Q R : α → Bool} : ∀ {L : List α}, (∀ x ∈ L, P x = true → Q x = true ∨ R x = true) → L.countP P ≤ L.countP Q + L.countP R
  | [], _ => Nat.le_refl _
  | x :: L, h => by
    have ih := cnt_split (L := L) fun y hy => h y (List.mem_cons_of_mem _ hy)
    have hx := h x List.mem_cons_self
    rw [List.countP_cons, List.countP_cons, List.countP_cons]
    by_cases p : P x = true
    · rw [if_pos p]
      rcases hx p with q | q
      · rw [if_pos q]; split <;> omega
      · rw [if_pos q]; split <;> omega
    · rw [if_neg p]; split <;> split <;> omega
def inA (s e : Int) (c : Int × Int) : Bool := decide (s ≤ c.1 ∧ c.2 ≤ e)
def inB (s e : Int) (c : Int × Int) : Bool := decide (s ≤ c.1 ∧ c.2 ≤ e ∧ ¬ (c.1 = s ∧ c.2 = e))
theorem cnt_close {L : List (Int × Int)} (nd : L.Nodup) (s e : Int) : L.countP (inA s e) ≤ L.countP (inB s e) + if (s, e) ∈ L then 1 else 0 := by
  rw [← nd.count (a := (s, e))]
  refine cnt_split fun x _ hp => ?_
  have hp : s ≤ x.1 ∧ x.2 ≤ e := of_decide_eq_true hp
  by_cases q : x = (s, e)
  · right; rw [q]; exact beq_self_eq_true _
  · left
    refine decide_eq_true ⟨hp.1, hp.2, fun z => q ?_⟩
    obtain ⟨a, b⟩ := x
    rw [show a = s from z.1, show b = e from z.2]
abbrev JL (L : List (Int × Int)) (a b : Int) : Prop := b - a = 1 ∨ (a, b) ∈ L
theorem tree_aux {L : List (Int × Int)} (nd : L.Nodup) (hw : ∀ c ∈ L, 2 ≤ c.2 - c.1) (no : ∀ x ∈ L, ∀ y ∈ L, ¬ (x.1 < y.1 ∧ y.1 < x.2 ∧ x.2 < y.2)) : ∀ (d : Nat) (s e : Int), e - s = d → 1 ≤ d →
    ((L.countP (inB s e) : Nat) : Int) ≤ (if e - s = 1 then 0 else e - s - 2) ∧ ((e - s = 1 ∨ ((L.countP (inB s e) : Nat) : Int) = e - s - 2) → ∃ A, CutT s e A ∧ Sub (JL L) s e A) := by
  intro d
  induction d using Nat.strongRecOn with
  | ind d ih =>
    intro s e hd h1
    by_cases d1 : d = 1
    · have z : L.countP (inB s e) = 0 := by
        refine List.countP_eq_zero.mpr fun c hc q => ?_
        have q : s ≤ c.1 ∧ c.2 ≤ e ∧ ¬ (c.1 = s ∧ c.2 = e) := of_decide_eq_true q
        have := hw c hc
        omega
      rw [z]
      refine ⟨by rw [if_pos (by omega)]; exact Int.le_refl _, fun _ => ⟨[], .leaf (by omega), fun a b ha hab hb hne => ?_⟩⟩
      omega
    · obtain ⟨m, hm1, hm2, hm3, hmax⟩ := top_of (P := fun m => m = s + 1 ∨ (s, m) ∈ L) (s := s) (e := e) ⟨s + 1, by omega, by omega, .inl rfl⟩
      obtain ⟨i1, t1⟩ := ih (m - s).toNat (by omega) s m (by omega) (by omega)
      obtain ⟨i2, t2⟩ := ih (e - m).toNat (by omega) m e (by omega) (by omega)
      have c1 := cnt_close nd s m
      have c2 := cnt_close nd m e
      have over : ∀ c ∈ L, s ≤ c.1 → c.2 ≤ e → ¬ (c.1 = s ∧ c.2 = e) → c.2 ≤ m ∨ m ≤ c.1 := by
        intro c hc z1 z2 z3
        have hwc := hw c hc
        by_cases q : c.2 ≤ m
        · exact .inl q
        by_cases q2 : m ≤ c.1
        · exact .inr q2
        exfalso
        by_cases q3 : c.1 = s
        · exact hmax c.2 (by omega) (by omega) (.inr (by rw [← q3]; exact hc))
        · rcases hm3 with z | z
          · omega
          · exact no _ z c hc ⟨by show s < c.1; omega, by show c.1 < m; omega, by show m < c.2; omega⟩
      have sp : L.countP (inB s e) ≤ L.countP (inA s m) + L.countP (inA m e) := by
        refine cnt_split fun c hc q => ?_
        have q : s ≤ c.1 ∧ c.2 ≤ e ∧ ¬ (c.1 = s ∧ c.2 = e) := of_decide_eq_true q
        rcases over c hc q.1 q.2.1 q.2.2 with z | z
        · exact .inl (decide_eq_true ⟨q.1, z⟩)
        · exact .inr (decide_eq_true ⟨z, q.2.1⟩)
      have b1 : ((L.countP (inA s m) : Nat) : Int) ≤ m - s - 1 := by
        by_cases z : m - s = 1
        · rw [if_pos z] at i1
          rw [if_neg (fun q => by have : 2 ≤ m - s := hw _ q; omega)] at c1
          omega
        · rw [if_neg z] at i1
          split at c1 <;> omega
      have b2 : ((L.countP (inA m e) : Nat) : Int) ≤ e - m - 1 := by
        by_cases z : e - m = 1
        · rw [if_pos z] at i2
          rw [if_neg (fun q => by have : 2 ≤ e - m := hw _ q; omega)] at c2
          omega
        · rw [if_neg z] at i2
          split at c2 <;> omega
      refine ⟨by rw [if_neg (by omega)]; omega, fun hf => ?_⟩
      have hf : ((L.countP (inB s e) : Nat) : Int) = e - s - 2 := by omega
      have f1 : m - s = 1 ∨ ((L.countP (inB s m) : Nat) : Int) = m - s - 2 := by
        by_cases z : m - s = 1
        · exact .inl z
        · rw [if_neg z] at i1
          right; split at c1 <;> omega
      have f2 : e - m = 1 ∨ ((L.countP (inB m e) : Nat) : Int) = e - m - 2 := by
        by_cases z : e - m = 1
        · exact .inl z
        · rw [if_neg z] at i2
          right; split at c2 <;> omega
      have l2 : JL L m e := by
        by_cases z : e - m = 1
        · exact .inl z
        · rw [if_neg z] at i2
          by_cases q : (m, e) ∈ L
          · exact .inr q
          · rw [if_neg q] at c2; omega
      have l1 : JL L s m := by
        rcases hm3 with z | z
        · exact .inl (by omega)
        · exact .inr z
      obtain ⟨A, ca, sa⟩ := t1 f1
      obtain ⟨B, cb, sb⟩ := t2 f2
      refine ⟨_, .node hm1 hm2 ca cb, fun a b ha hab hb hne => ?_⟩
      have ja : JL L a b ↔ b - a = 1 ∨ (a, b) ∈ (s, m) :: (m, e) :: (A ++ B) := by
        by_cases w1 : b ≤ m
        · by_cases w2 : a = s ∧ b = m
          · obtain ⟨rfl, rfl⟩ := w2
            exact ⟨fun _ => .inr List.mem_cons_self, fun _ => l1⟩
          · rw [sa a b ha hab w1 w2]
            constructor
            · rintro (z | z)
              · exact .inl z
              · exact .inr (List.mem_cons_of_mem _ (List.mem_cons_of_mem _ (List.mem_append_left _ z)))
            · rintro (z | z)
              · exact .inl z
              · rcases List.mem_cons.mp z with z | z
                · injection z with z1 z2; omega
                rcases List.mem_cons.mp z with z | z
                · injection z with z1 z2; omega
                rcases List.mem_append.mp z with z | z
                · exact .inr z
                · have := cb.inside _ z
                  have q1 : m ≤ a := this.1
                  omega
        · by_cases w3 : m ≤ a
          · by_cases w2 : a = m ∧ b = e
            · obtain ⟨rfl, rfl⟩ := w2
              exact ⟨fun _ => .inr (List.mem_cons_of_mem _ List.mem_cons_self), fun _ => l2⟩
            · rw [sb a b w3 hab hb w2]
              constructor
              · rintro (z | z)
                · exact .inl z
                · exact .inr (List.mem_cons_of_mem _ (List.mem_cons_of_mem _ (List.mem_append_right _ z)))
              · rintro (z | z)
                · exact .inl z
                · rcases List.mem_cons.mp z with z | z
                  · injection z with z1 z2; omega
                  rcases List.mem_cons.mp z with z | z
                  · injection z with z1 z2; omega
                  rcases List.mem_append.mp z with z | z
                  · have := ca.inside _ z
                    have q1 : b ≤ m := this.2.2.1
                    omega
                  · exact .inr z
          · constructor
            · rintro (z | z)
              · exact .inl z
              · rcases over (a, b) z ha hb hne with y | y
                · exact absurd y w1
                · exact absurd y w3
            · rintro (z | z)
              · exact .inl z
              · rcases List.mem_cons.mp z with z | z
                · injection z with z1 z2; omega
                rcases List.mem_cons.mp z with z | z
                · injection z with z1 z2; omega
                rcases List.mem_append.mp z with z | z
                · have := ca.inside _ z
                  have q1 : b ≤ m := this.2.2.1
                  omega
                · have := cb.inside _ z
                  have q1 : m ≤ a := this.1
                  omega
      exact ja
theorem tree_of {p : Plan} (h : isPlanM p = true) : ∃ A, CutT 0 (p.1 - 1) A ∧ Sub (fun a b => Jn p a b) 0 (p.1 - 1) A := by
  obtain ⟨h3, h40, _, _, v, _⟩ := plan_facts h
  have hc : p.2.l.countP (inB 0 (p.1 - 1)) = p.2.l.length := List.countP_eq_length.mpr fun c hc => by
    have := v.cut c hc
    exact decide_eq_true ⟨by omega, by omega, by omega⟩
  have hl := v.len
  obtain ⟨A, ca, sa⟩ := (tree_aux v.nd (fun c hc => (v.cut c hc).2.1) v.no (p.1 - 1).toNat 0 (p.1 - 1) (by omega) (by omega)).2 (by rw [hc]; omega)
  refine ⟨A, ca, fun a b ha hab hb hne => ?_⟩
  show Jn p a b ↔ _
  rw [← sa a b ha hab hb hne, jn_lt h hab]
  constructor
  · rintro (z | z | z)
    · exact .inl (by omega)
    · exact absurd z hne
    · exact .inr z
  · rintro (z | z)
    · exact .inl ⟨ha, by omega, by omega⟩
    · exact .inr (.inr z)
/-- each corner within an arc is the middle one of a part -/
theorem CutT.mids {J : Int → Int → Prop} {s e : Int} {A : List (Int × Int)} (h : CutT s e A) : Sub J s e A → J s e → ∀ b, s < b → b < e → ∃ a c, s ≤ a ∧ a < b ∧ b < c ∧ c ≤ e ∧ J a b ∧ J b c ∧ J a c := by
  induction h with
  | leaf h => intro _ _ b h1 h2; omega
  | @node s m e A B h1 h2 hA hB ih1 ih2 =>
    intro sb j b hb1 hb2
    have mid := sb.mid h1 h2
    rcases Int.lt_trichotomy b m with q | q | q
    · obtain ⟨a, c, z1, z2, z3, z4, z5⟩ := ih1 (sb.left h1 h2 hB) mid.1 b hb1 q
      exact ⟨a, c, z1, z2, z3, by omega, z5⟩
    · subst q
      exact ⟨s, e, Int.le_refl _, h1, h2, Int.le_refl _, mid.1, mid.2, j⟩
    · obtain ⟨a, c, z1, z2, z3, z4, z5⟩ := ih2 (sb.right h1 h2 hA) mid.2 b q hb2
      exact ⟨a, c, by omega, z2, z3, z4, z5⟩
/-- the third corner within a line, and beyond it -/
theorem CutT.down {J : Int → Int → Prop} {s e : Int} {A : List (Int × Int)} (h : CutT s e A) : Sub J s e A → ∀ x y, 2 ≤ y - x → ((x, y) ∈ A ∨ (x = s ∧ y = e)) → ∃ m, x < m ∧ m < y ∧ J x m ∧ J m y := by
  induction h with
  | leaf h => intro _ x y h2 hm; rcases hm with z | z; cases z; omega
  | @node s m e A B h1 h2 hA hB ih1 ih2 =>
    intro sb x y hw hm
    have mid := sb.mid h1 h2
    have l := ih1 (sb.left h1 h2 hB)
    have r := ih2 (sb.right h1 h2 hA)
    rcases hm with z | ⟨rfl, rfl⟩
    · rcases List.mem_cons.mp z with z | z
      · injection z with z1 z2; exact l x y hw (.inr ⟨z1, z2⟩)
      rcases List.mem_cons.mp z with z | z
      · injection z with z1 z2; exact r x y hw (.inr ⟨z1, z2⟩)
      rcases List.mem_append.mp z with z | z
      · exact l x y hw (.inl z)
      · exact r x y hw (.inl z)
    · exact ⟨m, h1, h2, mid⟩
theorem CutT.beyond {J : Int → Int → Prop} {s e : Int} {A : List (Int × Int)} (h : CutT s e A) : Sub J s e A → J s e → ∀ x y, (x, y) ∈ A → ∃ m, s ≤ m ∧ m ≤ e ∧ ((m < x ∧ J m x ∧ J m y) ∨ (y < m ∧ J x m ∧ J y m)) := by
  induction h with
  | leaf h => intro _ _ x y hm; cases hm
  | @node s m e A B h1 h2 hA hB ih1 ih2 =>
    intro sb j x y z
    have mid := sb.mid h1 h2
    rcases List.mem_cons.mp z with z | z
    · injection z with z1 z2; subst z1 z2
      exact ⟨e, by omega, Int.le_refl _, .inr ⟨h2, j, mid.2⟩⟩
    rcases List.mem_cons.mp z with z | z
    · injection z with z1 z2; subst z1 z2
      exact ⟨s, Int.le_refl _, by omega, .inl ⟨h1, mid.1, j⟩⟩
    rcases List.mem_append.mp z with z | z
    · obtain ⟨k, q1, q2, q3⟩ := ih1 (sb.left h1 h2 hB) mid.1 x y z
      exact ⟨k, q1, by omega, q3⟩
    · obtain ⟨k, q1, q2, q3⟩ := ih2 (sb.right h1 h2 hA) mid.2 x y z
      exact ⟨k, by omega, q2, q3⟩
theorem CutT.sides {s e : Int} {A : List (Int × Int)} (h : CutT s e A) : ∀ x y, s ≤ x → y ≤ e → y - x = 1 → 2 ≤ e - s → (x, y) ∈ A := by
  induction h with
  | leaf h => intro x y _ _ _ h2; omega
  | @node s m e A B h1 h2 hA hB ih1 ih2 =>
    intro x y hx hy hxy _
    by_cases q : y ≤ m
    · by_cases z : x = s ∧ y = m
      · rw [z.1, z.2]; exact List.mem_cons_self
      · exact List.mem_cons_of_mem _ (List.mem_cons_of_mem _ (List.mem_append_left _ (ih1 x y hx q hxy (by omega))))
    · by_cases z : x = m ∧ y = e
      · rw [z.1, z.2]; exact List.mem_cons_of_mem _ List.mem_cons_self
      · exact List.mem_cons_of_mem _ (List.mem_cons_of_mem _ (List.mem_append_right _ (ih2 x y (by omega) hy hxy (by omega))))
/-- on each side of a line that is no side of the ring lies a part -/
theorem tr_ex {p : Plan} (h : isPlanM p = true) {t u : Int} (j : Jn p t u) (hs : ¬ (u = t + 1 ∨ (t = p.1 - 1 ∧ u = 0))) : ∃ c, Tr p t c u := by
  obtain ⟨A, ca, sa⟩ := tree_of h
  obtain ⟨h3, _⟩ := plan_facts h
  have ne := j.ne h
  have jl : Jn p 0 (p.1 - 1) := jn_last h
  rcases Int.lt_or_gt_of_ne ne.2.2.2.2 with q | q
  · have hm : (t, u) ∈ A ∨ (t = 0 ∧ u = p.1 - 1) := by
      by_cases z : t = 0 ∧ u = p.1 - 1
      · exact .inr z
      · rcases (sa t u (by omega) q (by omega) z).mp j with y | y
        · omega
        · exact .inl y
    obtain ⟨m, z1, z2, z3, z4⟩ := ca.down sa t u (by omega) hm
    exact ⟨m, .inl ⟨z1, z2⟩, j, z3, z4⟩
  · have w : ¬ (u = 0 ∧ t = p.1 - 1) := by omega
    rcases (sa u t (by omega) q (by omega) w).mp j.sym with y | y
    · have hs' : Jn p u t := j.sym
      by_cases hA : (u, t) ∈ A
      · obtain ⟨m, _, _, z | z⟩ := ca.beyond sa jl u t hA
        · exact ⟨m, .inr (.inl ⟨z.1, q⟩), j, z.2.2.sym, z.2.1⟩
        · exact ⟨m, .inr (.inr ⟨q, z.1⟩), j, z.2.2, z.2.1.sym⟩
      · obtain ⟨m, _, _, z | z⟩ := ca.beyond sa jl u t (ca.sides u t (by omega) (by omega) y (by omega))
        · exact ⟨m, .inr (.inl ⟨z.1, q⟩), j, z.2.2.sym, z.2.1⟩
        · exact ⟨m, .inr (.inr ⟨q, z.1⟩), j, z.2.2, z.2.1.sym⟩
    · obtain ⟨m, _, _, z | z⟩ := ca.beyond sa jl u t y
      · exact ⟨m, .inr (.inl ⟨z.1, q⟩), j, z.2.2.sym, z.2.1⟩
      · exact ⟨m, .inr (.inr ⟨q, z.1⟩), j, z.2.2, z.2.1.sym⟩
end Pf

namespace Pf
open PySem PySem.Spec PyProof.Rows L2
open PySem.W (alike alikeAll dataLt keyToks keyToksAll AllAlike Sortable dataLe AlikeAll minD EachIs)
/-! ### min and sorted of data of any depth -/
/-! ### data in order -/
class DatA (α : Type) [Rep α] [DecidableEq α] [DatE α] : Prop where
  al : ∀ x y : α, alike (dat x) (dat y) = true
instance : DatA Int := ⟨fun _ _ => by simp [dat, Dat.dat, alike]⟩
section
variable {α β γ : Type} [Rep α] [DecidableEq α] [DatE α] [DatA α] [Rep β] [DecidableEq β] [DatE β] [DatA β] [Rep γ] [DecidableEq γ] [DatE γ] [DatA γ]
theorem al_map : ∀ xs ys : List α, alikeAll (xs.map dat) (ys.map dat) = true
  | [], _ => by simp [alikeAll]
  | _ :: _, [] => by simp [alikeAll]
  | x :: xs, y :: ys => by
    rw [List.map_cons, List.map_cons, alikeAll, DatA.al x y, al_map xs ys]; rfl
instance : DatA (List α) := ⟨fun xs ys => al_map xs ys⟩
instance : DatA (Tup α) := ⟨fun xs ys => al_map xs.l ys.l⟩
instance : DatA (α × β) := ⟨fun x y => by
  show alikeAll [dat x.1, dat x.2] [dat y.1, dat y.2] = true
  rw [alikeAll, alikeAll, alikeAll, DatA.al, DatA.al]; rfl⟩
variable {σ : L2.St} {G H : Hp} {ta : TE} {K : Fg}
end
end Pf

namespace Pf
open PySem PySem.Spec PyProof.Rows L2
/-! ### sets of tuples of ints, of up to three hundred -/
/-- from any hash each slot begins a run, early enough -/
structure Met (m : Nat) : Prop where
  odd : m % 2 = 1
  meets : ∀ (h : Int) (j : Nat), j ≤ m → ∃ n, n ≤ m + 12 ∧ runI m (SetTable.bits h) n = j
theorem met_of {m : Nat} (hm : MaskOk m) : Met m := ⟨mask_odd hm, fun h _ hj => run_meets hm h hj⟩
theorem sees511 : ((List.range 512).all fun z => (List.range 512).any fun y => lcgN 511 y == z) = true := by decide +kernel
theorem ends511 : lcgN 511 512 = 0 := by decide +kernel
theorem met_511 : Met 511 where
  odd := rfl
  meets := fun h j hj => by
    have sj : ∀ z, z ≤ 511 → ∃ y, y ≤ 511 ∧ lcgN 511 y = z := fun z hz => by
      obtain ⟨y, hy, e⟩ := List.any_eq_true.mp (List.all_eq_true.mp sees511 z (List.mem_range.mpr (by omega)))
      exact ⟨y, by have := List.mem_range.mp hy; omega, eq_of_beq e⟩
    have per : ∀ k, lcgN 511 (512 + k) = lcgN 511 k := by
      intro k
      induction k with
      | zero => exact ends511
      | succ k ih => exact congrArg (fun z => (z * 5 + 1) % 512) ih
    obtain ⟨a, ha, ea⟩ := sj _ (runI_le 511 (SetTable.bits h) 12)
    obtain ⟨b, hb, eb⟩ := sj j hj
    by_cases c : b < a
    · refine ⟨12 + (b + 512 - a), by omega, ?_⟩
      rw [runI_tail (bits_lt h), ← ea, lcgN_add, show a + (b + 512 - a) = 512 + b by omega, per, eb]
    · refine ⟨12 + (b - a), by omega, ?_⟩
      rw [runI_tail (bits_lt h), ← ea, lcgN_add, show a + (b - a) = b by omega, eb]
theorem Met.hit {m : Nat} (M : Met m) (h : Int) {j : Nat} (hj : j ≤ m) : ∃ k, k < 10 * SetTable.turns m ∧ way m h k = j := by
  obtain ⟨n, hn, e⟩ := M.meets h j hj
  obtain ⟨k, hk, e2⟩ := run_nth m (SetTable.bits h) n
  exact ⟨k, by unfold SetTable.turns; omega, (congrArg SetTable.Probe.j e2).trans e⟩
theorem wayLe (m : Nat) (h : Int) (k : Nat) : way m h k ≤ m := by
  have b1 : SetTable.bits h % (m + 1) ≤ m := Nat.le_of_lt_succ (Nat.mod_lt _ (by omega))
  have b2 := runEnd_bd b1
  exact Nat.le_trans (Nat.le_add_right _ _) (nth_in (m := m) k (runAt m (SetTable.bits h % (m + 1)) (SetTable.bits h)) (show SetTable.bits h % (m + 1) + (SetTable.runEnd m (SetTable.bits h % (m + 1)) - SetTable.bits h % (m + 1)) ≤ m by omega))
/-- a table in which each one is met again from its hash -/
structure Tb (t : SetTable) (hs : List Int) : Prop where
  up : Ris t.place.toList
  clean : t.dummies = #[]
  size : t.place.size = hs.length
  met : Met t.mask
  within : ∀ x ∈ t.place.toList, x ≤ t.mask
  back : ∀ (i : Nat) (h : Int) (j : Nat), hs[i]? = some h → t.place.toList[i]? = some j → ∃ k, way t.mask h k = j ∧ ∀ c, c < k → way t.mask h c ∈ t.place.toList
theorem Tb.gap {t : SetTable} {hs : List Int} (T : Tb t hs) (hl : hs.length ≤ t.mask) (h : Int) : ∃ n, n < 10 * SetTable.turns t.mask ∧ way t.mask h n ∉ t.place.toList ∧ ∀ c, c < n → way t.mask h c ∈ t.place.toList := by
  obtain ⟨j, hj, hn⟩ := st_missing t.place.toList (t.mask + 1) (by rw [Array.length_toList, T.size]; omega)
  obtain ⟨k, hk, e⟩ := T.met.hit h (Nat.le_of_lt_succ hj)
  obtain ⟨n, a, b, c⟩ := st_least (p := fun k => way t.mask h k ∉ t.place.toList) k (show way t.mask h k ∉ _ by rw [e]; exact hn)
  exact ⟨n, by omega, b, fun z hz => Classical.not_not.mp (c z hz)⟩
theorem Tb.ahead {t : SetTable} {hs : List Int} (T : Tb t hs) {h : Int} {n i j : Nat} (hn : way t.mask h n ∉ t.place.toList) (hi : hs[i]? = some h) (hj : t.place.toList[i]? = some j) : ∃ k, k < n ∧ way t.mask h k = j := by
  obtain ⟨k, e, hb⟩ := T.back i h j hi hj
  refine ⟨k, Nat.lt_of_not_le fun z => ?_, e⟩
  rcases Nat.lt_or_eq_of_le z with y | y
  · exact hn (hb n y)
  · exact hn (y ▸ e ▸ List.mem_of_getElem? hj)
/-- one more in the first gap of its way -/
theorem Tb.put {t : SetTable} {hs : List Int} (T : Tb t hs) {h : Int} {n : Nat} (hn : way t.mask h n ∉ t.place.toList) (hb : ∀ c, c < n → way t.mask h c ∈ t.place.toList) {p : Nat} (hp : p = SetTable.below t.place (way t.mask h n)) :
    p ≤ hs.length ∧ Tb (t.put (way t.mask h n)).1 (hs.take p ++ h :: hs.drop p) ∧ (t.put (way t.mask h n)).1.fill = hs.length + 1 := by
  subst hp
  have lw := wayLe t.mask h n
  generalize ej : way t.mask h n = j at hn lw
  have c1 := (below_cut T.up j).1
  have pl : SetTable.below t.place j ≤ t.place.toList.length := by rw [Array.length_toList]; exact c1
  have pz : SetTable.below t.place j ≤ hs.length := T.size ▸ c1
  have nw := put_place t j
  have zs : (t.put j).1.place.size = hs.length + 1 := by rw [← Array.length_toList, nw, len_ins _ pl, Array.length_toList, T.size]
  have old : ∀ x, x ∈ t.place.toList → x ∈ (t.put j).1.place.toList := fun x hx => by rw [nw]; exact mem_ins.2 (.inr hx)
  refine ⟨pz, ⟨ris_insert T.up fun e => hn (List.mem_of_getElem? (by rw [Array.getElem?_toList]; exact e)), put_dm T.clean j, by rw [zs, len_ins _ pz], T.met, fun x hx => ?_, fun i g y e1 e2 => ?_⟩, ?_⟩
  · rw [nw] at hx
    rcases mem_ins.1 hx with z | z
    · rw [z]; exact lw
    · exact T.within x z
  · rw [tins_get hs pz] at e1
    rw [nw, tins_get _ pl] at e2
    by_cases c : i < SetTable.below t.place j
    · rw [if_pos c] at e1 e2
      obtain ⟨k, e, z⟩ := T.back i g y e1 e2
      exact ⟨k, e, fun c' hc' => old _ (z c' hc')⟩
    · rw [if_neg c] at e1 e2
      by_cases d : i = SetTable.below t.place j
      · rw [if_pos d] at e1 e2
        cases e1; cases e2
        exact ⟨n, ej, fun c' hc' => old _ (hb c' hc')⟩
      · rw [if_neg d] at e1 e2
        obtain ⟨k, e, z⟩ := T.back _ g y e1 e2
        exact ⟨k, e, fun c' hc' => old _ (z c' hc')⟩
  · show (t.put j).1.place.size + (t.put j).1.dummies.size = _
    rw [zs, put_dm T.clean j]; rfl
/-! laid anew -/
theorem Met.free {m : Nat} (M : Met m) (owner : Array (Option Nat)) (h : Int) {j : Nat} (hj : j ≤ m) (hf : oAt owner j = none) :
    ∃ n, SetTable.layClean.free m owner (SetTable.turns m) (SetTable.bits h % (m + 1)) (SetTable.bits h) = some (way m h n) ∧ oAt owner (way m h n) = none ∧ ∀ c, c < n → oAt owner (way m h c) ≠ none := by
  obtain ⟨r, hr, e⟩ := M.meets h j hj
  have ew : way m h (off m (SetTable.bits h % (m + 1)) (SetTable.bits h) r) = j := by
    have z := congrArg SetTable.Probe.j (nth_off m r (SetTable.bits h % (m + 1)) (SetTable.bits h))
    rw [itL_run] at z
    exact z.trans e
  obtain ⟨n, a1, a2, a3⟩ := st_least (p := fun k => oAt owner (way m h k) = none) _ (show oAt owner (way m h (off m (SetTable.bits h % (m + 1)) (SetTable.bits h) r)) = none by rw [ew]; exact hf)
  refine ⟨n, free_spec m owner (SetTable.turns m) r _ _ n (by unfold SetTable.turns; omega) a1 (fun k hk => ?_) (Option.isNone_iff_eq_none.mpr a2), a2, a3⟩
  exact Bool.eq_false_iff.mpr fun z => a3 k hk (Option.isNone_iff_eq_none.mp z)
theorem own_more {m : Nat} (M : Met m) {dn : List Int} {owner : Array (Option Nat)} (W : Own m dn owner) (hl : dn.length ≤ m) (h : Int) :
    ∃ j, SetTable.layClean.free m owner (SetTable.turns m) (SetTable.bits h % (m + 1)) (SetTable.bits h) = some j ∧ Own m (dn ++ [h]) (owner.setIfInBounds j (some dn.length)) := by
  obtain ⟨ps, lp, ip⟩ := W.ps
  obtain ⟨y, hy, ny⟩ := st_missing ps (m + 1) (by omega)
  have fy : oAt owner y = none := Classical.byContradiction fun z => ny (ip y (by omega) z)
  obtain ⟨n, e1, e2, e3⟩ := M.free owner h (Nat.le_of_lt_succ hy) fy
  have lw := wayLe m h n
  generalize ej : way m h n = j at e1 e2 lw
  have js : j < owner.size := by rw [W.sz]; omega
  have own : oAt (owner.setIfInBounds j (some dn.length)) j = some dn.length := oAt_set_self _ js
  have keep : ∀ i, oAt owner i ≠ none → oAt (owner.setIfInBounds j (some dn.length)) i ≠ none := fun i hi => by
    by_cases c : i = j
    · rw [c, own]; exact Option.some_ne_none _
    · rw [oAt_set_ne _ c]; exact hi
  refine ⟨j, e1, by rw [Array.size_setIfInBounds, W.sz], fun i k hi e => ?_, fun k hk => ?_, j :: ps, by simp [lp], fun i hi e => ?_⟩
  · by_cases c : i = j
    · rw [c, own] at e
      cases e
      exact ⟨h, n, by simp, by rw [c]; exact ej, fun k' hk' => keep _ (e3 k' hk')⟩
    · rw [oAt_set_ne _ c] at e
      obtain ⟨g, n', a1, a2, a3⟩ := W.at_ i k hi e
      refine ⟨g, n', ?_, a2, fun k' hk' => keep _ (a3 k' hk')⟩
      rw [List.getElem?_append_left (List.getElem?_eq_some_iff.mp a1).1, a1]
  · by_cases c : k < dn.length
    · obtain ⟨i, hi, e⟩ := W.all k c
      exact ⟨i, hi, by rw [oAt_set_ne _ (fun z => by rw [z, e2] at e; cases e), e]⟩
    · have ek : k = dn.length := by simp at hk; omega
      exact ⟨j, lw, by rw [ek, own]⟩
  · by_cases c : i = j
    · rw [c]; exact List.mem_cons_self
    · rw [oAt_set_ne _ c] at e
      exact List.mem_cons_of_mem _ (ip i hi e)
theorem own_all {m : Nat} (M : Met m) : ∀ (rs dn : List Int) (owner : Array (Option Nat)), Own m dn owner → dn.length + rs.length ≤ m → ∃ o2, rs.foldl (stepF m) (some (owner, dn.length)) = some (o2, dn.length + rs.length) ∧ Own m (dn ++ rs) o2
  | [], dn, owner, W, _ => ⟨owner, rfl, by rw [List.append_nil]; exact W⟩
  | h :: rs, dn, owner, W, hl => by
    have hl : dn.length + (rs.length + 1) ≤ m := hl
    obtain ⟨j, e, W2⟩ := own_more M W (by omega) h
    obtain ⟨o2, f, W3⟩ := own_all M rs (dn ++ [h]) _ W2 (by simp; omega)
    rw [List.append_assoc] at W3
    refine ⟨o2, ?_, W3⟩
    rw [List.foldl_cons, stepF_some e]
    rw [List.length_append] at f
    rw [show dn.length + (h :: rs).length = dn.length + [h].length + rs.length by simp; omega]
    exact f
theorem lay_all {m : Nat} (M : Met m) {hs : Array Int} (hn : hs.size ≤ m) : ∃ o2, SetTable.layClean m hs = some o2 ∧ Own m hs.toList o2 := by
  obtain ⟨o2, f, W⟩ := own_all M hs.toList [] _ (Own.init m) (by simpa using hn)
  exact ⟨o2, by rw [layClean_eq]; exact congrArg (Option.map (·.1)) f, W⟩
theorem relaidG (t : SetTable) {hs : Array Int} {wanted m : Nat} (hw : SetTable.sizeAbove wanted - 1 = m) (M : Met m) (hn : hs.size ≤ m) :
    ∃ t' order, t.relaid hs wanted = some (t', order) ∧ order.toList.Perm (List.range hs.size) ∧ Tb t' (order.toList.map fun i => hs.getD i 0) ∧ t'.mask = m ∧ t'.led = t.led ∧ t'.plain = t.plain := by
  obtain ⟨o2, e, W⟩ := lay_all M hn
  have ri := ris_live (fun j => o2.getD j none) (List.range (m + 1)) List.pairwise_lt_range
  have r1 : Ris ((liveOf m o2).map (·.1)) := ri.1
  have r2 : ∀ x ∈ (liveOf m o2).map (·.1), x ∈ List.range (m + 1) := ri.2
  have each : ∀ k, k < hs.size → k ∈ (liveOf m o2).map (·.2) := fun k hk => by
    obtain ⟨j, b1, b2⟩ := W.all k (by simpa using hk)
    exact List.mem_map.mpr ⟨(j, k), (mem_live W.sz).2 ⟨b1, b2⟩, rfl⟩
  have nod : ((liveOf m o2).map (·.1)).Nodup := List.Pairwise.imp (fun h => Nat.ne_of_lt h) r1
  have len : (liveOf m o2).length = hs.size := by
    obtain ⟨ps, p1, p2⟩ := W.ps
    have a := nat_nodup_len ((liveOf m o2).map (·.1)) ps nod fun x hx => by
      obtain ⟨⟨y, k⟩, hq, rfl⟩ := List.mem_map.mp hx
      obtain ⟨b1, b2⟩ := (mem_live W.sz).1 hq
      exact p2 y b1 (by rw [b2]; exact Option.some_ne_none _)
    have b := nat_nodup_len (List.range hs.size) ((liveOf m o2).map (·.2)) List.nodup_range fun k hk => each k (List.mem_range.mp hk)
    simp only [List.length_map, List.length_range, p1, Array.length_toList] at a b
    omega
  refine ⟨tabOf t m o2, ((liveOf m o2).map (·.2)).toArray, by rw [relaid_eq, hw, e]; rfl, perm_range hs.size _ (by simpa using len) each, ⟨r1, rfl, ?_, M, fun x hx => ?_, fun i h j h1 h2 => ?_⟩, rfl, rfl, rfl⟩
  · show ((liveOf m o2).map (·.1)).toArray.size = (((liveOf m o2).map (·.2)).map fun i => hs.getD i 0).length
    simp
  · exact Nat.le_of_lt_succ (List.mem_range.mp (r2 x hx))
  · have h1 : (((liveOf m o2).map (·.2)).map fun i => hs.getD i 0)[i]? = some h := h1
    have h2 : ((liveOf m o2).map (·.1))[i]? = some j := h2
    rw [List.getElem?_map, List.getElem?_map] at h1
    rw [List.getElem?_map] at h2
    obtain ⟨⟨y, k⟩, hq, ej⟩ := Option.map_eq_some_iff.mp h2
    rw [hq] at h1
    have eh : hs.getD k 0 = h := Option.some.inj h1
    have ej : y = j := ej
    subst ej
    obtain ⟨b1, b2⟩ := (mem_live W.sz).1 (List.mem_of_getElem? hq)
    obtain ⟨g, n, a1, a2, a3⟩ := W.at_ y k b1 b2
    have eg : g = h := by
      rw [← eh, Array.getD_eq_getD_getElem?, ← Array.getElem?_toList, a1]; rfl
    subst eg
    refine ⟨n, a2, fun c hc => ?_⟩
    obtain ⟨k2, z⟩ := Option.ne_none_iff_exists'.mp (a3 c hc)
    exact List.mem_map.mpr ⟨(way m g c, k2), (mem_live W.sz).2 ⟨wayLe m g c, z⟩, rfl⟩
end Pf

namespace Pf
open PySem PySem.Spec PyProof.Rows L2
abbrev Rows := List (Addr × List Int)
/-- the set at a: its tuples with where they stand, in the order of its slots -/
structure Pst (P : Program) (w : World) (h : Heap) (a : Addr) (L : Rows) (es : Array (Int × Value)) (ep : Nat) (t : SetTable) : Prop where
  (ob : ∃ o, h.get? a = some o ∧ o.ExactSet ∧ o.data = .set es ep t) (rows : es.toList = rowsOf P w L) (tab : Tb t (L.map fun p => thash P w p.2)) (nd : (L.map (·.2)).Nodup) (tup : ∀ p ∈ L, IsT P w h p.2 p.1)
  (plain : t.plain = true) (led : w.params.followText "set-order" = true ∨ t.led = true) (room : L.length * 5 < t.mask * 3) (msk : MaskOk t.mask ∨ t.mask = 511) (few : L.length ≤ 300)
section
variable {P : Program} {w : World} {A : Around} {E : Value → Shared → Prop} {s : Shared} {a : Addr} {L : Rows} {es : Array (Int × Value)} {ep : Nat} {t : SetTable}
theorem rows_len (h : es.toList = rowsOf P w L) : es.size = L.length := by simpa [rowsOf] using congrArg List.length h
theorem Pst.fit {h : Heap} (R : Pst P w h a L es ep t) : t.fits es.size = true := by
  have z1 : t.place.size = L.length := by simpa using R.tab.size
  have z2 := rows_len R.rows
  have z3 := R.room
  unfold SetTable.fits SetTable.fill
  simp only [R.tab.clean, Bool.and_eq_true, beq_iff_eq, decide_eq_true_eq]
  exact ⟨by omega, show t.place.size + 0 ≤ t.mask by omega⟩
theorem Pst.at {h : Heap} (R : Pst P w h a L es ep t) {i : Nat} {p : Addr × List Int} (e : L[i]? = some p) : es[i]? = some (thash P w p.2, Value.ref p.1) := by
  rw [← Array.getElem?_toList, R.rows]
  simp [rowsOf, e]
theorem no_dummy (m : Nat) : ∀ (n : Nat) (p : SetTable.Probe), p.dummy = none → (nth m p n).dummy = none
  | 0, _, h => h
  | n + 1, p, h => no_dummy m n (adv m p) (by unfold adv; split <;> exact h)
/-- the n-th step of the way of a hash -/
abbrev pr (m : Nat) (h : Int) (n : Nat) : SetTable.Probe := nth m (runAt m (SetTable.bits h % (m + 1)) (SetTable.bits h)) n
theorem pr_add (m : Nat) (h : Int) (c q : Nat) : nth m (pr m h c) q = pr m h (c + q) := (nth_add m c _ q).symm
/-- looking for a tuple, from the c-th step on -/
theorem seek_from (R : Pst P w s.heap a L es ep t) {x : Addr} {k : List Int} (hx : IsT P w s.heap k x) (hu : A.units < cLine) (add : Bool) {n : Nat} (n1 : n < 10 * SetTable.turns t.mask)
    (n2 : way t.mask (thash P w k) n ∉ t.place.toList) (n3 : ∀ c, c < n → way t.mask (thash P w k) c ∈ t.place.toList) {Q : SetFound → Shared → Prop}
    (yes : k ∈ L.map (·.2) → ∀ r, (add = false → r.isSome = true) → Q (.there r) s) (no : k ∉ L.map (·.2) → Q (.free (way t.mask (thash P w k) n) false) s) :
    ∀ (f c : Nat) (st : Option SetTable.Probe), st.getD (t.probeStart (thash P w k)) = pr t.mask (thash P w k) c → c ≤ n → n - c < f →
      (∀ (i : Nat) p, L[i]? = some p → p.2 = k → ∃ c', c ≤ c' ∧ c' < n ∧ t.place.toList[i]? = some (way t.mask (thash P w k) c')) →
      wpAny (model P w) A (setSearchFrom a (.ref x) (thash P w k) add f st) Q E s
  | 0, _, _, _, _, hf, _ => absurd hf (Nat.not_lt_zero _)
  | f + 1, c, st, hst, hc, hf, hre => by
    obtain ⟨o, ho, hex, hd⟩ := R.ob
    rw [setSearchFrom_succ]
    refine wpAny_bind (wpAny_setState_of ho hd R.fit ?_)
    dsimp only
    refine wp_if_neg (by unfold SetTable.gaveWay; rw [R.tab.met.odd]; decide) ?_
    try refine wpAny_bind (wpAny_pure ?_)
    have wj : ∀ q, (nth t.mask (pr t.mask (thash P w k) c) q).j = way t.mask (thash P w k) (c + q) := fun q => congrArg SetTable.Probe.j (pr_add _ _ c q)
    have hash : ∀ (i : Nat) p, L[i]? = some p → ((es[i]?.map (·.1)).getD 0) = thash P w p.2 := fun i p hp => by rw [R.at hp]; rfl
    have nc : c + (n - c) = n := by omega
    rcases go_spec t R.tab.up R.tab.clean (fun i => (es[i]?.map (·.1)).getD 0) (thash P w k) (10 * SetTable.turns t.mask) (n - c) (pr t.mask (thash P w k) c) (no_dummy _ _ _ rfl) (by omega)
      (fun q hq => by rw [wj]; exact n3 _ (by omega)) (by rw [wj, nc]; exact n2) with ⟨q, i, hq, hi, hh, hno, hpr⟩ | ⟨hno, hpr⟩
    · rw [wj] at hi
      have met : t.probe (fun i => (es[i]?.map (·.1)).getD 0) (thash P w k) (st.getD (t.probeStart (thash P w k))) = some (.candidate (way t.mask (thash P w k) (c + q)) i (pr t.mask (thash P w k) (c + (q + 1)))) := by
        rw [hst, ← wj, ← pr_add]; exact hpr
      have il : i < L.length := by
        have e1 := (List.getElem?_eq_some_iff.mp hi).1
        rw [Array.length_toList, R.tab.size, List.length_map] at e1
        exact e1
      have hp : L[i]? = some L[i] := List.getElem?_eq_getElem il
      have mem : L[i] ∈ L := List.getElem_mem il
      generalize L[i] = p at hp mem
      have rest : wpAny (model P w) A (searchRest a (.ref x) (thash P w k) add f es t (way t.mask (thash P w k) (c + q)) i (pr t.mask (thash P w k) (c + (q + 1)))) Q E s := by
        unfold searchRest
        rw [R.at hp]
        dsimp only
        refine wpAny_bind (wpAny_holding (wpAny_eqBool_tuple hu (R.tup p mem) hx ?_))
        refine wpAny_bind (wpAny_setState_of ho hd R.fit ?_)
        dsimp only
        have live : t.slot (way t.mask (thash P w k) (c + q)) = .live i := slot_live R.tab.up hi
        by_cases kk : p.2 = k
        · have km : k ∈ L.map (·.2) := List.mem_map.mpr ⟨p, mem, kk⟩
          cases add with
          | true =>
            refine wp_if_pos (by simp [kk]) ?_
            exact wpAny_pure (yes km none fun z => nomatch z)
          | false =>
            refine wp_if_neg (by simp) ?_
            try refine wpAny_bind (wpAny_pure ?_)
            rw [sameMem]
            dsimp only
            simp only [if_true, live, R.at hp]
            refine wpAny_bind (wpAny_isSame_ref_self (wpAny_bind (wpAny_pure ?_)))
            simp only [if_true]
            refine wp_if_pos (by simp [kk]) ?_
            exact wpAny_pure (yes km (some i) fun _ => rfl)
        · refine wp_if_neg (by simp [kk]) ?_
          try refine wpAny_bind (wpAny_pure ?_)
          rw [sameMem]
          dsimp only
          simp only [if_true, live, R.at hp]
          refine wpAny_bind (wpAny_isSame_ref_self (wpAny_bind (wpAny_pure ?_)))
          simp only [if_true]
          refine wp_if_neg (by simp [kk]) ?_
          refine seek_from R hx hu add n1 n2 n3 yes no f (c + (q + 1)) _ rfl (by omega) (by omega) fun i0 p0 h0 k0 => ?_
          obtain ⟨c', a1, a2, a3⟩ := hre i0 p0 h0 k0
          refine ⟨c', Nat.lt_of_not_le fun z => ?_, a2, a3⟩
          rcases Nat.lt_or_eq_of_le (show c' ≤ c + q from z) with y | y
          · exact hno (c' - c) i0 (by omega) (by rw [wj, show c + (c' - c) = c' by omega]; exact a3) ((hash i0 p0 h0).trans (by rw [k0]))
          · rw [y] at a3
            have s0 := slot_live R.tab.up a3
            rw [live] at s0
            injection s0 with s0
            rw [← s0, hp] at h0
            cases h0
            exact kk k0
      rw [met]
      dsimp only
      by_cases hl : t.led = true
      · refine wp_if_neg (by simp [hl]) ?_
        try refine wpAny_bind (wpAny_pure ?_)
        exact rest
      · refine wp_if_pos (by simp [hl]) ?_
        refine wpAny_bind (seen_tup hx (fun y hy => ?_) ?_)
        · obtain ⟨e, he, rfl⟩ := List.mem_map.mp hy
          have e1 : e ∈ es.toList := by simpa using (show e ∈ es ∧ e.1 = thash P w k by simpa using he).1
          rw [R.rows] at e1
          obtain ⟨p2, m2, rfl⟩ := List.mem_map.mp e1
          exact ⟨p2.2, p2.1, rfl, R.tup p2 m2⟩
        · refine wp_if_neg (by decide) ?_
          try refine wpAny_bind (wpAny_pure ?_)
          exact rest
    · have met : t.probe (fun i => (es[i]?.map (·.1)).getD 0) (thash P w k) (st.getD (t.probeStart (thash P w k))) = some (.empty (way t.mask (thash P w k) n) none) := by
        rw [hst, show way t.mask (thash P w k) n = (nth t.mask (pr t.mask (thash P w k) c) (n - c)).j by rw [wj, nc]]; exact hpr
      rw [met]
      dsimp only
      refine wpAny_pure (no fun hm => ?_)
      obtain ⟨p0, m0, k0⟩ := List.mem_map.mp hm
      obtain ⟨i0, l0, e0⟩ := List.getElem_of_mem m0
      have h0 : L[i0]? = some p0 := by rw [List.getElem?_eq_getElem l0, e0]
      obtain ⟨c', a1, a2, a3⟩ := hre i0 p0 h0 k0
      exact hno (c' - c) i0 (by omega) (by rw [wj, show c + (c' - c) = c' by omega]; exact a3) ((hash i0 p0 h0).trans (by rw [k0]))
theorem seek (R : Pst P w s.heap a L es ep t) {x : Addr} {k : List Int} (hx : IsT P w s.heap k x) (hu : A.units < cLine) (add : Bool) {Q : SetFound → Shared → Prop}
    (yes : k ∈ L.map (·.2) → ∀ r, (add = false → r.isSome = true) → Q (.there r) s)
    (no : ∀ n, k ∉ L.map (·.2) → way t.mask (thash P w k) n ∉ t.place.toList → (∀ c, c < n → way t.mask (thash P w k) c ∈ t.place.toList) → Q (.free (way t.mask (thash P w k) n) false) s) :
    wpAny (model P w) A (setSearch a (.ref x) (thash P w k) add) Q E s := by
  have rm := R.room
  obtain ⟨n, n1, n2, n3⟩ := R.tab.gap (by rw [List.length_map]; omega) (thash P w k)
  have nb : n < 100000 := by
    have z : 10 * SetTable.turns t.mask ≤ 10000 := by
      unfold SetTable.turns
      rcases R.msk with (e | e | e) | e <;> omega
    omega
  unfold setSearch
  refine seek_from R hx hu add n1 n2 n3 yes (fun z => no n z n2 n3) 100000 0 none rfl (Nat.zero_le _) (by omega) fun i p hp hk => ?_
  have e1 : (L.map fun p => thash P w p.2)[i]? = some (thash P w k) := by simp [hp, hk]
  have il : i < t.place.toList.length := by
    have z := (List.getElem?_eq_some_iff.mp hp).1
    rw [Array.length_toList, R.tab.size, List.length_map]
    exact z
  obtain ⟨c, hc, e⟩ := R.tab.ahead n2 e1 (List.getElem?_eq_getElem il)
  exact ⟨c, Nat.zero_le _, hc, by rw [List.getElem?_eq_getElem il, e]⟩
theorem Pst.keep {h h' : Heap} (R : Pst P w h a L es ep t) (ha : ∀ o, h.get? a = some o → h'.get? a = some o) (ht : ∀ p ∈ L, IsT P w h' p.2 p.1) : Pst P w h' a L es ep t := by
  obtain ⟨o, ho, r⟩ := R.ob
  exact { R with ob := ⟨o, ha o ho, r⟩, tup := ht }
/-- the table laid anew -/
theorem relayG {o : Obj} (ho : s.heap.get? a = some o) (hex : o.ExactSet) (hd : o.data = .set es ep t) (hr : es.toList = rowsOf P w L) (hT : Tb t (L.map fun p => thash P w p.2)) (hfl : L.length ≤ t.mask)
    (nd : (L.map (·.2)).Nodup) (tup : ∀ p ∈ L, IsT P w s.heap p.2 p.1) (pl : t.plain = true) (ld : w.params.followText "set-order" = true ∨ t.led = true) (few : L.length ≤ 300) {wanted m : Nat}
    (hw : SetTable.sizeAbove wanted = m + 1) (M : Met m) (msk : MaskOk m ∨ m = 511) (hn : L.length * 5 < m * 3) {Q : Unit → Shared → Prop}
    (hQ : ∀ h' L' es' ep' t', Heap.SameBut a s.heap h' → Pst P w h' a L' es' ep' t' → L'.Perm L → Q () { s with heap := h' }) : wpAny (model P w) A (setRelay a wanted) Q E s := by
  have z0 := rows_len hr
  have z1 : t.place.size = L.length := by simpa using hT.size
  have m5 : m ≤ 511 := by rcases msk with (e | e | e) | e <;> omega
  have fit : t.fits es.size = true := by
    unfold SetTable.fits SetTable.fill
    simp only [hT.clean, Bool.and_eq_true, beq_iff_eq, decide_eq_true_eq]
    exact ⟨by omega, show t.place.size + 0 ≤ t.mask by omega⟩
  obtain ⟨t', order, e, hp, T, em, el, ep'⟩ := relaidG t (hs := es.map (·.1)) (wanted := wanted) (by rw [hw]; rfl) M (by rw [Array.size_map, z0]; omega)
  rw [Array.size_map, z0] at hp
  obtain ⟨L2, r1, r2, r3⟩ := order_rows L es order hr hp
  rw [← r3] at T
  have z2 : (order.filterMap (es[·]?)).size = es.size := by rw [rows_len r1, r2.length_eq, z0]
  rw [setRelay_eq]
  refine wpAny_bind (wpAny_setState_of ho hd fit ?_)
  dsimp only
  refine wp_if_neg (by rw [sizeLine_eq, hw]; omega) ?_
  try refine wpAny_bind (wpAny_pure ?_)
  rw [e]
  dsimp only
  refine wpAny_bind ?_
  refine wp_if_neg (by rw [z2]; simp) ?_
  try refine wpAny_bind (wpAny_pure ?_)
  refine wpAny_pure ?_
  dsimp only
  refine wpAny_storeSet_of ho hd ?_ (by rw [z2, z0, sizeLine_eq]; omega)
  have sb : Heap.SameBut a s.heap (s.heap.update a (Obj.putSet (order.filterMap (es[·]?)) t')) := Heap.SameBut.update ..
  refine hQ _ L2 (order.filterMap (es[·]?)) (ep + 1) t' sb ⟨⟨_, store_at ho hd, hex, rfl⟩, r1, T, (r2.map (·.2)).nodup_iff.mpr nd, fun p hpm => isT_same (tup p (r2.mem_iff.mp hpm)) ho hd sb, ep'.trans pl, by rw [el]; exact ld, by rw [r2.length_eq, em]; exact hn, by rw [em]; exact msk, by rw [r2.length_eq]; exact few⟩ r2
theorem size_308 : SetTable.sizeAbove (SetTable.grown 77) = 512 := by decide +kernel
/-- one is added -/
theorem addG (R : Pst P w s.heap a L es ep t) {x : Addr} {k : List Int} (hx : IsT P w s.heap k x) (hu : A.units < cLine) (hfew : L.length < 300) {Q : Bool → Shared → Prop}
    (hQ : ∀ b h' L' es' ep' t', Heap.SameBut a s.heap h' → Pst P w h' a L' es' ep' t' → (k ∈ L.map (·.2) → L' = L) → (k ∉ L.map (·.2) → L'.Perm ((x, k) :: L)) → Q b { s with heap := h' }) :
    wpAny (model P w) A (setAddHashed a (.ref x) (thash P w k)) Q E s := by
  obtain ⟨o, ho, hex, hd⟩ := R.ob
  have z0 := rows_len R.rows
  have rm := R.room
  unfold setAddHashed
  refine wpAny_holding ?_
  rw [show (100000 : Nat) = 99999 + 1 from rfl, setAddHashedIn_succ]
  refine wpAny_bind (wpAny_setState_of ho hd R.fit ?_)
  dsimp only
  refine wp_if_neg (by simp [byScan, Value.scannable]) ?_
  try refine wpAny_bind (wpAny_pure ?_)
  refine wpAny_bind (seek R hx hu true (fun hm r _ => ?_) fun n hm n2 n3 => ?_)
  · dsimp only
    exact wpAny_pure (hQ false s.heap L es ep t (Heap.SameBut.refl a s.heap) R (fun _ => rfl) fun z => absurd hm z)
  · dsimp only
    refine wpAny_bind (wpAny_setState_of ho hd R.fit ?_)
    dsimp only
    have wl := wayLe t.mask (thash P w k) n
    obtain ⟨q2, q3, q9⟩ := R.tab.put n2 n3 rfl
    have pp : (t.put (way t.mask (thash P w k) n)).2 = SetTable.below t.place (way t.mask (thash P w k) n) := rfl
    have pm' : (t.put (way t.mask (thash P w k) n)).1.mask = t.mask := rfl
    have pd : (t.put (way t.mask (thash P w k) n)).1.led = t.led := rfl
    have pn : (t.put (way t.mask (thash P w k) n)).1.plain = true := R.plain
    generalize t.put (way t.mask (thash P w k) n) = pt at pp pm' pd pn q3 q9 ⊢
    obtain ⟨t1, p⟩ := pt
    dsimp only at pp pm' pd pn q3 q9 ⊢
    rw [← pp] at q2 q3
    first
      | (refine wpAny_bind ?_; refine wp_if_pos pn ?_; refine hashBy_tup hx ?_)
      | refine wp_if_pos pn (wpAny_bind (hashBy_tup hx ?_))
    simp only [if_true]
    have hin : (SetTable.insertAt es p (thash P w k, Value.ref x)).toList = rowsOf P w (L.take p ++ (x, k) :: L.drop p) := by rw [SetTable.toList_insertAt, rows_put, R.rows]
    have pm := put_perm L p (x, k)
    have hhs : (L.take p ++ (x, k) :: L.drop p).map (fun p => thash P w p.2) = (L.map fun p => thash P w p.2).take p ++ thash P w k :: (L.map fun p => thash P w p.2).drop p := by simp [List.map_take, List.map_drop]
    rw [← hhs] at q3
    rw [List.length_map] at q9
    generalize SetTable.insertAt es p (thash P w k, Value.ref x) = es1 at hin ⊢
    generalize L.take p ++ (x, k) :: L.drop p = L1 at pm q3 hin
    have l1 : L1.length = L.length + 1 := pm.length_eq
    have nd1 : (L1.map (·.2)).Nodup := (pm.map (·.2)).nodup_iff.mpr (List.nodup_cons.mpr ⟨hm, R.nd⟩)
    have z1 := rows_len hin
    refine wpAny_bind (wpAny_storeSet_of ho hd ?_ (by rw [z1, sizeLine_eq]; omega))
    have sb : Heap.SameBut a s.heap (s.heap.update a (Obj.putSet es1 t1)) := Heap.SameBut.update ..
    have ho1 := store_at (es' := es1) (t' := t1) ho hd
    generalize s.heap.update a (Obj.putSet es1 t1) = h1 at sb ho1 ⊢
    have tup1 : ∀ p ∈ L1, IsT P w h1 p.2 p.1 := fun p hp => by
      rcases List.mem_cons.mp (pm.mem_iff.mp hp) with e | hp
      · rw [e]; exact isT_same hx ho hd sb
      · exact isT_same (R.tup p hp) ho hd sb
    have ld1 : w.params.followText "set-order" = true ∨ t1.led = true := by rw [pd]; exact R.led
    by_cases hf : t1.tooFull = true
    · first
        | (refine wpAny_bind ?_; refine wp_if_pos (by simp [hf]) ?_)
        | (refine wp_if_pos (by simp [hf]) ?_; refine wpAny_bind ?_)
      have full : (L.length + 1) * 5 ≥ t.mask * 3 := by
        unfold SetTable.tooFull at hf
        rw [decide_eq_true_eq, q9, pm'] at hf
        exact hf
      rw [z0]
      have go : ∀ m, SetTable.sizeAbove (SetTable.grown (L.length + 1)) = m + 1 → Met m → (MaskOk m ∨ m = 511) → (L.length + 1) * 5 < m * 3 →
          wpAny (model P w) A (setRelay a (SetTable.grown (L.length + 1))) (fun _ s' => wpAny (model P w) A (pure true) Q E s') E { s with heap := h1 } := fun m b1 b2 b3 b4 => by
        refine relayG (s := { s with heap := h1 }) ho1 ⟨hex.1, hex.2.1, hex.2.2⟩ rfl hin q3 (by rw [l1, pm']; omega) nd1 tup1 pn ld1 (by omega) b1 b2 b3 (by rw [l1]; exact b4) ?_
        intro h2 L2 es2 ep2 t2 sb2 R2 pm2
        exact wpAny_pure (hQ true h2 L2 es2 ep2 t2 (sb.trans sb2) R2 (fun z => absurd z hm) fun _ => pm2.trans pm)
      rcases R.msk with (e | e | e) | e
      · have e2 : L.length = 4 := by omega
        exact go 31 (by rw [e2, size_20]) (met_of (.inr (.inl rfl))) (.inl (.inr (.inl rfl))) (by omega)
      · have e2 : L.length = 18 := by omega
        exact go 127 (by rw [e2, size_76]) (met_of (.inr (.inr rfl))) (.inl (.inr (.inr rfl))) (by omega)
      · have e2 : L.length = 76 := by omega
        exact go 511 (by rw [e2, size_308]) met_511 (.inr rfl) (by omega)
      · omega
    · first
        | refine wp_if_neg (by simp [hf]) ?_
        | (refine wpAny_bind ?_; refine wp_if_neg (by simp [hf]) ?_; refine wpAny_pure ?_)
      have some_left : ¬ ((L.length + 1) * 5 ≥ t.mask * 3) := fun z => hf (by
        unfold SetTable.tooFull
        rw [decide_eq_true_eq, q9, pm']
        exact z)
      exact wpAny_pure (hQ true h1 L1 es1 (ep + 1) t1 sb ⟨⟨_, ho1, hex, rfl⟩, hin, q3, nd1, tup1, pn, ld1, by rw [l1, pm']; omega, by rw [pm']; exact R.msk, by omega⟩ (fun z => absurd z hm) fun _ => pm)
end
end Pf

namespace Pf
open PySem PySem.Spec PyProof.Rows L2
section
variable {P : Program} {w : World} {A : Around} {E : Value → Shared → Prop} {s : Shared} {a : Addr} {L : Rows} {es : Array (Int × Value)} {ep : Nat} {t : SetTable}
theorem findG (R : Pst P w s.heap a L es ep t) {x : Addr} {k : List Int} (hx : IsT P w s.heap k x) (hu : A.units < cLine) {Q : Option Nat → Shared → Prop}
    (h : ∀ r : Option Nat, r.isSome = decide (k ∈ L.map (·.2)) → Q r s) : wpAny (model P w) A (setFind a (.ref x) (thash P w k)) Q E s := by
  obtain ⟨o, ho, hex, hd⟩ := R.ob
  unfold setFind setFindIn
  refine wpAny_bind (wpAny_setState_of ho hd R.fit ?_)
  dsimp only
  refine wp_if_neg (by simp [byScan, Value.scannable]) ?_
  try refine wpAny_bind (wpAny_pure ?_)
  refine wpAny_bind (seek R hx hu false (fun hm r hr => ?_) fun n hm _ _ => ?_)
  · dsimp only
    exact wpAny_pure (h r (by rw [decide_eq_true hm]; exact hr rfl))
  · dsimp only
    exact wpAny_pure (h none (by rw [decide_eq_false hm]; rfl))
/-- x in the set -/
theorem inG (R : Pst P w s.heap a L es ep t) {x : Addr} {k : List Int} (hx : IsT P w s.heap k x) (hu : A.units + 3 < cLine) {Q : Value → Shared → Prop}
    (h : ∀ tk, Q (.bool (decide (k ∈ L.map (·.2)))) { s with toks := tk }) : wpAny (model P w) A (compareOp .In (.ref x) (.ref a)) Q E s := by
  obtain ⟨o, ho, hex, hd⟩ := R.ob
  have ty : s.TypeIs (.ref a) "set" := ⟨o, ho, hex.1⟩
  show wpAny _ _ (do return .bool (← contains (.ref a) (.ref x))) Q E s
  refine wpAny_bind ?_
  unfold contains
  try with_reducible refine wpAny_holding ?_
  refine wpAny_bind (wpAny_specialOf ty F.slot_set_contains.lookup ?_)
  show wpAny (model P w) A (if (some (Value.builtin "set.__contains__") == some Value.none) = true then _ else _) _ E s
  rw [if_neg (by rw [beq_builtin_none]; decide)]
  refine wpAny_bind (wpAny_callSpecialUnlessNone?_slot (name := Str.ofString "__contains__") ty F.slot_set_contains (wpAny_call_entry F.slot_set_contains ty entry_set_contains ?_ (F.args_set_contains_2 _ _)))
  unfold Builtin.«frozenset.__contains__» Builtin.Frozenset.oneOther; simp only [List.isEmpty_nil, bind_assoc]
  unfold Builtin.Frozenset.addrOf Builtin.Frozenset.withSetAsKey setContains; refine wpAny_bind (wpAny_pure ?_)
  try dsimp only
  refine wpAny_bind (wpAny_pure ?_)
  try dsimp only
  refine wpAny_bind (wpAny_tryCatch ?_)
  refine wpAny_holding ?_
  refine wpAny_bind (wpAny_pyHash_tuple (show A.units + 1 < cLine by omega) hx ?_)
  refine wpAny_bind (findG (s := { s with toks := s.toks + (k.length + 1) }) R hx (show A.units + 1 < cLine by omega) fun r hr => ?_)
  refine wpAny_pure ?_
  show wpAny (model P w) _ (ret (Value.bool r.isSome)) _ _ _
  rw [hr]
  exact wpAny_pure ⟨_, rfl, wpAny_truthy_bool (wpAny_pure (h _))⟩
theorem pst_new {h : Heap} {a : Addr} (ho : h.get? a = some { cls := .type "set", dict := none, data := .set #[] 0 (.fresh 0 0 (!w.params.followText "set-order")) }) : Pst P w h a [] #[] 0 (.fresh 0 0 (!w.params.followText "set-order")) :=
  ⟨⟨_, ho, ⟨rfl, rfl, rfl⟩, rfl⟩, rfl, ⟨List.Pairwise.nil, rfl, rfl, met_of (.inl rfl), (fun x hx => nomatch hx), (fun i h j hi => by simp at hi)⟩, List.nodup_nil, (fun p hp => nomatch hp), rfl,
    (by show _ ∨ (!w.params.followText "set-order") = true; cases w.params.followText "set-order" <;> simp), (show 0 * 5 < 7 * 3 by decide), .inl (.inl rfl), (show 0 ≤ 300 by decide)⟩
/-- the loop of set(xs) -/
theorem loopG {I : Addr} {fp wr : List Addr} {G : Array GenState → Array GenState → Prop} {n : Nat} {Pv : Nat → Value → Prop} {St : Nat → Shared → Prop} {R : Result → Shared → Prop}
    (W : WalksS P w A.in1 I fp wr G n Pv St) (S : Addr) (nS : S ∉ fp) (ks : Rows) (hn : n = ks.length) (few : ks.length ≤ 300) (val : ∀ i v, Pv i v → ∃ p, ks[i]? = some p ∧ v = .ref p.1)
    (h0 : Heap) (hk : ∀ p ∈ ks, IsT P w h0 p.2 p.1) (hS0 : h0.get? S = none) (hw0 : ∀ b ∈ wr, h0.get? b = none) (hu : A.in1.units < cLine) :
    ∀ (k i : Nat) (s : Shared), n - i = k → i ≤ n → St i s → (∀ b o, h0.get? b = some o → s.heap.get? b = some o) → (∃ L es ep t, Pst P w s.heap S L es ep t ∧ Got ks i L) →
      (∀ s' L es ep t, Moved (S :: wr) G s s' → Pst P w s'.heap S L es ep t → Got ks n L → (∀ b o, h0.get? b = some o → s'.heap.get? b = some o) → R (.ok (.ret .none)) s') →
      codeAny (model P w) A (.builtin "set.update.loop" ⟨[.ref S, .ref I], []⟩) R s := by
  have nw : S ∉ wr := fun h => nS (W.sub _ h)
  have cov : ∀ b ∈ wr, b ∈ S :: wr := fun b hb => List.mem_cons_of_mem _ hb
  have stay : ∀ {s s' : Shared}, Moved wr G s s' → (∀ b o, h0.get? b = some o → s.heap.get? b = some o) → ∀ b o, h0.get? b = some o → s'.heap.get? b = some o := fun mv kp b o e =>
    mv.heap b o (fun hb => by rw [hw0 b hb] at e; cases e) (kp b o e)
  intro k
  induction k with
  | zero =>
    intro i s ei hi st kp ⟨L, es, ep, t, ps, g⟩ hR
    obtain rfl : i = n := by omega
    refine codeAny_builtin F.entry_set_update_loop ?_
    rw [Around.under_plainId F.plain_set_update_loop _]
    show wpAny (model P w) A.in1 (pyNext (.ref I) >>= _) _ _ s
    refine wpAny_bind (W.done s _ _ st fun s' mv => ?_)
    show wpAny (model P w) A.in1 (ret Value.none) _ _ s'
    have kp' := stay mv kp
    exact wpAny_pure (hR s' L es ep t (mv.mono cov) (ps.keep (fun o e => mv.heap S o nw e) fun p hp => isT_keep (hk p (List.mem_of_mem_take (g.sub p hp))) kp') g kp')
  | succ k ih =>
    intro i s ei hi st kp ⟨L, es, ep, t, ps, g⟩ hR
    have lt : i < n := by omega
    refine codeAny_builtin F.entry_set_update_loop ?_
    rw [Around.under_plainId F.plain_set_update_loop _]
    show wpAny (model P w) A.in1 (pyNext (.ref I) >>= _) _ _ s
    refine wpAny_bind (W.item i s _ _ lt st fun v s' pv st' mv => ?_)
    obtain ⟨p, hp, rfl⟩ := val i v pv
    have kp' := stay mv kp
    have ps' : Pst P w s'.heap S L es ep t := ps.keep (fun o e => mv.heap S o nw e) fun q hq => isT_keep (hk q (List.mem_of_mem_take (g.sub q hq))) kp'
    have hx : IsT P w s'.heap p.2 p.1 := isT_keep (hk p (List.mem_of_getElem? hp)) kp'
    show wpAny (model P w) A.in1 (holding [Value.ref p.1] (setAdd S (.ref p.1)) >>= _) _ _ s'
    refine wpAny_bind (wpAny_holding ?_)
    unfold setAdd
    refine wpAny_holding ?_
    refine wpAny_bind (wpAny_pyHash_tuple hu hx ?_)
    refine addG (s := { s' with toks := s'.toks + (p.2.length + 1) }) ps' hx hu (by have := g.len; omega) fun b h' L' es' ep' t' sb ps2 c1 c2 => ?_
    have g' : Got ks (i + 1) L' := by
      by_cases c : p.2 ∈ L.map (·.2)
      · rw [c1 c]; exact g.same hp c
      · exact g.more hp (c2 c)
    have kp2 : ∀ b o, h0.get? b = some o → h'.get? b = some o := fun b o e => (sb.2 b (fun z => by rw [z, hS0] at e; cases e)).trans (kp' b o e)
    refine wpAny_pure ⟨plainId_quiet F.plain_set_update_loop _, ih (i + 1) _ (by omega) lt (W.frame _ s' _ _ st' (Nat.le_add_right _ _) fun b hb o e => ?_) kp2 ⟨L', es', ep', t', ps2, g'⟩ fun s2 L2 es2 ep2 t2 mv2 ps3 g2 kp3 => ?_⟩
    · exact (sb.2 b (fun z : b = S => nS (z ▸ hb))).trans e
    · exact hR s2 L2 es2 ep2 t2 (Moved.trans W.gtrans ((mv.mono cov).then_heap (Nat.le_add_right _ _) fun b o hb e => (sb.2 b (fun z : b = S => hb (z ▸ List.mem_cons_self))).trans e) mv2) ps3 g2 kp3
/-- a new empty set's object -/
abbrev emptyO (w : World) : Obj := { cls := .type "set", dict := none, data := .set #[] 0 (.fresh 0 0 (!w.params.followText "set-order")) }
set_option maxRecDepth 100000 in
set_option maxHeartbeats 6400000 in
/-- set(xs) -/
theorem callG {l : Addr} {items : Array Value} (ks : Rows) {Q : Value → Shared → Prop} (hh : A.handled = none) (hl : s.heap.IsList l items) (hit : items.toList = ks.map fun p => Value.ref p.1)
    (hk : ∀ p ∈ ks, IsT P w s.heap p.2 p.1) (few : ks.length ≤ 300) (hu : A.units + 3 < cLine)
    (h : ∀ (h' : Heap) (tk : Nat) L es ep t, Pst P w h' s.heap.objs.size L es ep t → Got ks ks.length L → (∀ b o, s.heap.get? b = some o → h'.get? b = some o) → Q (.ref s.heap.objs.size) { s with heap := h', toks := tk }) :
    wpAny (model P w) A (call (.type "set") [.ref l]) Q E s := by
  have isz : items.size = ks.length := by simpa using congrArg List.length hit
  obtain ⟨c, tl, hmro⟩ := F.called_set.mro
  have hmade := F.called_set.made
  have hsub := F.called_set.sub
  refine wpAny_call (codeAny_of_tree ?_)
  show wpAny (model P w) _ (callAny (.type "set") _) _ _ _
  refine wpAny_pure ⟨Code.quiet_builtin _ (by decide +kernel), codeAny_builtin F.entry_type_call ?_⟩
  rw [Around.under_plain (weight_type_call_type "set" [.ref l] []) rfl]
  have h1 := F.called_set.notType
  have h2 := F.called_set.canCreate
  have hct := F.typeCall_set_1 (.ref l)
  repeat any_goals first | assumption | wp_step
  refine codeAny_mono (code_set_led1 (.ref l) (E := E) (Q₁ := fun obj s₁ => obj = .ref s.heap.objs.size ∧ s₁ = { s with heap := s.heap.push (emptyO w) }) ⟨rfl, rfl⟩) fun r s₁ hr => ?_
  cases r with
  | error e => exact hr
  | ok fl =>
    cases fl with
    | ret obj =>
      obtain ⟨rfl, rfl⟩ := hr
      have hS : (s.heap.push (emptyO w)).get? s.heap.objs.size = some (emptyO w) := Heap.get?_push_size _ rfl
      have hT : Shared.TypeIs { s with heap := s.heap.push (emptyO w) } (.ref s.heap.objs.size) "set" := ⟨_, hS, rfl⟩
      have hli := F.called_set.init.lookup
      have hbi := F.called_set.init.bind (.ref s.heap.objs.size)
      repeat any_goals first | assumption | wp_step
      refine codeAny_mono (codeAny_call_builtin (R := wants (fun r s₂ => r = .none ∧ ∃ h' tk L es ep t, s₂ = { s with heap := h', toks := tk } ∧ Pst P w h' s.heap.objs.size L es ep t ∧ Got ks ks.length L ∧
          (∀ b o, s.heap.get? b = some o → h'.get? b = some o)) E) F.called_set.init.plain F.entry_set_init (check_set_init_1 hT ?_)) fun r₂ s₂ hr₂ => ?_
      · obtain ⟨ol, hol, hcl, nl, hdl⟩ := hl
        obtain ⟨ocls, odict, odata, oslots⟩ := ol
        simp only at hcl hdl
        subst hcl; subst hdl
        have hol' : (s.heap.push (emptyO w)).get? l = some { cls := .type "list", dict := odict, data := .seq items nl, slots := oslots } := Heap.get?_push_of_some _ hol
        have hsls := F.sub_list_set
        have hslf := F.sub_list_frozenset
        have hne : (Value.type "list" == Value.type "dict") = false := by decide
        have hl1 : (s.heap.push (emptyO w)).IsList l items := ⟨_, hol', rfl, nl, rfl⟩
        unfold Builtin.«set.__init__» noKeywords Builtin.Frozenset.updateFrom; generalize hPI : pyIter = PI
        wp_walk
        subst hPI
        refine wpAny_pyIter_list hl1 ?_
        refine wpAny_bind (wpAny_runValue ?_)
        have hlS : l < s.heap.objs.size := Heap.lt_size hol
        have hh3 : A.in1.in1.in1.handled = none := by simp [hh]
        have nI : l ≠ (s.heap.push (emptyO w)).objs.size := by rw [Heap.size_push]; exact Nat.ne_of_lt (Nat.lt_succ_of_lt hlS)
        have nS : s.heap.objs.size ∉ [(s.heap.push (emptyO w)).objs.size, l] := by
          rw [Heap.size_push]
          simp only [List.mem_cons, List.not_mem_nil, or_false, not_or]
          exact ⟨Nat.ne_of_lt (Nat.lt_succ_self _), Nat.ne_of_gt hlS⟩
        have val : ∀ (i : Nat) (v : Value), items[i]? = some v → ∃ p, ks[i]? = some p ∧ v = .ref p.1 := fun i v hv => by
          rw [← Array.getElem?_toList, hit, List.getElem?_map] at hv
          obtain ⟨p, e1, e2⟩ := Option.map_eq_some_iff.mp hv
          exact ⟨p, e1, e2.symm⟩
        have far : ∀ b, s.heap.objs.size ≤ b → s.heap.get? b = none := fun b hb => by
          cases q : s.heap.get? b with
          | none => rfl
          | some o => exact absurd (Nat.lt_of_lt_of_le (Heap.lt_size q) hb) (Nat.lt_irrefl _)
        refine loopG ((Walks.list hh3 _ l nI items).toS) s.heap.objs.size nS ks isz few val s.heap hk (far _ (Nat.le_refl _)) (fun b hb => far b (by rw [List.mem_singleton.mp hb, Heap.size_push]; exact Nat.le_succ _)) hu (items.size - 0) 0 _ (by omega) (Nat.zero_le _)
          ⟨⟨_, Heap.get?_push_size _ rfl, rfl, rfl⟩, (hl1.push _)⟩ (fun b o e => Heap.get?_push_of_some _ (Heap.get?_push_of_some _ e)) ⟨[], #[], 0, _, pst_new (Heap.get?_push_of_some _ hS), Got.zero ks⟩ ?hR
        case hR =>
          intro s' L es ep t hm hS' g' hkp
          obtain ⟨h', g2, d', tk', os'⟩ := s'
          have eg : g2 = s.gens := hm.gens
          have ed : d' = s.drawn := hm.drawn
          have eo : os' = s.os := hm.os
          subst eg; subst ed; subst eo
          show wpAny _ _ _ _ _ _
          refine wpAny_pure ?_
          show wpAny (model P w) _ (ret Value.none) _ _ _
          rw [isz] at g'
          exact wpAny_pure ⟨rfl, h', tk', L, es, ep, t, rfl, hS', g', hkp⟩
      · cases r₂ with
        | error e => exact hr₂
        | ok fl₂ =>
          cases fl₂ with
          | ret r =>
            obtain ⟨rfl, h', tk, L, es, ep, t, rfl, hS', g', hk'⟩ := hr₂
            repeat any_goals first | assumption | wp_step
            exact h _ _ _ _ _ _ hS' g' hk'
          | _ => exact hr₂.elim
    | _ => exact hr.elim
end
/-! ### over the layer -/
/-- the set at a, without its tuples -/
abbrev PstO (P : Program) (w : World) (a : Addr) (L : Rows) : HO := .ext fun h => ∃ (es : Array (Int × Value)) (ep : Nat) (t : SetTable), (∃ o, h.get? a = some o ∧ o.ExactSet ∧ o.data = .set es ep t) ∧ es.toList = rowsOf P w L ∧ Tb t (L.map fun p => thash P w p.2) ∧ (L.map (·.2)).Nodup ∧ t.plain = true ∧
    (w.params.followText "set-order" = true ∨ t.led = true) ∧ L.length * 5 < t.mask * 3 ∧ (MaskOk t.mask ∨ t.mask = 511) ∧ L.length ≤ 300
theorem Pst.ok {P : Program} {w : World} {H : Hp} {h : Heap} {a : Addr} {L : Rows} {es : Array (Int × Value)} {ep : Nat} {t : SetTable} (R : Pst P w h a L es ep t) : ObjOk P w H h a (PstO P w a L) :=
  ⟨⟨es, ep, t, R.ob, R.rows, R.tab, R.nd, R.plain, R.led, R.room, R.msk, R.few⟩, (by obtain ⟨o, ho, _⟩ := R.ob; exact ⟨o, ho⟩), fun h1 h2 ⟨es', ep', t', ⟨o', ho', r'⟩, q'⟩ k => ⟨es', ep', t', ⟨o', k o' ho', r'⟩, q'⟩⟩
def rSetP (K : Fg) (P : Program) (w : World) : List V → Hp → VK → Prop := fun xs H Q => ∃ (l : Addr) (ks : Rows), xs = [V.ref l] ∧ SqL K H l (ks.map fun p => V.ref p.1) ∧ (∀ p ∈ ks, SqT K H p.1 (p.2.map V.int)) ∧ ks.length ≤ 300 ∧
  ∀ a L, H a = none → (∀ p ∈ L, p ∈ ks) → (∀ p ∈ ks, p.2 ∈ L.map (·.2)) → Q (.ref a) (upd H a (PstO P w a L))
theorem cr_setP {X : Cx} {K : Fg} {P : Program} {w : World} (eK : X.K = K) (eP : X.prog = P) (ew : X.w = w) (hc : X.calm = true) (hu : X.A.units + 64 < cLine) : CallR X (.type "set") (rSetP K P w) := by
  subst eK eP ew
  intro pins s σ H xs us Q I r h
  obtain ⟨l, ks, rfl, hl, hk, hf, q⟩ := h
  rw [Vals.ref1 r]
  obtain ⟨its, rv, pl, hz⟩ := I.list hl
  have hn : H s.heap.objs.size = none := I.hok.fresh (Nat.le_refl _)
  refine callG (P := X.prog) (w := X.w) ks (I.ok.hd hc) pl.isList (by simpa using refs_of_vals rv) (fun p hp => I.isT (hk p hp)) hf (by omega) fun h' tk L es ep t R g k => ?_
  exact ⟨.ref s.heap.objs.size, upd H s.heap.objs.size (PstO X.prog X.w s.heap.objs.size L), I.laid (t' := tk) k (Nat.le_refl _) R.ok, rfl, q _ L hn (fun p hp => List.mem_of_mem_take (g.sub p hp)) fun p hp => g.all p (by rw [List.take_length]; exact hp)⟩
def rInP (K : Fg) (P : Program) (w : World) : R2 := fun x y H Q => ∃ (b : Addr) (k : List Int) (a : Addr) (L : Rows), x = .ref b ∧ y = .ref a ∧ SqT K H b (k.map V.int) ∧ H a = some (PstO P w a L) ∧ (∀ p ∈ L, SqT K H p.1 (p.2.map V.int)) ∧ Q (.bl (decide (k ∈ L.map (·.2)))) H
theorem op_inP {X : Cx} {K : Fg} {P : Program} {w : World} (eK : X.K = K) (eP : X.prog = P) (ew : X.w = w) (hu : X.A.units + 64 < cLine) : OpR X (compareOp .In) (rInP K P w) := by
  subst eK eP ew
  intro pins s σ H x y v u Q I rx ry h
  obtain ⟨b, k, a, L, rfl, rfl, hb, ha, hL, q⟩ := h
  cases rx
  cases ry
  obtain ⟨es, ep, t, h1, h2, h3, h4, h5, h6, h7, h8, h9⟩ := (I.hok a _ ha).1
  have R : Pst X.prog X.w s.heap a L es ep t := ⟨h1, h2, h3, h4, fun p hp => I.isT (hL p hp), h5, h6, h7, h8, h9⟩
  exact inG R (I.isT hb) (by omega) fun tk => ⟨.bl _, H, I.tok tk, rfl, q⟩
end Pf

namespace Pf
open PySem PySem.Spec PyProof.Rows L2
/-- a set of pairs -/
structure PSet (P : Program) (w : World) where
  l : List (Int × Int)
def PSetAt (P : Program) (w : World) (G : Hp) (v : V) (l : List (Int × Int)) : Prop := ∃ (a : Addr) (L : Rows), v = .ref a ∧ G a = some (PstO P w a L) ∧ (∀ p ∈ L, G p.1 = some (.tup (p.2.map V.int))) ∧ (∀ q : Int × Int, [q.1, q.2] ∈ L.map (fun r : Addr × List Int => r.2) ↔ q ∈ l) ∧ ∀ p ∈ L, ∃ q : Int × Int, p.2 = [q.1, q.2]
theorem PSetAt.mono {P : Program} {w : World} {G G' : Hp} {v : V} {l : List (Int × Int)} (e : Same G G') (h : PSetAt P w G v l) : PSetAt P w G' v l := by
  obtain ⟨a, L, h1, h2, h3, h4⟩ := h
  exact ⟨a, L, h1, e _ _ h2, fun p hp => e _ _ (h3 p hp), h4⟩
instance {P : Program} {w : World} : Rep (PSet P w) := ⟨fun G v S => PSetAt P w G v S.l, fun e h => h.mono e⟩
theorem pair_rows {G : Hp} : ∀ {vs : List V} {xs : List (Int × Int)}, Paired (rep G) vs xs → ∃ ks : Rows, vs = ks.map (fun p => V.ref p.1) ∧ ks.map (·.2) = xs.map (fun q => [q.1, q.2]) ∧ ∀ p ∈ ks, G p.1 = some (.tup (p.2.map V.int))
  | _, _, .nil => ⟨[], rfl, rfl, fun p hp => nomatch hp⟩
  | _, x :: _, .cons r t => by
    obtain ⟨a, u, w, rfl, h2, h3, h4⟩ := r
    obtain ⟨ks, e1, e2, e3⟩ := pair_rows t
    refine ⟨(a, [x.1, x.2]) :: ks, by rw [e1]; rfl, by rw [List.map_cons, e2]; rfl, fun p hp => ?_⟩
    rcases List.mem_cons.mp hp with e | e
    · subst e
      rw [h2, rep_int h3, rep_int h4]; rfl
    · exact e3 p e
section
variable {P : Program} {w : World} {K : Fg} {σ : L2.St} {G : Hp} {ta tb : TE}
theorem ev_setP {xs : List (Int × Int)} (ha : Ev ta σ G xs) (hl : xs.length ≤ 300) : Ev (tCB (rSetP K P w) (tCons ta tNil)) σ G (PSet.mk xs : PSet P w) := ev_B1 ha fun v G' H _ i k Q q => by
  obtain ⟨a, vs, rfl, h2, h3⟩ := k
  obtain ⟨ks, e1, e2, e3⟩ := pair_rows h3
  have kl : ks.length = xs.length := by simpa using congrArg List.length e2
  refine ⟨a, ks, rfl, .inl (.inl (by rw [← e1]; exact i _ _ h2)), fun p hp => .inl (.inl (i _ _ (e3 p hp))), by omega, fun b L nb s1 s2 => ?_⟩
  have gn := gr_new (o := PstO P w b L) i nb
  refine q _ (upd G' b (PstO P w b L)) _ gn ⟨b, L, rfl, upd_same, fun p hp => gn.g _ _ (e3 p (s1 p hp)), fun z => ?_, fun p hp => ?_⟩
  rotate_left
  · have m : p.2 ∈ xs.map (fun q => [q.1, q.2]) := e2 ▸ List.mem_map.mpr ⟨p, s1 p hp, rfl⟩
    obtain ⟨y, _, ey⟩ := List.mem_map.mp m
    exact ⟨y, ey.symm⟩
  constructor
  · intro hz
    obtain ⟨p, hp, e⟩ := List.mem_map.mp hz
    have m : p.2 ∈ xs.map (fun q => [q.1, q.2]) := e2 ▸ List.mem_map.mpr ⟨p, s1 p hp, rfl⟩
    obtain ⟨y, hy, ey⟩ := List.mem_map.mp m
    rw [e] at ey
    injection ey with e3 e4
    injection e4 with e4 _
    cases y; cases z
    cases e3; cases e4
    exact hy
  · intro hz
    have m : [z.1, z.2] ∈ ks.map (·.2) := e2 ▸ List.mem_map.mpr ⟨z, hz, rfl⟩
    obtain ⟨p, hp, e⟩ := List.mem_map.mp m
    rw [← e]
    exact s2 p hp
theorem ev_inP {x : Int × Int} {S : PSet P w} (ha : Ev ta σ G x) (hb : Ev tb σ G S) : Ev (tOp (rInP K P w) ta tb) σ G (decide (x ∈ S.l)) :=
  ev2 ha hb fun v u G' _ k1 k2 H i Q q => by
    obtain ⟨b, u1, u2, rfl, h2, h3, h4⟩ := k1
    obtain ⟨a, L, rfl, e1, e2, e3, _⟩ := k2
    refine ⟨b, [x.1, x.2], a, L, rfl, rfl, .inl (.inl (by rw [rep_int h3, rep_int h4] at h2; exact i _ _ h2)), i _ _ e1, fun p hp => .inl (.inl (i _ _ (e2 p hp))), q _ G' H (Gr.refl i) ?_⟩
    rw [decide_eq_decide.mpr (e3 x)]
    rfl
end
end Pf

namespace Pf
open PySem PySem.Spec PyProof.Rows L2
open PySem.W (alike alikeAll dataLt keyToks keyToksAll AllAlike Sortable dataLe AlikeAll minD EachIs)
/-! ### triples as data -/
instance {α β γ : Type} [Rep α] [DecidableEq α] [DatE α] [Rep β] [DecidableEq β] [DatE β] [Rep γ] [DecidableEq γ] [DatE γ] : DatE (Tri α β γ) := { (inferInstance : Dat (Tri α β γ)) with
  ok := fun x => by
    show PyData.canLayAll0 [dat x.a, dat x.b, dat x.c] = true
    simp only [PyData.canLayAll0, DatE.ok, Bool.and_true]
  dp := max (DatE.dp α) (max (DatE.dp β) (DatE.dp γ)) + 1
  deep := fun x => by
    show PyData.depthAll [dat x.a, dat x.b, dat x.c] + 1 ≤ _
    rw [PyData.depthAll, PyData.depthAll, PyData.depthAll, PyData.depthAll]
    exact Nat.succ_le_succ (Nat.max_le.mpr ⟨Nat.le_trans (DatE.deep x.a) (Nat.le_max_left _ _), Nat.max_le.mpr ⟨Nat.le_trans (Nat.le_trans (DatE.deep x.b) (Nat.le_max_left _ _)) (Nat.le_max_right _ _), Nat.max_le.mpr ⟨Nat.le_trans (Nat.le_trans (DatE.deep x.c) (Nat.le_max_right _ _)) (Nat.le_max_right _ _), Nat.zero_le _⟩⟩⟩)
  eq := fun x y => by
    show PyData.eqvAll [dat x.a, dat x.b, dat x.c] [dat y.a, dat y.b, dat y.c] = _
    simp only [PyData.eqvAll, DatE.eq, Bool.and_true]
    cases x; cases y
    simp only [Tri.mk.injEq, Bool.decide_and] }
instance {α β γ : Type} [Rep α] [DecidableEq α] [DatE α] [DatA α] [Rep β] [DecidableEq β] [DatE β] [DatA β] [Rep γ] [DecidableEq γ] [DatE γ] [DatA γ] : DatA (Tri α β γ) := ⟨fun x y => by
  show alikeAll [dat x.a, dat x.b, dat x.c] [dat y.a, dat y.b, dat y.c] = true
  simp only [alikeAll, DatA.al, Bool.and_true]⟩
def lt3 (x y : T3) : Prop := x.a < y.a ∨ (x.a = y.a ∧ (x.b < y.b ∨ (x.b = y.b ∧ x.c < y.c)))
theorem ltI_lex {x y : Int × Int} (h : ltI x y = true) : x.1 < y.1 ∨ (x.1 = y.1 ∧ x.2 < y.2) := by
  apply Classical.byContradiction
  intro z
  have e : ltI x y = false := SrtO.lexB_no.mpr (by omega)
  rw [e] at h
  cases h
theorem lines_strict {p : Plan} (h : isPlanM p = true) : (linesM p).Pairwise fun x y => ltI x y = true := by
  obtain ⟨h3, _, _, _, v, _⟩ := plan_facts h
  rw [lines_eq (by omega)]
  unfold allLines
  refine sort_strict (List.nodup_append.mpr ⟨?_, v.nd, fun x hx y hy e => ?_⟩)
  · unfold lawSides
    refine List.nodup_append.mpr ⟨?_, List.pairwise_singleton _ _, fun x hx y hy e => ?_⟩
    · refine List.pairwise_map.mpr ?_
      unfold rng
      refine List.pairwise_map.mpr (List.nodup_range.imp fun {a b} hab => fun e => hab ?_)
      injection e with e _
      omega
    · obtain ⟨l, hl, rfl⟩ := List.mem_map.mp hx
      have hl := rng_mem.mp hl
      rw [List.mem_singleton.mp hy] at e
      injection e with e1 e2
      omega
  · subst e
    have := v.cut x hy
    obtain ⟨a, b⟩ := x
    have h0 : 0 ≤ a ∧ 2 ≤ b - a ∧ b < p.1 ∧ ¬ (a = 0 ∧ b = p.1 - 1) := this
    rcases mem_sides.mp hx with z | z <;> omega
theorem rng_up (a b : Int) : (rng a b).Pairwise (· < ·) := by
  unfold rng
  refine List.pairwise_map.mpr (List.pairwise_lt_range.imp fun {x y} h => ?_)
  omega
theorem parts_up {p : Plan} (h : isPlanM p = true) : (partsM p).Pairwise lt3 := by
  unfold partsM
  refine List.pairwise_flatMap.mpr ⟨fun lm _ => ?_, (lines_strict h).imp fun {x y} hxy a ha b hb => ?_⟩
  · refine List.pairwise_map.mpr (((rng_up _ _).filter _).imp fun {x y} hxy => ?_)
    exact .inr ⟨rfl, .inr ⟨rfl, hxy⟩⟩
  · obtain ⟨c, _, rfl⟩ := List.mem_map.mp ha
    obtain ⟨d, _, rfl⟩ := List.mem_map.mp hb
    rcases ltI_lex hxy with z | ⟨z1, z2⟩
    · exact .inl z
    · exact .inr ⟨z1, .inl z2⟩
theorem rng_nodup (a b : Int) : (rng a b).Nodup := (rng_up a b).imp fun h e => by omega
theorem parts_len {p : Plan} (h : isPlanM p = true) : ((partsM p).length : Int) = p.1 - 2 := by
  obtain ⟨h3, _⟩ := plan_facts h
  obtain ⟨A, ca, sa⟩ := tree_of h
  have nd : ((partsM p).map fun t => t.b).Nodup := by
    refine List.pairwise_map.mpr ((parts_up h).imp_of_mem fun {x y} hx hy hxy e => ?_)
    obtain ⟨a, b, c⟩ := x
    obtain ⟨a', b', c'⟩ := y
    have e : b = b' := e
    subst e
    obtain ⟨l1, l2, j1, j2, j3⟩ := (mem_parts h).mp hx
    obtain ⟨k1, k2, i1, i2, i3⟩ := (mem_parts h).mp hy
    have ea : a = a' := by
      rcases Int.lt_trichotomy a a' with q | q | q
      · exact (no_cross h q k1 k2 j1 i2).elim
      · exact q
      · exact (no_cross h q l1 l2 i1 j2).elim
    subst ea
    have hxy : a < a ∨ (a = a ∧ (b < b ∨ (b = b ∧ c < c'))) := hxy
    exact no_cross h l1 l2 (show c < c' by omega) j2 i3
  have pm : ((partsM p).map fun t => t.b).Perm (rng 1 (p.1 - 1)) := (List.perm_ext_iff_of_nodup nd (rng_nodup _ _)).mpr fun b => by
    rw [List.mem_map, rng_mem]
    constructor
    · rintro ⟨⟨a, b', c⟩, hm, rfl⟩
      obtain ⟨l1, l2, j1, j2, j3⟩ := (mem_parts h).mp hm
      have n1 := j1.ne h
      have n3 := j3.ne h
      show 1 ≤ b' ∧ b' < p.1 - 1
      omega
    · rintro ⟨b1, b2⟩
      obtain ⟨a, c, z1, z2, z3, z4, z5, z6, z7⟩ := ca.mids sa (jn_last h) b (by omega) (by omega)
      exact ⟨⟨a, b, c⟩, (mem_parts h).mpr ⟨z2, z3, z5, z7, z6⟩, rfl⟩
  have := pm.length_eq
  rw [List.length_map, rng_len] at this
  omega
end Pf

namespace Pf
open PySem PySem.Spec PyProof.Rows L2
/-! ### the law's dict of lines, both ways, and its places -/
def tied2 (lh : Int × Int) : List ((Int × Int) × Bool) := [((lh.1, lh.2), true), ((lh.2, lh.1), true)]
def tiedD (p : Plan) : Dct (Int × Int) Bool := ⟨putAll ((allLines p).flatMap tied2) []⟩
theorem putAll_nodup {κ α : Type} [DecidableEq κ] : ∀ (ps l : List (κ × α)), (l.map (·.1)).Nodup → ((putAll ps l).map (·.1)).Nodup
  | [], _, h => h
  | x :: ps, l, h => putAll_nodup ps (put l x.1 x.2) (put_nodup h x.1 x.2)
theorem look_tied {p : Plan} (h : isPlanM p = true) (a b : Int) : (look (tiedD p).l (a, b)).isSome = decide (Jn p a b) := by
  obtain ⟨h3, _⟩ := plan_facts h
  have key := look_all ((allLines p).flatMap tied2).length ((allLines p).flatMap tied2) rfl (fun k v v' h1 h2 => by
    obtain ⟨x, _, hx⟩ := List.mem_flatMap.mp h1
    obtain ⟨y, _, hy⟩ := List.mem_flatMap.mp h2
    simp only [tied2, List.mem_cons, List.not_mem_nil, or_false, Prod.mk.injEq] at hx hy
    rcases hx with hx | hx <;> rcases hy with hy | hy <;> rw [hx.2, hy.2])
  have iff : (look (tiedD p).l (a, b)).isSome = true ↔ Jn p a b := by
    rw [Option.isSome_iff_exists]
    constructor
    · rintro ⟨v, hv⟩
      obtain ⟨x, hx, hm⟩ := List.mem_flatMap.mp ((key (a, b) v).mp hv)
      have lt := line_lt h hx
      rw [← lines_eq (by omega)] at hx
      simp only [tied2, List.mem_cons, List.not_mem_nil, or_false, Prod.mk.injEq] at hm
      obtain ⟨x1, x2⟩ := x
      have j : Jn p x1 x2 := (jn_in lt.2.1).mp hx
      rcases hm with ⟨⟨rfl, rfl⟩, _⟩ | ⟨⟨rfl, rfl⟩, _⟩
      · exact j
      · exact j.sym
    · intro j
      have ne := j.ne h
      refine ⟨true, (key (a, b) true).mpr (List.mem_flatMap.mpr ?_)⟩
      rw [← lines_eq (by omega)]
      rcases Int.lt_or_gt_of_ne ne.2.2.2.2 with q | q
      · exact ⟨(a, b), (jn_in q).mpr j, by simp [tied2]⟩
      · exact ⟨(b, a), (jn_in q).mpr j.sym, by simp [tied2]⟩
  by_cases j : Jn p a b
  · rw [decide_eq_true j]; exact iff.mpr j
  · rw [decide_eq_false j]
    cases e : (look (tiedD p).l (a, b)).isSome with
    | false => rfl
    | true => exact absurd (iff.mp e) j
def keysM (p : Plan) : List (Int × Int) := (tiedD p).l.map (·.1)
def spotsM (p : Plan) : List (Int × Int) := sortP (keysM p)
theorem keys_nodup (p : Plan) : (keysM p).Nodup := putAll_nodup _ [] List.nodup_nil
theorem mem_keys {p : Plan} (h : isPlanM p = true) {a b : Int} : (a, b) ∈ keysM p ↔ Jn p a b := by
  unfold keysM
  rw [← look_mem, look_tied h]
  exact decide_eq_true_iff
def swapP (x : Int × Int) : Int × Int := (x.2, x.1)
theorem lines_nodup {p : Plan} (h : isPlanM p = true) : (linesM p).Nodup := pw_nodup (lines_strict h)
theorem both_perm {p : Plan} (h : isPlanM p = true) : (linesM p ++ (linesM p).map swapP).Perm (keysM p) := by
  obtain ⟨h3, _⟩ := plan_facts h
  have lt : ∀ x ∈ linesM p, x.1 < x.2 := fun x hx => (line_lt h (by rw [← lines_eq (by omega)]; exact hx)).2.1
  refine (List.perm_ext_iff_of_nodup (List.nodup_append.mpr ⟨lines_nodup h, ?_, fun x hx y hy e => ?_⟩) (keys_nodup p)).mpr fun x => ?_
  · refine List.pairwise_map.mpr ((lines_nodup h).imp fun {x y} hxy e => hxy ?_)
    injection e with e1 e2
    exact Prod.ext e2 e1
  · obtain ⟨z, hz, rfl⟩ := List.mem_map.mp hy
    have q1 := lt x hx
    have q2 := lt z hz
    rw [e] at q1
    have q1 : z.2 < z.1 := q1
    omega
  · obtain ⟨a, b⟩ := x
    rw [mem_keys h, List.mem_append]
    constructor
    · rintro (z | z)
      · exact (jn_in (lt _ z)).mp z
      · obtain ⟨⟨u, v⟩, hy, e⟩ := List.mem_map.mp z
        injection e with e1 e2
        have e1 : v = a := e1
        have e2 : u = b := e2
        subst e1 e2
        exact ((jn_in (lt _ hy)).mp hy).sym
    · intro j
      have ne := j.ne h
      rcases Int.lt_or_gt_of_ne ne.2.2.2.2 with q | q
      · exact .inl ((jn_in q).mpr j)
      · exact .inr (List.mem_map.mpr ⟨(b, a), (jn_in q).mpr j.sym, rfl⟩)
theorem spots_len {p : Plan} (h : isPlanM p = true) : ((spotsM p).length : Int) = 4 * p.1 - 6 := by
  obtain ⟨h3, _⟩ := plan_facts h
  have := (both_perm h).length_eq
  have hl := lines_len h
  rw [← lines_eq (by omega)] at hl
  rw [List.length_append, List.length_map] at this
  unfold spotsM
  rw [sortP_len]
  omega
theorem fm_len {α β : Type} {f : α → List β} {m : Nat} : ∀ {l : List α}, (∀ x ∈ l, (f x).length = m) → (l.flatMap f).length = m * l.length
  | [], _ => rfl
  | x :: l, h => by rw [List.flatMap_cons, List.length_append, h x List.mem_cons_self, fm_len fun y hy => h y (List.mem_cons_of_mem _ hy), List.length_cons, Nat.mul_succ]; omega
/-! the law's parts -/
end Pf

namespace Pf
open PySem PySem.Spec PyProof.Rows L2
/-! ### new lists -/
section
variable {α β γ : Type} [Rep α] [Rep β] [Rep γ] {σ : L2.St} {G H : Hp} {te ta tb : TE} {tt : TT} {x : α} {K : Fg} {D : Ends} {ts tr u : TS}
theorem new_ml {G H G1 H1 : Hp} {p : Addr} {vs : List V} {xs : List α} (g1 : Gr M0 G H G1 H1) (np : H1 p = none) (pa : Paired (rep G1) vs xs) : Gr M0 G H G1 (upd H1 p (.lst vs)) ∧ H p = none ∧ Ml G1 (upd H1 p (.lst vs)) p xs :=
  ⟨g1.mut (.inl (up_none g1.same np)) (up_none g1.i np), up_none g1.same np, up_none g1.i np, vs, upd_same, pa⟩
theorem spL1_sp1 {pre : α → Prop} {f : α → List γ} : ∀ vs H Q E, sp1 pre f vs H Q E → spL1 pre f vs H Q E := fun vs H Q E ⟨v, x, G, e, i, r, hp, k⟩ => ⟨v, x, G, e, i, r, hp, fun p G' H' g np m => by
  obtain ⟨G2, g2, r2, _⟩ := m.frz g np
  exact k _ G2 H' g2 r2⟩
theorem spL2_sp2 {pre : α → β → Prop} {f : α → β → List γ} : ∀ vs H Q E, sp2 pre f vs H Q E → spL2 pre f vs H Q E := fun vs H Q E ⟨v, x, v2, x2, G, e, i, r, r2, hp, k⟩ => ⟨v, x, v2, x2, G, e, i, r, r2, hp, fun p G' H' g np m => by
  obtain ⟨G2, g2, r2, _⟩ := m.frz g np
  exact k _ G2 H' g2 r2⟩
theorem en_sortedP {ps : List (Int × Int)} (ha : Ev ta σ G ps) : EvN (tCB (rSortedPO K) (tCons ta tNil)) σ G (sortP ps) := fun H i Q q => ha H i _ fun v G' H1 g1 k => by
  obtain ⟨a, vs, rfl, h2, h3⟩ := k
  refine ⟨a, vs, keyAt G', rfl, .inl (.inl (g1.i _ _ h2)), fun x hx => ?_, fun ys p hs hb np => ?_⟩
  · obtain ⟨p, hp⟩ := paired_mem h3 x hx
    obtain ⟨e, t, e1, e2⟩ := keyAt_of hp
    exact ⟨t, e1, by rw [e]; exact g1.i _ _ e2⟩
  · have hy : ∀ v ∈ ys, ∃ p : Int × Int, rep G' v p := fun v hv => paired_mem h3 v (hb.perm.mem_iff.mp hv)
    have hm : ys.map (keyAt G') = sortP ps := by
      refine sortP_uniq ?_ (List.pairwise_map.mpr hs)
      rw [← map_keyAt h3]
      exact hb.perm.map _
    obtain ⟨z1, z2, z3⟩ := new_ml (xs := ys.map (keyAt G')) g1 np (paired_keyAt hy)
    rw [hm] at z3
    exact q p G' _ z1 z2 z3
theorem en_catL {xs ys : List α} (ha : Ev ta σ G xs) (hb : Ev tb σ G ys) (hl : xs.length + ys.length ≤ 100000) : EvN (tOp rCat ta tb) σ G (xs ++ ys) := fun H i Q q =>
  ha H i _ fun v G1 H1 g1 k1 => (hb.mono g1.g) H1 g1.i _ fun u G2 H2 g2 k2 => by
    obtain ⟨a, vs, rfl, h2, h3⟩ := Rep.mono g2.g k1
    obtain ⟨b, us, rfl, h4, h5⟩ := k2
    refine ⟨a, b, vs, us, rfl, rfl, g2.i _ _ h2, g2.i _ _ h4, by rw [paired_len h3, paired_len h5]; exact sl_small hl, fun p np => ?_⟩
    obtain ⟨z1, z2, z3⟩ := new_ml (g1.trans g2) np (paired_app h3 h5)
    exact q p G2 _ z1 z2 z3
/-! xs.index(x) -/
theorem mt_indexK {X : Cx} (h : X.K = K) : MtR X "list.index" (rIndex K) := h ▸ mt_index
theorem idx_find {x : Int} : ∀ {xs : List Int}, x ∈ xs → xs[xs.idxOf x]? = some x ∧ ∀ m z, m < xs.idxOf x → xs[m]? = some z → z ≠ x
  | y :: ys, h => by
    by_cases e : y = x
    · subst e
      rw [List.idxOf_cons_self]
      exact ⟨rfl, fun m z hm => by omega⟩
    · have hy : x ∈ ys := by
        rcases List.mem_cons.mp h with z | z
        · exact absurd z.symm e
        · exact z
      have ei : (y :: ys).idxOf x = ys.idxOf x + 1 := by rw [List.idxOf_cons, show (y == x) = false from beq_eq_false_iff_ne.mpr e]; rfl
      rw [ei]
      obtain ⟨h1, h2⟩ := idx_find hy
      refine ⟨by rw [List.getElem?_cons_succ]; exact h1, fun m z hm hz => ?_⟩
      cases m with
      | zero => rw [List.getElem?_cons_zero] at hz; cases hz; exact e
      | succ m => rw [List.getElem?_cons_succ] at hz; exact h2 m z (by omega) hz
theorem ev_index {xs : List Int} {y : Int} (ha : Ev ta σ G xs) (hb : Ev tb σ G y) (hm : y ∈ xs) : Ev (tBM K "list" (rIndex K) ta (tCons tb tNil)) σ G ((xs.idxOf y : Nat) : Int) := fun H i Q q =>
  ha H i _ fun v G1 H1 g1 k1 => by
    obtain ⟨a, vs, rfl, h2, h3⟩ := k1
    refine ⟨.inl ⟨rfl, vs, .inl (.inl (g1.i _ _ h2))⟩, (hb.mono g1.g) H1 g1.i _ fun u G2 H2 g2 k2 => ?_⟩
    cases k2
    obtain ⟨f1, f2⟩ := idx_find hm
    have e := paired_ints h3
    subst e
    refine ⟨a, _, .int y, xs.idxOf y, .int y, rfl, rfl, .inl (.inl (g2.i _ _ (g2.g _ _ h2))), rfl, ?_, ?_, ?_, ?_, q _ G2 H2 (g1.trans g2) rfl⟩
    · exact List.all_eq_true.mpr fun z hz => by obtain ⟨k, _, rfl⟩ := List.mem_map.mp hz; rfl
    · rw [List.getElem?_map, f1]; rfl
    · show (y == y) = true; exact beq_self_eq_true y
    · intro m z hm' hz
      rw [List.getElem?_map] at hz
      obtain ⟨k, hk, rfl⟩ := Option.map_eq_some_iff.mp hz
      show (k == y) = false
      exact beq_eq_false_iff_ne.mpr (f2 m k hm' hk)
/-! a list within a list or a pair is changed -/
theorem ev_notInL [DecidableEq α] [DatE α] {xs : List α} {y : α} (ha : Ev ta σ G y) (hb : Ev tb σ G xs) (h : DatE.dp α + 1 ≤ 64) : Ev (tOp (rNotInD K) ta tb) σ G (!decide (y ∈ xs)) :=
  ev2 ha hb fun v u G' _ k1 k2 H i Q q => ⟨dat y, xs.map dat, rd_dp i _ _ (Dat.rd k1), rd_dp i _ _ (Dat.rd k2), shaped_dat y (by omega), shaped_dat xs h, q _ G' H (Gr.refl i) (by rw [any_dat]; rfl)⟩
end
end Pf

namespace Pf
open PySem PySem.Spec PyProof.Rows L2
/-! ### a comprehension that draws from the bag -/
section
variable {α β γ : Type} [Rep α] [Rep β] [Rep γ] {σ : L2.St} {G H : Hp} {te ta tb : TE} {tt : TT} {K : Fg} {D : Ends} {ts tr u : TS} {g : TG}
end
/-! ### fans -/
theorem mem_fan {p : Plan} (h : isPlanM p = true) {f c : Int} (hf : 0 ≤ f ∧ f < p.1) : c ∈ fanM p f ↔ Jn p f c := by
  obtain ⟨h3, _⟩ := plan_facts h
  unfold fanM
  rw [List.map_id', List.mem_filter, decide_eq_true_iff]
  constructor
  · exact fun z => z.2
  · intro j
    refine ⟨List.mem_map.mpr ?_, j⟩
    have ne := j.ne h
    refine ⟨if c < f then c + p.1 - f else c - f, rng_mem.mpr ?_, ?_⟩
    · split <;> omega
    · split
      · rw [show f + (c + p.1 - f) = c + p.1 by omega, Int.add_emod_right, Int.emod_eq_of_lt (by omega) (by omega)]
      · rw [show f + (c - f) = c by omega, Int.emod_eq_of_lt (by omega) (by omega)]
theorem jn_next {p : Plan} (h : isPlanM p = true) {f : Int} (hf : 0 ≤ f ∧ f < p.1) : Jn p f ((f + 1) % p.1) := by
  obtain ⟨h3, _⟩ := plan_facts h
  rw [wrap (by omega) (by omega)]
  split
  · exact jn_side h (by omega) (by omega) rfl
  · have e : f = p.1 - 1 := by omega
    subst e
    rw [show p.1 - 1 + 1 - p.1 = 0 by omega]
    exact (jn_last h).sym
theorem rng_cons {a b : Int} (h : a < b) : rng a b = a :: rng (a + 1) b := by
  unfold rng
  rw [show (b - a).toNat = (b - (a + 1)).toNat + 1 by omega, List.range_succ_eq_map, List.map_cons, List.map_map]
  congr 1
  · show a + ((0 : Nat) : Int) = a; omega
  · refine List.map_congr_left fun k _ => ?_
    show a + ((k + 1 : Nat) : Int) = a + 1 + (k : Int)
    omega
def middlesM (p : Plan) (s : Int × Int) : Int × Int := ((((fanM p s.1).idxOf s.2 : Nat) : Int) % 3, (((fanM p s.1).idxOf s.2 : Nat) - (((fanM p s.1).length : Nat) - 1 : Int)) % 3)
end Pf

namespace Pf
open PySem PySem.Spec PyProof.Rows L2
section
variable {α β γ : Type} [Rep α] [Rep β] [Rep γ] {σ : L2.St} {G H : Hp} {te ta tb : TE} {tt : TT} {K : Fg} {D : Ends} {ts tr u : TS} {g : TG} {x : α}
theorem en_lc {wi : TI} {vs : List Nat} {xs : List α} {f : α → β} (hx : EvI wi σ G xs) (hl : xs.length ≤ 100000)
    (hb : ∀ x ∈ xs, ∀ v G1, Same G G1 → rep G1 v x → GB g v (wipe σ vs) G1 fun σ2 => wipe σ2 vs = wipe σ vs ∧ Ev te σ2 G1 (f x)) : EvN (tLc wi g tYes te vs) σ G (xs.map f) := by
  have h := en_lcf (σ := σ) (G := G) (g := g) (tt := tYes) (te := te) (vs := vs) (p := fun _ => true) (f := f) hx hl fun x hx v G1 s r H i Q q => hb x hx v G1 s r H i Q fun σ2 ⟨h1, h2⟩ => q σ2 ⟨h1, et_yes, fun _ => h2⟩
  rw [List.filter_eq_self.mpr (fun _ _ => rfl)] at h
  exact h
/-- two stacks -/
def spPL2 (pre : α → β → Prop) {δ ε : Type} [Rep δ] [Rep ε] (f : α → β → List δ) (h : α → β → List ε) : Sp := fun vs H Q _ => ∃ v x v2 x2 G, vs = [v, v2] ∧ Same G H ∧ rep G v x ∧ rep G v2 x2 ∧ pre x x2 ∧
  ∀ t p1 p2 G' H', Gr M0 G H G' H' → p1 ≠ p2 → Ml G' H' p1 (f x x2) → Ml G' H' p2 (h x x2) → G' t = none → H t = none → H' t = some (.tup [.ref p1, .ref p2]) → H p1 = none → H p2 = none → Q (.ref t) H'
end
/-! ### arcs -/
def arc (n s e : Int) : List Int := (rng 0 ((e - s) % n)).map fun k => (s + k) % n
theorem arc_go {n s e : Int} (hs : 0 ≤ s ∧ s < n) (he : 0 ≤ e ∧ e < n) (ne : s ≠ e) : arc n s e = s :: goM n s e := by
  unfold arc goM
  have h : 0 < (e - s) % n := by rw [wrapN (by omega) (by omega)]; split <;> omega
  rw [rng_cons h, List.map_cons]
  congr 1
  rw [Int.add_zero, Int.emod_eq_of_lt (by omega) (by omega)]
theorem mem_arc {n s e c : Int} (hs : 0 ≤ s ∧ s < n) (he : 0 ≤ e ∧ e < n) (ne : s ≠ e) : c ∈ arc n s e ↔ 0 ≤ c ∧ c < n ∧ (c = s ∨ Cy s c e) := by
  rw [arc_go hs he ne, List.mem_cons, mem_go hs he ne]
  constructor
  · rintro (z | z)
    · exact ⟨by omega, by omega, .inl z⟩
    · exact ⟨z.1, z.2.1, .inr z.2.2⟩
  · rintro ⟨h0, h1, z | z⟩
    · exact .inl z
    · exact .inr ⟨h0, h1, z⟩
theorem arc_nodup {n s e : Int} (hs : 0 ≤ s ∧ s < n) : (arc n s e).Nodup := by
  unfold arc
  refine List.pairwise_map.mpr ((rng_nodup 0 _).imp_of_mem fun {a b} ha hb hab z => hab ?_)
  have ha := rng_mem.mp ha
  have hb := rng_mem.mp hb
  have hm := Int.emod_lt_of_pos (e - s) (show 0 < n by omega)
  rw [wrap (by omega) (by omega), wrap (by omega) (by omega)] at z
  split at z <;> split at z <;> omega
theorem arc_len {n s e : Int} : (arc n s e).length = ((e - s) % n).toNat := by unfold arc; rw [List.length_map, rng_len, Int.sub_zero]
theorem arcs_perm {n t u : Int} (ht : 0 ≤ t ∧ t < n) (hu : 0 ≤ u ∧ u < n) (ne : t ≠ u) : (rng 0 n).Perm (arc n t u ++ (arc n u t).reverse) := by
  refine (List.perm_ext_iff_of_nodup (rng_nodup _ _) (List.nodup_append.mpr ⟨arc_nodup ht, (arc n u t).reverse_perm.nodup_iff.mpr (arc_nodup hu), fun a ha b hb e => ?_⟩)).mpr fun c => ?_
  · subst e
    have h1 := (mem_arc ht hu ne).mp ha
    have h2 := (mem_arc hu ht ne.symm).mp (List.mem_reverse.mp hb)
    unfold Cy at h1 h2
    omega
  · rw [rng_mem, List.mem_append, List.mem_reverse, mem_arc ht hu ne, mem_arc hu ht ne.symm]
    unfold Cy
    constructor
    · intro h; omega
    · intro h; omega
theorem rng_rev (m : Int) : (rng 0 m).reverse = (rng 0 m).map fun s => m - 1 - s := by
  apply List.ext_getElem?
  intro k
  by_cases h : k < m.toNat
  · rw [List.getElem?_reverse (by rw [rng_len]; omega), rng_len, List.getElem?_map, rng_at (by omega), rng_at (by omega)]
    show some (0 + (((m - 0).toNat - 1 - k : Nat) : Int)) = some (m - 1 - (0 + (k : Int)))
    congr 1
    omega
  · rw [List.getElem?_eq_none (by rw [List.length_reverse, rng_len]; omega), List.getElem?_eq_none (by rw [List.length_map, rng_len]; omega)]
def oddM (n t u : Int) : List Int := (rng 0 ((t - u) % n)).map fun s => (t - 1 - s) % n
theorem odd_eq {n t u : Int} (ht : 0 ≤ t ∧ t < n) (hu : 0 ≤ u ∧ u < n) (ne : t ≠ u) : oddM n t u = (arc n u t).reverse := by
  unfold oddM arc
  rw [← List.map_reverse, rng_rev, List.map_map]
  refine List.map_congr_left fun s hs => ?_
  have hs := rng_mem.mp hs
  show (t - 1 - s) % n = (u + ((t - u) % n - 1 - s)) % n
  have e : (t - u) % n = t - u ∨ (t - u) % n = t - u + n := by rw [wrapN (by omega) (by omega)]; split <;> omega
  rcases e with e | e
  · rw [e]; congr 1; omega
  · rw [e, ← Int.add_emod_right]; congr 1; omega
end Pf

namespace Pf
open PySem PySem.Spec PyProof.Rows L2
/-! ### how many a set has -/
theorem g3 {α β γ : Type} [Rep α] [Rep β] [Rep γ] {K : Fg} {σ : L2.St} {G H : Hp} {v : V} {x : Tri α β γ} {i j l : Nat} {Q : L2.St → Hp → Prop} (r : rep G v x) (s : Same G H) (h : ∀ u w z, rep G u x.a → rep G w x.b → rep G z x.c → Q (((σ.set i (some u)).set j (some w)).set l (some z)) H) : gTup K 3 (gCons (gName i) (gCons (gName j) (gCons (gName l) gNil))) v σ H Q := by
  obtain ⟨a, u, w, z, rfl, h2, h3, h4, h5⟩ := r
  exact ⟨a, [u, w, z], rfl, .inl (.inl (s _ _ h2)), rfl, u, [w, z], rfl, w, [z], rfl, z, [], rfl, rfl, h u w z h3 h4 h5⟩
/-! ### a way among texts -/
section
variable {σ : L2.St} {G H : Hp} {ta tb : TE} {K : Fg}
theorem inV_strs (x : Str) : ∀ ys : List Str, inV (.str x) (ys.map V.str) = decide (x ∈ ys)
  | [] => rfl
  | y :: ys => by
    have ih := inV_strs x ys
    unfold inV at ih ⊢
    rw [List.map_cons, List.any_cons, ih]
    show ((y == x) || decide (x ∈ ys)) = decide (x ∈ y :: ys)
    by_cases h : y = x
    · subst h
      rw [beq_self_eq_true, decide_eq_true List.mem_cons_self]; rfl
    · rw [beq_eq_false_iff_ne.mpr h, Bool.false_or]
      exact decide_eq_decide.mpr ⟨List.mem_cons_of_mem _, fun z => (List.mem_cons.mp z).resolve_left fun e => h e.symm⟩
theorem strs_flat (ys : List Str) : (ys.map V.str).all flatV = true := List.all_eq_true.mpr fun v hv => by obtain ⟨y, _, rfl⟩ := List.mem_map.mp hv; rfl
theorem ev_notInS {x : Str} {ys : List Str} {a : Addr} (ha : Ev ta σ G x) (hS : ∀ H, SqT K H a (ys.map V.str)) : Ev (tOp (rIn K true) ta (tC (.ref a))) σ G (!decide (x ∈ ys)) := fun H i Q q => ha H i _ fun v G1 H1 g1 k1 => by
  cases k1
  exact ⟨a, ys.map V.str, rfl, .inr (hS H1), rfl, strs_flat ys, q _ G1 H1 g1 (by rw [inV_strs]; rfl)⟩
end
/-! ### pinches -/
abbrev sE : Str := "even"
abbrev sO : Str := "odd"
abbrev sP : Str := "pinch"
def cornerM (d : Dct (Int × Int) Int) (s : Int × Int) (way : Str) : Option Int := if way = sE then look d.l s else look d.l (swapP s)
def thW (p : Plan) (s : Int × Int) (way : Str) : Option Int := if way = sE then thM p s.1 s.2 else thM p s.2 s.1
theorem corner_th {p : Plan} (h : isPlanM p = true) {s : Int × Int} (j : Jn p s.1 s.2) (way : Str) : cornerM (thirdsM p) s way = thW p s way := by
  unfold cornerM thW
  split
  · exact look_th h j
  · exact look_th h j.sym
def behindM (s : Int × Int) (word : Str) (c : Int) : Int × Int := if word = sP then (c, s.1) else (s.2, c)
def goneM (p : Plan) (s : Int × Int) (word way : Str) : Int × Int := behindM s word ((thW p s way).getD 0)
def otherW (way : Str) : Str := if way = sE then sO else sE
theorem th_some {p : Plan} (h : isPlanM p = true) {s : Int × Int} {way : Str} {c : Int} (j : Jn p s.1 s.2) : thW p s way = some c ↔ (way = sE ∧ Tr p s.1 c s.2) ∨ (way ≠ sE ∧ Tr p s.2 c s.1) := by
  unfold thW
  by_cases e : way = sE
  · rw [if_pos e, th_iff h j]
    exact ⟨fun t => .inl ⟨e, t⟩, fun z => z.elim (fun z => z.2) (fun z => absurd e z.1)⟩
  · rw [if_neg e, th_iff h j.sym]
    exact ⟨fun t => .inr ⟨e, t⟩, fun z => z.elim (fun z => absurd z.1 e) (fun z => z.2)⟩
theorem other_ne {way : Str} (e : way ≠ sE) : otherW way = sE := if_neg e
theorem other_e : otherW sE = sO := if_pos rfl
/-- what a pinch and an unpinch lead to -/
structure Pin (p : Plan) (s : Int × Int) (way : Str) (c : Int) : Prop where
  j1 : Jn p c s.1
  j2 : Jn p s.2 c
  t1 : thW p (c, s.1) way = some s.2
  t2 : thW p (s.2, c) way = some s.1
  t3 : thW p (swapP s) (otherW way) = some c
  ne : c ≠ s.1 ∧ c ≠ s.2
theorem pin_of {p : Plan} (h : isPlanM p = true) {s : Int × Int} {way : Str} {c : Int} (j : Jn p s.1 s.2) (e : thW p s way = some c) : Pin p s way c := by
  rcases (th_some h j).mp e with ⟨rfl, t⟩ | ⟨hw, t⟩
  · have n1 := t.sv.ne h
    have n2 := t.ve.ne h
    exact ⟨t.sv.sym, t.ve.sym, (th_some h (s := (c, s.1)) t.sv.sym).mpr (.inl ⟨rfl, t.rot⟩), (th_some h (s := (s.2, c)) t.ve.sym).mpr (.inl ⟨rfl, t.rot.rot⟩), by rw [other_e]; exact (th_some h (s := swapP s) j.sym).mpr (.inr ⟨by decide, t⟩), by omega⟩
  · have n1 := t.sv.ne h
    have n2 := t.ve.ne h
    exact ⟨t.ve, t.sv, (th_some h (s := (c, s.1)) t.ve).mpr (.inr ⟨hw, t.rot.rot⟩), (th_some h (s := (s.2, c)) t.sv).mpr (.inr ⟨hw, t.rot⟩), by rw [other_ne hw]; exact (th_some h (s := swapP s) j.sym).mpr (.inl ⟨rfl, t⟩), by omega⟩
theorem gone_p {p : Plan} {s : Int × Int} {way : Str} {c : Int} (e : thW p s way = some c) : goneM p s sP way = (c, s.1) := by unfold goneM behindM; rw [e, if_pos rfl]; rfl
theorem gone_u {p : Plan} {s : Int × Int} {way : Str} {c : Int} (e : thW p s way = some c) : goneM p s "unpinch" way = (s.2, c) := by unfold goneM behindM; rw [e, if_neg (by decide)]; rfl
theorem lp_ne {a b c d : Int} (h : ¬ (a = c ∧ b = d)) (h2 : ¬ (a = d ∧ b = c)) : lawPair a b ≠ lawPair c d := by
  rcases lp_cases a b with ⟨e, _⟩ | ⟨e, _⟩ <;> rcases lp_cases c d with ⟨f, _⟩ | ⟨f, _⟩ <;> rw [e, f] <;> intro z <;> injection z with z1 z2 <;> omega
abbrev rNotN : R2 := fun x y H Q => y = .non ∧ Q (.bl (!decide (x = .non))) H
end Pf

namespace Pf
open PySem PySem.Spec PyProof.Rows L2
/-! ### the strip's order -/
def ordN (p : Plan) : Nat → Int → Int → Bool → List Int
  | 0, s, _, _ => [s]
  | k + 1, s, e, b => match look (thirdsM p).l (s, e) with
    | none => [s]
    | some c => if b = true then ordN p k s c (!b) ++ ordN p k c e (!b) else ordN p k c e (!b) ++ ordN p k s c (!b)
theorem arc_w {n s e : Int} (hs : 0 ≤ s ∧ s < n) (he : 0 ≤ e ∧ e < n) : (e - s) % n = if e < s then e - s + n else e - s := by
  rw [wrapN (by omega) (by omega)]
  by_cases h : e < s
  · rw [if_pos (by omega), if_pos h]
  · rw [if_neg (by omega), if_neg h]
theorem cy_w {n s c e : Int} (hs : 0 ≤ s ∧ s < n) (hc : 0 ≤ c ∧ c < n) (he : 0 ≤ e ∧ e < n) (h : Cy s c e) : (c - s) % n + (e - c) % n = (e - s) % n ∧ 1 ≤ (c - s) % n ∧ 1 ≤ (e - c) % n := by
  rw [arc_w hs hc, arc_w hc he, arc_w hs he]
  unfold Cy at h
  split <;> split <;> split <;> omega
theorem rng_app {a b c : Int} (h1 : a ≤ b) (h2 : b ≤ c) : rng a c = rng a b ++ rng b c := by
  unfold rng
  rw [show (c - a).toNat = (b - a).toNat + (c - b).toNat by omega, List.range_add, List.map_append, List.map_map]
  congr 1
  refine List.map_congr_left fun k _ => ?_
  show a + (((b - a).toNat + k : Nat) : Int) = b + (k : Int)
  omega
theorem rng_sh (a b d : Int) : rng (a + d) (b + d) = (rng a b).map fun k => k + d := by
  unfold rng
  rw [show b + d - (a + d) = b - a by omega, List.map_map]
  refine List.map_congr_left fun k _ => ?_
  show a + d + (k : Int) = a + (k : Int) + d
  omega
theorem arc_split {n s c e : Int} (hs : 0 ≤ s ∧ s < n) (hc : 0 ≤ c ∧ c < n) (he : 0 ≤ e ∧ e < n) (h : Cy s c e) : arc n s e = arc n s c ++ arc n c e := by
  obtain ⟨w1, w2, w3⟩ := cy_w hs hc he h
  unfold arc
  rw [← w1, rng_app (a := 0) (b := (c - s) % n) (by omega) (by omega), List.map_append]
  congr 1
  have z := rng_sh 0 ((e - c) % n) ((c - s) % n)
  rw [show (0 : Int) + (c - s) % n = (c - s) % n by omega, show (e - c) % n + (c - s) % n = (c - s) % n + (e - c) % n by omega] at z
  rw [z, List.map_map]
  refine List.map_congr_left fun k _ => ?_
  show (s + (k + (c - s) % n)) % n = (c + k) % n
  have : (c - s) % n = c - s ∨ (c - s) % n = c - s + n := by rw [arc_w hs hc]; split <;> omega
  rcases this with e | e
  · rw [e]; congr 1; omega
  · rw [e, show s + (k + (c - s + n)) = c + k + n by omega, Int.add_emod_right]
theorem look_none {p : Plan} (h : isPlanM p = true) {s e : Int} (j : Jn p s e) : look (thirdsM p).l (s, e) = none ↔ (s + 1) % p.1 = e := by
  have ne := j.ne h
  constructor
  · intro z
    apply Classical.byContradiction
    intro q
    obtain ⟨c, t⟩ := tr_ex h j (fun z => q (by
      rcases z with z | z
      · rw [z, Int.emod_eq_of_lt (by omega) (by omega)]
      · rw [z.1, z.2, show p.1 - 1 + 1 = p.1 by omega, Int.emod_self]))
    rw [(look_thirds h).mpr t] at z
    cases z
  · intro q
    cases z : look (thirdsM p).l (s, e) with
    | none => rfl
    | some c =>
      exfalso
      have t := (look_thirds h).mp z
      have n1 := t.sv.ne h
      have cy := t.cy
      unfold Cy at cy
      rw [wrap (by omega) (by omega)] at q
      split at q <;> omega
theorem arc_one {n s : Int} (hs : 0 ≤ s ∧ s < n) (h2 : 2 ≤ n) : arc n s ((s + 1) % n) = [s] := by
  have e : ((s + 1) % n - s) % n = 1 := by
    rw [Int.emod_sub_emod]
    rw [show s + 1 - s = 1 by omega, Int.emod_eq_of_lt (by omega) (by omega)]
  unfold arc
  rw [e]
  show [(s + (0 + ((0 : Nat) : Int))) % n] = [s]
  rw [show s + (0 + ((0 : Nat) : Int)) = s by omega, Int.emod_eq_of_lt hs.1 hs.2]
theorem ord_perm {p : Plan} (h : isPlanM p = true) : ∀ (k : Nat) (s e : Int) (b : Bool), Jn p s e → (e - s) % p.1 ≤ k → (ordN p k s e b).Perm (arc p.1 s e) := by
  have h3 := (plan_facts h).1
  intro k
  induction k with
  | zero =>
    intro s e b j hk
    have ne := j.ne h
    rw [arc_w (by omega) (by omega)] at hk
    split at hk <;> omega
  | succ k ih =>
    intro s e b j hk
    have ne := j.ne h
    unfold ordN
    cases z : look (thirdsM p).l (s, e) with
    | none =>
      rw [← (look_none h j).mp z, arc_one (by omega) (by omega)]
    | some c =>
      have t := (look_thirds h).mp z
      have n1 := t.sv.ne h
      obtain ⟨w1, w2, w3⟩ := cy_w (n := p.1) (by omega) (by omega) (by omega) t.cy
      have i1 := ih s c (!b) t.sv (by omega)
      have i2 := ih c e (!b) t.ve (by omega)
      rw [arc_split (by omega) (by omega) (by omega) t.cy]
      show (if b = true then ordN p k s c (!b) ++ ordN p k c e (!b) else ordN p k c e (!b) ++ ordN p k s c (!b)).Perm _
      split
      · exact i1.append i2
      · exact (i2.append i1).trans List.perm_append_comm
def ordM (p : Plan) : List Int := [0] ++ ordN p 40 1 0 true
theorem jn_10 {p : Plan} (h : isPlanM p = true) : Jn p 1 0 := (jn_side h (a := 0) (b := 1) (by omega) (by have := (plan_facts h).1; omega) rfl).sym
theorem ordM_perm {p : Plan} (h : isPlanM p = true) : (ordM p).Perm (rng 0 p.1) := by
  obtain ⟨h3, h40, _⟩ := plan_facts h
  have i := ord_perm h 40 1 0 true (jn_10 h) (by rw [arc_w (by omega) (by omega)]; split <;> omega)
  unfold ordM
  refine (List.Perm.append_left [0] i).trans ?_
  have e := (arcs_perm (n := p.1) (t := 0) (u := 1) (by omega) (by omega) (by omega)).symm
  have a0 : arc p.1 0 1 = [0] := by
    have := arc_one (n := p.1) (s := 0) (by omega) (by omega)
    rw [show (0 + 1 : Int) % p.1 = 1 by rw [Int.emod_eq_of_lt (by omega) (by omega)]; rfl] at this
    exact this
  rw [a0] at e
  exact (List.Perm.append_left [0] (arc p.1 1 0).reverse_perm.symm).trans e
theorem ordN_len {p : Plan} (h : isPlanM p = true) {k : Nat} {s e : Int} {b : Bool} (j : Jn p s e) (hk : (e - s) % p.1 ≤ k) : (ordN p k s e b).length ≤ 40 := by
  obtain ⟨h3, h40, _⟩ := plan_facts h
  rw [(ord_perm h k s e b j hk).length_eq, arc_len]
  have := Int.emod_lt_of_pos (e - s) (show 0 < p.1 by omega)
  omega
end Pf

namespace Pf
open PySem PySem.Spec PyProof.Rows L2 LamX
/-! ### lambdas without parameters, handed to a def: errors told at the very state -/
section
variable {X : Cx}
end
end Pf

namespace Pf
open PySem PySem.Spec PyProof.Rows L2 LamX
/-! ### the word for what a lambda's call ended by -/
/-! ### tables of code objects, kept along -/
def NoT (G : Hp) : Prop := ∀ a ps, G a ≠ some (.tbl ps)
theorem NoT.step {M : Addr → Prop} {G H G' H' : Hp} (n : NoT G) (g : Gr M G H G' H') : NoT G' := fun a ps e => by
  rcases g.n a _ e with z | ⟨_, nt⟩
  · exact n a ps z
  · exact nt ps rfl
structure TbAt (G H : Hp) (P : Addr) (q : Str) : Prop where
  nt : NoT G
  out : G P = none
  tab : TabS H P q
theorem codeO_lst {c : Addr} {q : Str} (xs : List V) : CodeO c q ≠ .lst xs := fun z => by unfold CodeO at z; cases z
theorem TbAt.step {M : Addr → Prop} {G H G' H' : Hp} {P : Addr} {q : Str} (t : TbAt G H P q) (g : Gr M G H G' H') (hM : ∀ a, M a → H a = none ∨ ∃ xs, H a = some (.lst xs)) : TbAt G' H' P q := by
  obtain ⟨ps, e1, e2, e3⟩ := t.tab
  have keep : ∀ a o, H a = some o → (∀ xs, o ≠ .lst xs) → H' a = some o := fun a o e no => g.h a o (fun m => by
    rcases hM a m with z | ⟨xs, z⟩
    · rw [z] at e; cases e
    · rw [z] at e; cases e; exact no xs rfl) e
  refine ⟨t.nt.step g, g.out t.out e1, ps, keep _ _ e1 (fun _ z => by cases z), e2, fun pos cv hc => ?_⟩
  obtain ⟨c, z1, z2⟩ := e3 pos cv hc
  exact ⟨c, z1, keep _ _ z2 fun xs => codeO_lst xs⟩
theorem TbAt.step0 {G H G' H' : Hp} {P : Addr} {q : Str} (t : TbAt G H P q) (g : Gr M0 G H G' H') : TbAt G' H' P q := t.step g fun _ z => z.elim
theorem TbAt.stepB {G H G' H' : Hp} {P b : Addr} {q : Str} (t : TbAt G H P q) (g : Gr (Mb b) G H G' H') (bg : Bag G H b) : TbAt G' H' P q := t.step g fun a e => by
  cases e
  obtain ⟨_, _, _, _, _, _, eb, _⟩ := bg
  exact .inr ⟨_, eb⟩
/-! ### a def whose code object is known -/
structure FunC (K : Fg) (x : Str) (st : Stmt) (f : Addr) (fd : FuncData) (c : Addr) : Prop where
  ex : ∃ (oc : Value) (od : Option Addr) (kV doc pm : Value) (an : Option Addr) (ct : Value) (osl : Array (Option Value)),
    fd = PySem.W.fnOf x x (defArgs st) (defBody st) (defScope st) .none kV doc pm an (.ref c) ct ∧ K.lookup f = some ⟨oc, od, .func fd, osl⟩ ∧ PySem.W.codeIn K (.ref c) x = true
theorem FunC.ok {P : Program} {w : World} {K : Fg} {mg : Str → Option Value} {base : Heap} {x : Str} {st : Stmt} {f c : Addr} {fd : FuncData} {N ps : List Str} {k : Nat} {sp : Sp} (F : FunC K x st f fd c) (S : FnScope N ps (defScope st)) (len : ∀ vs H Q E, sp vs H Q E → vs.length = ps.length)
    (hbody : ∀ (A : Around) (outer : List Env) (s : Shared) (H : Hp) (vs : List V) (Q : VK) (E : XK), Room k (A.deeper (envOfC x (defScope st) s.heap.objs.size f (.ref c))) → sp vs H Q E →
      ∃ t, PSs (cxOf CX0 P w K mg base N x (defScope st) f (.ref c) A outer s H E).nox (defBody st) t ∧ t { nx := fun _ H' => Q .non H', rt := Q } (start N vs) H) : FnOk P w K mg base CX0 (k + 1) f fd ps sp := by
  obtain ⟨oc, od, kV, doc, pm, an, ct, osl, rfl, lk, hcd⟩ := F.ex
  refine fn_of lk hcd S len fun A outer s H vs Q E hr hsp => ?_
  obtain ⟨t, h, q⟩ := hbody A outer s H vs Q E hr hsp
  exact ⟨t, h.nox, q⟩
section
variable {α β γ δ : Type} [Rep α] [Rep β] [Rep γ] [Rep δ]
end
end Pf

namespace Pf
open PySem PySem.Spec PyProof.Rows L2
/-! ### a number or None as data; texts as data -/
section
variable {σ : L2.St} {G H : Hp} {te : TE}
end
theorem ev_neW {σ : L2.St} {G : Hp} {ta tb : TE} {K : Fg} {d e : PyData} (ha : Ev ta σ G d) (hb : Ev tb σ G e) (h1 : SeqAt.shaped d = true) (h2 : SeqAt.shaped e = true) : Ev (tOp (rNeD K) ta tb) σ G (!PyData.eqv d e) :=
  ev2 ha hb fun v u G' _ k1 k2 H i Q q => ⟨d, e, rd_dp i _ _ k1, rd_dp i _ _ k2, h1, h2, q _ G' H (Gr.refl i) rfl⟩
end Pf

namespace Pf
open PySem PySem.Spec PyProof.Rows L2
/-! ### {k: v}, k a tuple -/
section
variable {prog : Program} {w : World} {κ : Type} [DecidableEq κ] {kn : HeapKind prog w κ} {A : Around} {E : Value → Shared → Prop} {s : Shared}
end
section
variable {κ α : Type} [Rep κ] [TK κ] [DecidableEq κ] [Rep α] {σ : L2.St} {G H : Hp} {ta tb : TE} {D : Ends} {u : TS}
end
end Pf

namespace Pf
open PySem PySem.Spec PyProof.Rows L2
/-! ### round tours -/
/-- how many leaves the stack of a way has -/
def wd (p : Plan) (s : Int × Int) (way : Str) : Int := if way = sE then (s.2 - s.1) % p.1 else (s.1 - s.2) % p.1
/-! all lines of an arc are met -/
end Pf

namespace Pf
open PySem PySem.Spec PyProof.Rows L2
end Pf

namespace Pf
open PySem PySem.Spec PyProof.Rows L2
section
variable {α β γ δ : Type} [Rep α] [Rep β] [Rep γ] [Rep δ] {σ : L2.St} {G H : Hp} {ta tb tc : TE} {K : Fg} {x : α} {x2 : β} {x3 : γ}
end
end Pf

namespace Pf
open PySem PySem.Spec PyProof.Rows L2
section
variable {α β : Type} [Rep α] [Rep β] {σ : L2.St} {G H : Hp} {ta tb : TE} {K : Fg}
theorem paired_strs {G : Hp} : ∀ {vs : List V} {xs : List Str}, Paired (rep G) vs xs → vs = xs.map V.str
  | _, _, .nil => rfl
  | _, _, .cons r t => by rw [rep_str r, paired_strs t]; rfl
theorem Bag.same {H' : Hp} {b : Addr} (x : Bag G H b) (s : Same H H') : Bag G H' b := by
  obtain ⟨n, cv, c1, c2, c3, cells, e, r⟩ := x
  exact ⟨n, cv, c1, c2, c3, cells, s _ _ e, r⟩
end
end Pf

namespace Pf
open PySem PySem.Spec PyProof.Rows L2
/-! ### the hands of the parts: a part is of the right hand where it lies beyond an even count of cuts, as seen from the side of 0 and 1 -/
/-- a corner that lies beyond a cut, or at its ends -/
def far (m : Int × Int) (c : Int) : Bool := if m.1 = 0 then decide (c = 0 ∨ m.2 ≤ c) else decide (m.1 ≤ c ∧ c ≤ m.2)
def beyT (m : Int × Int) (a b c : Int) : Bool := far m a && far m b && far m c
def dep (p : Plan) (a b c : Int) : Nat := p.2.l.countP fun m => beyT m a b c
def hnd (p : Plan) (a b c : Int) : Bool := decide (dep p a b c % 2 = 0)
theorem beyT_rot (m : Int × Int) (a b c : Int) : beyT m a b c = beyT m b c a := by
  unfold beyT
  cases far m a <;> cases far m b <;> cases far m c <;> rfl
theorem beyT_sw (m : Int × Int) (a b c : Int) : beyT m a b c = beyT m b a c := by
  unfold beyT
  cases far m a <;> cases far m b <;> cases far m c <;> rfl
theorem dep_rot (p : Plan) (a b c : Int) : dep p a b c = dep p b c a := by unfold dep; congr 1; funext m; exact beyT_rot m a b c
theorem dep_sw (p : Plan) (a b c : Int) : dep p a b c = dep p b a c := by unfold dep; congr 1; funext m; exact beyT_sw m a b c
theorem hnd_rot (p : Plan) (a b c : Int) : hnd p a b c = hnd p b c a := by unfold hnd; rw [dep_rot]
theorem hnd_sw (p : Plan) (a b c : Int) : hnd p a b c = hnd p b a c := by unfold hnd; rw [dep_sw]
theorem cut_facts {p : Plan} (h : isPlanM p = true) {m : Int × Int} (hm : m ∈ p.2.l) : 0 ≤ m.1 ∧ m.1 + 2 ≤ m.2 ∧ m.2 < p.1 ∧ ¬ (m.1 = 0 ∧ m.2 = p.1 - 1) ∧ Jn p m.1 m.2 := by
  obtain ⟨h3, h40, hl, hb, hv, _⟩ := plan_facts h
  obtain ⟨a1, a2, a3, a4⟩ := hv.cut m hm
  refine ⟨a1, by omega, a3, a4, (jn_lt h (by omega)).mpr (.inr (.inr hm))⟩
theorem far_or {p : Plan} (h : isPlanM p = true) {m : Int × Int} (hm : m ∈ p.2.l) {u v : Int} (j : Jn p u v) (hu : far m u = true) (hv : far m v = false) : u = m.1 ∨ u = m.2 := by
  obtain ⟨x, y⟩ := m
  obtain ⟨c0, c1, c2, c3, jm⟩ := cut_facts h hm
  obtain ⟨j1, j2, j3, j4, j5⟩ := j.ne h
  simp only at *
  unfold far at hu hv
  simp only at hu hv
  by_cases hx : x = 0
  · subst hx
    rw [if_pos rfl] at hu hv
    have hu := of_decide_eq_true hu
    have hv := of_decide_eq_false hv
    by_cases e : u = 0 ∨ u = y
    · exact e
    · exact (no_cross h (a := 0) (b := v) (c := y) (d := u) (by omega) (by omega) (by omega) jm j.sym).elim
  · rw [if_neg hx] at hu hv
    have hu := of_decide_eq_true hu
    have hv := of_decide_eq_false hv
    by_cases e : u = x ∨ u = y
    · exact e
    · by_cases hvx : v < x
      · exact (no_cross h (a := v) (b := x) (c := u) (d := y) (by omega) (by omega) (by omega) j.sym jm).elim
      · exact (no_cross h (a := x) (b := u) (c := y) (d := v) (by omega) (by omega) (by omega) jm j).elim
/-- the third corner of a part goes with the line, but for the line itself -/
theorem far_third {p : Plan} (h : isPlanM p = true) {m : Int × Int} (hm : m ∈ p.2.l) {a b d : Int} (ja : Jn p a d) (jb : Jn p b d) (ne : a ≠ b) (hne : m ≠ lawPair a b) (ha : far m a = true) (hb : far m b = true) : far m d = true := by
  cases hd : far m d with
  | true => rfl
  | false =>
    exfalso
    have e1 := far_or h hm ja ha hd
    have e2 := far_or h hm jb hb hd
    obtain ⟨c0, c1, _⟩ := cut_facts h hm
    apply hne
    obtain ⟨x, y⟩ := m
    simp only at *
    unfold lawPair
    rcases e1 with e1 | e1 <;> rcases e2 with e2 | e2
    · omega
    · subst e1 e2; rw [if_neg (by omega), if_pos (by omega)]
    · subst e1 e2; rw [if_pos (by omega), if_neg (by omega)]
    · omega
theorem bey_other {p : Plan} (h : isPlanM p = true) {m : Int × Int} (hm : m ∈ p.2.l) {a b c d : Int} (t : Tr p a c b) (u : Tr p b d a) (hne : m ≠ lawPair a b) : beyT m a b c = beyT m a b d := by
  have ne := (t.se.ne h).2.2.2.2
  unfold beyT
  cases ha : far m a with
  | false => simp
  | true =>
    cases hb : far m b with
    | false => simp
    | true => rw [far_third h hm t.sv t.ve.sym ne hne ha hb, far_third h hm u.ve.sym u.sv ne hne ha hb]
/-- a line with parts on both sides is a cut -/
theorem both_cut {p : Plan} (h : isPlanM p = true) {a b c d : Int} (t : Tr p a c b) (u : Tr p b d a) : lawPair a b ∈ p.2.l := by
  have j := t.se
  obtain ⟨a1, a2, a3, a4, a5⟩ := j.ne h
  obtain ⟨_, _, c1, c2, _⟩ := t.sv.ne h
  obtain ⟨_, _, d1, d2, _⟩ := u.sv.ne h
  have x := t.cy; have y := u.cy
  unfold Cy at x y
  by_cases hab : a < b
  · rw [lp_lt hab]
    rcases (jn_lt h hab).mp j with z | z | z
    · omega
    · omega
    · exact z
  · rw [lp_sym, lp_lt (by omega)]
    rcases (jn_lt h (show b < a by omega)).mp j.sym with z | z | z
    · omega
    · omega
    · exact z
theorem bey_self {p : Plan} (h : isPlanM p = true) {a b c d : Int} (t : Tr p a c b) (u : Tr p b d a) : beyT (lawPair a b) a b c = !beyT (lawPair a b) a b d := by
  have hm := both_cut h t u
  obtain ⟨m0, m1, m2, m3, _⟩ := cut_facts h hm
  obtain ⟨a1, a2, a3, a4, a5⟩ := t.se.ne h
  obtain ⟨_, _, c1, c2, _⟩ := t.sv.ne h
  obtain ⟨_, _, d1, d2, _⟩ := u.sv.ne h
  have x := t.cy; have y := u.cy
  unfold Cy at x y
  have key : ∀ {l r : Int}, l < r → ∀ e, far (l, r) e = if l = 0 then decide (e = 0 ∨ r ≤ e) else decide (l ≤ e ∧ e ≤ r) := fun _ _ => rfl
  have hT : ∀ {q : Prop} [Decidable q], q → decide q = true := fun hq => decide_eq_true hq
  have hF : ∀ {q : Prop} [Decidable q], ¬ q → decide q = false := fun hq => decide_eq_false hq
  unfold beyT
  by_cases hab : a < b
  · rw [lp_lt hab] at m0 m1 m2 m3 ⊢
    simp only at m0 m1 m2 m3
    rw [key hab, key hab, key hab, key hab]
    by_cases h0 : a = 0
    · rw [if_pos h0, if_pos h0, if_pos h0, if_pos h0, hT (show a = 0 ∨ b ≤ a by omega), hT (show b = 0 ∨ b ≤ b by omega), hF (show ¬ (c = 0 ∨ b ≤ c) by omega), hT (show d = 0 ∨ b ≤ d by omega)]; rfl
    · rw [if_neg h0, if_neg h0, if_neg h0, if_neg h0, hT (show a ≤ a ∧ a ≤ b by omega), hT (show a ≤ b ∧ b ≤ b by omega), hT (show a ≤ c ∧ c ≤ b by omega), hF (show ¬ (a ≤ d ∧ d ≤ b) by omega)]; rfl
  · have hba : b < a := by omega
    rw [lp_sym, lp_lt hba] at m0 m1 m2 m3 ⊢
    simp only at m0 m1 m2 m3
    rw [key hba, key hba, key hba, key hba]
    by_cases h0 : b = 0
    · rw [if_pos h0, if_pos h0, if_pos h0, if_pos h0, hT (show a = 0 ∨ a ≤ a by omega), hT (show b = 0 ∨ a ≤ b by omega), hT (show c = 0 ∨ a ≤ c by omega), hF (show ¬ (d = 0 ∨ a ≤ d) by omega)]; rfl
    · rw [if_neg h0, if_neg h0, if_neg h0, if_neg h0, hT (show b ≤ a ∧ a ≤ a by omega), hT (show b ≤ b ∧ b ≤ a by omega), hF (show ¬ (b ≤ c ∧ c ≤ a) by omega), hT (show b ≤ d ∧ d ≤ a by omega)]; rfl
theorem countP_diff {α : Type} [DecidableEq α] {f g : α → Bool} {x : α} : ∀ {l : List α}, l.Nodup → x ∈ l → (∀ y ∈ l, y ≠ x → f y = g y) → f x = true → g x = false → l.countP f = l.countP g + 1
  | y :: l, nd, hx, he, hf, hg => by
    rw [List.nodup_cons] at nd
    by_cases e : y = x
    · subst e
      rw [List.countP_cons_of_pos hf, List.countP_cons_of_neg (by rw [hg]; decide)]
      congr 1
      exact List.countP_congr fun z hz => by rw [he z (List.mem_cons_of_mem _ hz) (fun q => nd.1 (q ▸ hz))]
    · have hx' : x ∈ l := (List.mem_cons.mp hx).resolve_left (fun q => e q.symm)
      have ih := countP_diff nd.2 hx' (fun z hz => he z (List.mem_cons_of_mem _ hz)) hf hg
      have ey := he y (List.mem_cons_self) e
      rw [List.countP_cons, List.countP_cons, ih, ey]
      omega
theorem dep_step {p : Plan} (h : isPlanM p = true) {a b c d : Int} (t : Tr p a c b) (u : Tr p b d a) (hb : beyT (lawPair a b) a b c = true) : dep p a b c = dep p a b d + 1 := by
  obtain ⟨_, _, _, _, hv, _⟩ := plan_facts h
  refine countP_diff hv.nd (both_cut h t u) (fun m hm ne => bey_other h hm t u ne) hb ?_
  have e := bey_self h t u
  rw [hb] at e
  cases z : beyT (lawPair a b) a b d with
  | false => rfl
  | true => rw [z] at e; cases e
/-- two parts at one line are of unlike hands -/
theorem hnd_flip {p : Plan} (h : isPlanM p = true) {a b c d : Int} (t : Tr p a c b) (u : Tr p b d a) : hnd p a b c = !hnd p a b d := by
  unfold hnd
  cases e : beyT (lawPair a b) a b c with
  | true =>
    rw [dep_step h t u e]
    by_cases z : dep p a b d % 2 = 0
    · rw [decide_eq_true z, decide_eq_false (by omega)]; rfl
    · rw [decide_eq_false z, decide_eq_true (by omega)]; rfl
  | false =>
    have e2 : beyT (lawPair b a) b a d = true := by
      rw [lp_sym, beyT_sw]
      have q := bey_self h t u
      rw [e] at q
      cases z : beyT (lawPair a b) a b d with
      | true => rfl
      | false => rw [z] at q; cases q
    have q := dep_step h u t e2
    rw [dep_sw p b a d, dep_sw p b a c] at q
    rw [q]
    by_cases z : dep p a b c % 2 = 0
    · rw [decide_eq_true z, decide_eq_false (by omega)]; rfl
    · rw [decide_eq_false z, decide_eq_true (by omega)]; rfl
theorem dep_root {p : Plan} (h : isPlanM p = true) (c : Int) : dep p 0 1 c = 0 := by
  unfold dep
  rw [List.countP_eq_zero]
  intro m hm
  obtain ⟨m0, m1, m2, m3, _⟩ := cut_facts h hm
  unfold beyT far
  by_cases e : m.1 = 0
  · rw [if_pos e, if_pos e, if_pos e, decide_eq_false (p := (1 : Int) = 0 ∨ m.2 ≤ 1) (by omega)]; simp
  · rw [if_neg e, if_neg e, if_neg e, decide_eq_false (p := m.1 ≤ 0 ∧ 0 ≤ m.2) (by omega)]; simp
theorem hnd_root {p : Plan} (h : isPlanM p = true) (c : Int) : hnd p 0 1 c = true := by unfold hnd; rw [dep_root h]; rfl
theorem tr_root {p : Plan} (h : isPlanM p = true) : ∃ c, Tr p 1 c 0 := tr_ex h (jn_10 h) (by have := (plan_facts h).1; omega)
def Top (s c e : Int) : Prop := 0 < s ∧ s < c ∧ (c < e ∨ e = 0)
/-- the part that lies ahead of a part, as seen from the side of 0 and 1 -/
theorem ahead {p : Plan} (h : isPlanM p = true) {s c e : Int} (t : Tr p s c e) (tp : Top s c e) (nr : ¬ (s = 1 ∧ e = 0)) : ∃ d, Tr p e d s ∧ dep p s e c = dep p e s d + 1 := by
  obtain ⟨a1, a2, a3, a4, a5⟩ := t.se.ne h
  obtain ⟨t1, t2, t3⟩ := tp
  obtain ⟨d, u⟩ := tr_ex h t.se.sym (by omega)
  refine ⟨d, u, ?_⟩
  rw [dep_sw p e s d]
  refine dep_step h t u ?_
  unfold beyT
  by_cases e0 : e = 0
  · subst e0
    rw [lp_sym, lp_lt t1]
    unfold far
    simp only
    rw [if_pos trivial, if_pos trivial, if_pos trivial, decide_eq_true (show s = 0 ∨ s ≤ s by omega), decide_eq_true (show c = 0 ∨ s ≤ c by omega)]; rfl
  · rw [lp_lt (show s < e by omega)]
    unfold far
    simp only
    have hs : ¬ s = 0 := by omega
    rw [if_neg hs, if_neg hs, if_neg hs, decide_eq_true (show s ≤ s ∧ s ≤ e by omega), decide_eq_true (show s ≤ e ∧ e ≤ e by omega), decide_eq_true (show s ≤ c ∧ c ≤ e by omega)]; rfl
theorem top_rot {p : Plan} (h : isPlanM p = true) {s c e : Int} (t : Tr p s c e) : Top s c e ∨ Top c e s ∨ Top e s c := by
  obtain ⟨a1, a2, a3, a4, a5⟩ := t.se.ne h
  obtain ⟨_, _, c1, c2, _⟩ := t.sv.ne h
  have x := t.cy
  unfold Cy at x
  unfold Top
  omega
/-- a set of directed lines that has the first one, and goes on round each part and over each line, has all lines at which there is a part -/
theorem all_lines {p : Plan} (h : isPlanM p = true) {S : Int → Int → Prop} (s0 : S 1 0) (s1 : ∀ {s c e}, Tr p s c e → S s e → S c s) (s2 : ∀ {s c e d}, Tr p s c e → Tr p e d s → S s e → S e s) :
    ∀ (k : Nat) {s c e : Int}, Tr p s c e → dep p s e c ≤ k → S s e := by
  intro k
  induction k with
  | zero =>
    intro s c e t hd
    have one : ∀ {s c e : Int}, Tr p s c e → dep p s e c ≤ 0 → Top s c e → S s e := fun {s c e} t hd tp => by
      by_cases r : s = 1 ∧ e = 0
      · obtain ⟨rfl, rfl⟩ := r; exact s0
      · obtain ⟨d, _, q⟩ := ahead h t tp r
        omega
    rcases top_rot h t with z | z | z
    · exact one t hd z
    · exact s1 t.rot.rot (s1 t.rot (one t.rot (by rw [dep_rot]; exact hd) z))
    · exact s1 t.rot.rot (one t.rot.rot (by rw [dep_rot, dep_rot]; exact hd) z)
  | succ k ih =>
    intro s c e t hd
    have one : ∀ {s c e : Int}, Tr p s c e → dep p s e c ≤ k + 1 → Top s c e → S s e := fun {s c e} t hd tp => by
      by_cases r : s = 1 ∧ e = 0
      · obtain ⟨rfl, rfl⟩ := r; exact s0
      · obtain ⟨d, u, q⟩ := ahead h t tp r
        exact s2 u t (ih u (by omega))
    rcases top_rot h t with z | z | z
    · exact one t hd z
    · exact s1 t.rot.rot (s1 t.rot (one t.rot (by rw [dep_rot]; exact hd) z))
    · exact s1 t.rot.rot (one t.rot.rot (by rw [dep_rot, dep_rot]; exact hd) z)
/-! the hands as the program has them -/
def rlS (b : Bool) : Str := if b = true then "r" else "l"
/-- what a dict of hands has: each directed line at which there is a part, with the part's hand -/
def IsHands (p : Plan) (D : Dct (Int × Int) Str) : Prop := ∀ s e, (∀ c, Tr p s c e → look D.l (s, e) = some (rlS (hnd p s e c))) ∧ ((∀ c, ¬ Tr p s c e) → look D.l (s, e) = none)
end Pf

namespace Pf
open PySem PySem.Spec PyProof.Rows L2
/-! ### the hands, as the program finds them -/
abbrev HL := List ((Int × Int) × Str)
theorem look_snoc {κ α : Type} [DecidableEq κ] (l : List (κ × α)) (k : κ) (x : α) (k2 : κ) : look (l ++ [(k, x)]) k2 = (look l k2).or (if k = k2 then some x else none) := by
  unfold look
  rw [List.find?_append]
  cases l.find? (fun e => decide (e.1 = k2)) with
  | some y => rfl
  | none =>
    rw [Option.none_or, List.find?_singleton]
    by_cases e : k = k2
    · rw [if_pos (decide_eq_true e), if_pos e]; rfl
    · rw [if_neg (by rw [decide_eq_false e]; decide), if_neg e]; rfl
theorem put_newK {κ α : Type} [DecidableEq κ] {l : List (κ × α)} {k : κ} {x : α} (h : look l k = none) : put l k x = l ++ [(k, x)] := by
  unfold put
  rw [if_neg]
  intro z
  obtain ⟨e, he, q⟩ := List.any_eq_true.mp z
  unfold look at h
  rw [Option.map_eq_none_iff, List.find?_eq_none] at h
  exact h e he q
theorem look_keys {κ α : Type} [DecidableEq κ] {l : List (κ × α)} {k : κ} : (look l k).isSome = true ↔ k ∈ l.map (·.1) := by
  unfold look
  rw [Option.isSome_map, List.find?_isSome, List.mem_map]
  constructor
  · rintro ⟨e, he, q⟩; exact ⟨e, he, of_decide_eq_true q⟩
  · rintro ⟨e, he, q⟩; exact ⟨e, he, decide_eq_true q⟩
theorem sub_len {α : Type} [DecidableEq α] : ∀ {l m : List α}, l.Nodup → (∀ x ∈ l, x ∈ m) → l.length ≤ m.length
  | [], _, _, _ => Nat.zero_le _
  | x :: l, m, nd, hs => by
    rw [List.nodup_cons] at nd
    have hx := hs x (List.mem_cons_self)
    have ih := sub_len (l := l) (m := m.erase x) nd.2 (fun y hy => (List.mem_erase_of_ne (fun (e : y = x) => nd.1 (by rw [← e]; exact hy))).mpr (hs y (List.mem_cons_of_mem _ hy)))
    rw [List.length_erase_of_mem hx] at ih
    have : 0 < m.length := List.length_pos_of_mem hx
    rw [List.length_cons]
    omega
/-- the thirds have this line -/
abbrev Has (p : Plan) (s e : Int) : Prop := ∃ c, Tr p s c e
def Sn (l ws : HL) (s e : Int) : Prop := (look l (s, e)).isSome = true ∨ ∃ h, ((s, e), h) ∈ ws
structure HInv (p : Plan) (l ws : HL) : Prop where
  nd : (l.map (·.1)).Nodup
  ok : ∀ s e h, look l (s, e) = some h → ∃ c, Tr p s c e ∧ h = rlS (hnd p s e c)
  wk : ∀ s e h, ((s, e), h) ∈ ws → (∃ b, h = rlS b) ∧ ∀ c, Tr p s c e → h = rlS (hnd p s e c)
  b0 : Sn l ws 1 0
  b1 : ∀ {s c e}, Tr p s c e → (look l (s, e)).isSome = true → Sn l ws c s
  b2 : ∀ {s c e d}, Tr p s c e → Tr p e d s → (look l (s, e)).isSome = true → Sn l ws e s
theorem HInv.init {p : Plan} (h : isPlanM p = true) : HInv p [] [((1, 0), "r")] where
  nd := List.nodup_nil
  ok := fun s e h z => by cases z
  wk := fun s e hd z => by
    cases (List.mem_singleton.mp z)
    exact ⟨⟨true, rfl⟩, fun c t => by rw [hnd_sw, hnd_root h]; rfl⟩
  b0 := .inr ⟨_, List.mem_singleton.mpr rfl⟩
  b1 := fun _ z => by cases z
  b2 := fun _ _ z => by cases z
theorem HInv.skip {p : Plan} (h : isPlanM p = true) {l ws : HL} {s e : Int} {hd : Str} (I : HInv p l (ws ++ [((s, e), hd)])) (z : (look l (s, e)).isSome = true ∨ ¬ Has p s e) : HInv p l ws := by
  have sn : ∀ {s2 e2}, Has p s2 e2 → Sn l (ws ++ [((s, e), hd)]) s2 e2 → Sn l ws s2 e2 := fun {s2 e2} hh q => by
    rcases q with q | ⟨h2, q⟩
    · exact .inl q
    · rcases List.mem_append.mp q with q | q
      · exact .inr ⟨h2, q⟩
      · injection (List.mem_singleton.mp q) with q1 q2
        injection q1 with q1 q3
        subst q1 q3
        rcases z with z | z
        · exact .inl z
        · exact absurd hh z
  exact ⟨I.nd, I.ok, fun s2 e2 h2 q => I.wk s2 e2 h2 (List.mem_append_left _ q), sn (tr_root h) I.b0, fun t q => sn ⟨_, t.rot⟩ (I.b1 t q), fun t u q => sn ⟨_, u⟩ (I.b2 t u q)⟩
def othH (h : Str) : Str := if h = "r" then "l" else "r"
theorem oth_rl (b : Bool) : othH (rlS b) = rlS (!b) := by cases b <;> decide +kernel
theorem HInv.add {p : Plan} (h : isPlanM p = true) {l ws : HL} {s e c : Int} {hd : Str} (I : HInv p l (ws ++ [((s, e), hd)])) (t : Tr p s c e) (z : look l (s, e) = none) : hd = rlS (hnd p s e c) ∧ HInv p (l ++ [((s, e), hd)]) (ws ++ [((c, s), hd)] ++ [((e, s), othH hd)]) := by
  have hh : hd = rlS (hnd p s e c) := (I.wk s e hd (List.mem_append_right _ (List.mem_singleton.mpr rfl))).2 c t
  refine ⟨hh, ?_⟩
  have lk : ∀ k2, look (l ++ [((s, e), hd)]) k2 = (look l k2).or (if (s, e) = k2 then some hd else none) := look_snoc l (s, e) hd
  have up : ∀ {s2 e2}, Sn l (ws ++ [((s, e), hd)]) s2 e2 → Sn (l ++ [((s, e), hd)]) (ws ++ [((c, s), hd)] ++ [((e, s), othH hd)]) s2 e2 := fun {s2 e2} q => by
    rcases q with q | ⟨h2, q⟩
    · left; rw [lk, Option.isSome_or, q]; rfl
    · rcases List.mem_append.mp q with q | q
      · exact .inr ⟨h2, List.mem_append_left _ (List.mem_append_left _ q)⟩
      · injection (List.mem_singleton.mp q) with q1 q2
        left; rw [lk, q1, if_pos rfl, Option.isSome_or]; simp
  have inv : ∀ {s2 e2}, (look (l ++ [((s, e), hd)]) (s2, e2)).isSome = true → (look l (s2, e2)).isSome = true ∨ (s2 = s ∧ e2 = e) := fun {s2 e2} q => by
    rw [lk, Option.isSome_or, Bool.or_eq_true] at q
    rcases q with q | q
    · exact .inl q
    · by_cases e2' : (s, e) = (s2, e2)
      · injection e2' with a1 a2; exact .inr ⟨a1.symm, a2.symm⟩
      · rw [if_neg e2'] at q; cases q
  refine ⟨?_, ?_, ?_, up I.b0, ?_, ?_⟩
  · rw [List.map_append, List.nodup_append]
    refine ⟨I.nd, List.pairwise_singleton _ _, fun x hx y hy q => ?_⟩
    have hy : y = (s, e) := List.mem_singleton.mp hy
    subst q hy
    have := look_keys.mpr hx
    rw [z] at this
    cases this
  · intro s2 e2 h2 q
    rw [lk] at q
    cases q2 : look l (s2, e2) with
    | some h3 =>
      rw [q2] at q
      have q : some h3 = some h2 := q
      cases q
      exact I.ok s2 e2 _ q2
    | none =>
      rw [q2] at q
      by_cases e2' : (s, e) = (s2, e2)
      · injection e2' with a1 a2
        subst a1 a2
        rw [if_pos rfl] at q
        cases q
        exact ⟨c, t, hh⟩
      · rw [if_neg e2'] at q; cases q
  · intro s2 e2 h2 q
    rcases List.mem_append.mp q with q | q
    · rcases List.mem_append.mp q with q | q
      · exact I.wk s2 e2 h2 (List.mem_append_left _ q)
      · injection (List.mem_singleton.mp q) with q1 q2
        injection q1 with q1 q3
        subst q1 q2 q3
        refine ⟨⟨_, hh⟩, fun c2 t2 => ?_⟩
        have e3 := t2.uniq h t.rot
        subst e3
        rw [hnd_rot]; exact hh
    · injection (List.mem_singleton.mp q) with q1 q2
      injection q1 with q1 q3
      subst q1 q2 q3
      refine ⟨⟨_, by rw [hh, oth_rl]⟩, fun d u => ?_⟩
      rw [hh, oth_rl, hnd_flip h t u, Bool.not_not, hnd_sw]
  · intro s2 c2 e2 t2 q
    rcases inv q with q | ⟨rfl, rfl⟩
    · exact up (I.b1 t2 q)
    · have e3 := t2.uniq h t
      subst e3
      exact .inr ⟨hd, List.mem_append_left _ (List.mem_append_right _ (List.mem_singleton.mpr rfl))⟩
  · intro s2 c2 e2 d2 t2 u2 q
    rcases inv q with q | ⟨rfl, rfl⟩
    · exact up (I.b2 t2 u2 q)
    · exact .inr ⟨othH hd, List.mem_append_right _ (List.mem_singleton.mpr rfl)⟩
theorem HInv.done {p : Plan} (h : isPlanM p = true) {l : HL} (I : HInv p l []) : IsHands p ⟨l⟩ := by
  have sn : ∀ {s e}, Sn l [] s e → (look l (s, e)).isSome = true := fun q => q.elim id (fun ⟨_, z⟩ => nomatch z)
  intro s e
  refine ⟨fun c t => ?_, fun z => ?_⟩
  · have hs : (look l (s, e)).isSome = true := all_lines h (S := fun s e => (look l (s, e)).isSome = true) (sn I.b0) (fun t q => sn (I.b1 t q)) (fun t u q => sn (I.b2 t u q)) _ t (Nat.le_refl _)
    obtain ⟨x, hx⟩ := Option.isSome_iff_exists.mp hs
    obtain ⟨c2, t2, e2⟩ := I.ok s e x hx
    have e3 := t2.uniq h t
    subst e3
    show look l (s, e) = _
    rw [hx, e2]
  · cases q : look l (s, e) with
    | none => rfl
    | some x => obtain ⟨c2, t2, _⟩ := I.ok s e x q; exact absurd t2 (z c2)
theorem HInv.len {p : Plan} (h : isPlanM p = true) {l ws : HL} (I : HInv p l ws) : l.length ≤ (thirdsM p).l.length := by
  have := sub_len (l := l.map (·.1)) (m := (thirdsM p).l.map (·.1)) I.nd (fun k hk => by
    obtain ⟨s, e⟩ := k
    obtain ⟨x, hx⟩ := Option.isSome_iff_exists.mp (look_keys.mpr hk)
    obtain ⟨c, t, _⟩ := I.ok s e x hx
    exact look_keys.mp (by rw [(look_thirds h).mpr t]; rfl))
  rw [List.length_map, List.length_map] at this
  exact this
end Pf

namespace Pf
open PySem PySem.Spec PyProof.Rows L2
section
variable {α β γ : Type} [Rep α] [Rep β] [Rep γ] {σ : L2.St} {G H : Hp} {te ta tb : TE} {tt : TT} {K : Fg} {D : Ends} {ts u : TS}
/-- while xs: .., the test by the very heap -/
theorem sq_whileR (W : Nat → L2.St → Hp → Hp → Prop) {m0 : Nat} (h0 : W m0 σ G H) (hs : Same G H)
    (turn : ∀ m σ' G' H', Same G G' → Same G' H' → W m σ' G' H' → ∃ b, (∀ Q : Bool → Hp → Prop, Q b H' → tt σ' H' Q) ∧
      (b = true → ts { D with nx := fun σ2 H2 => ∃ m' G2, m' < m ∧ Same G' G2 ∧ Same G2 H2 ∧ W m' σ2 G2 H2, ct := fun σ2 H2 => ∃ m' G2, m' < m ∧ Same G' G2 ∧ Same G2 H2 ∧ W m' σ2 G2 H2, bk := u D } σ' H') ∧
      (b = false → u D σ' H')) : tSeq (tWhile tt ts) u D σ H := by
  refine ⟨fun m σ' H' => ∃ G', Same G G' ∧ Same G' H' ∧ W m σ' G' H', ⟨m0, G, Same.refl G, hs, h0⟩, ?_⟩
  rintro m σ' H' ⟨G', s1, s2, w⟩
  obtain ⟨b, hb, k1, k2⟩ := turn m σ' G' H' s1 s2 w
  refine hb _ (ite2 (fun e => ?_) (fun e => ?_))
  · refine ⟨fun σ2 H2 => ∃ m' G2, m' < m ∧ Same G' G2 ∧ Same G2 H2 ∧ W m' σ2 G2 H2, fun σ2 H2 h => ?_, k1 e⟩
    obtain ⟨m', G2, lt, a, b, c⟩ := h
    exact ⟨m', lt, G2, s1.trans a, b, c⟩
  · exact k2 (by simpa using e)
theorem paired_snoc {α β : Type} {R : α → β → Prop} : ∀ {us : List α} {ws : List β} {x : β}, Paired R us (ws ++ [x]) → ∃ vs y, us = vs ++ [y] ∧ R y x ∧ Paired R vs ws
  | _, [], _, .cons r .nil => ⟨[], _, rfl, r, .nil⟩
  | _, _ :: ws, x, .cons r t => by
    obtain ⟨vs, y, e, r2, t2⟩ := paired_snoc (ws := ws) t
    subst e
    exact ⟨_ :: vs, y, rfl, r2, .cons r t2⟩
theorem snoc_of {α : Type} : ∀ {l : List α}, l ≠ [] → ∃ m x, l = m ++ [x]
  | [x], _ => ⟨[], x, rfl⟩
  | x :: y :: l, _ => by
    obtain ⟨m, z, e⟩ := snoc_of (l := y :: l) (by simp)
    exact ⟨x :: m, z, by rw [e]; rfl⟩
theorem ml_pop {wl : Addr} {ws : List α} {x : α} (m : Ml G H wl (ws ++ [x])) : ∃ us y, H wl = some (.lst us) ∧ us[us.length - 1]? = some y ∧ rep G y x ∧ Ml G (upd H wl (.lst us.dropLast)) wl ws := by
  obtain ⟨n, us, e, pr⟩ := m
  obtain ⟨vs, y, rfl, r, t⟩ := paired_snoc pr
  refine ⟨vs ++ [y], y, e, ?_, r, n, vs, ?_, t⟩
  · rw [List.length_append]
    show (vs ++ [y])[vs.length + 1 - 1]? = some y
    rw [Nat.add_sub_cancel, List.getElem?_append_right (Nat.le_refl _), Nat.sub_self]
    rfl
  · rw [upd_same, List.dropLast_concat]
/-- (a, b), c = .. -/
theorem gp21 {v : V} {x : (α × β) × γ} {i j k : Nat} {Q : L2.St → Hp → Prop} (r : rep G v x) (s : Same G H) (h : ∀ u w z, rep G u x.1.1 → rep G w x.1.2 → rep G z x.2 → Q (((σ.set i (some u)).set j (some w)).set k (some z)) H) :
    gTup K 2 (gCons (gTup K 2 (gCons (gName i) (gCons (gName j) gNil))) (gCons (gName k) gNil)) v σ H Q := by
  obtain ⟨a1, u, w, rfl, h2, ⟨a2, x1, x2, rfl, h5, r1, r2⟩, h4⟩ := r
  exact ⟨a1, [.ref a2, w], rfl, .inl (.inl (s _ _ h2)), rfl, .ref a2, [w], rfl, a2, [x1, x2], rfl, .inl (.inl (s _ _ h5)), rfl, x1, [x2], rfl, x2, [], rfl, rfl, w, [], rfl, rfl, h x1 x2 w r1 r2 h4⟩
end
section
variable {κ α : Type} [Rep κ] [TK κ] [DecidableEq κ] [Rep α] {G H : Hp}
theorem Mt.rep {d : Addr} {l : List (κ × α)} (m : Mt G H d l) (i : Same G H) : ∃ o, H d = some o ∧ Same G (upd G d o) ∧ Same (upd G d o) H ∧ Pf.rep (upd G d o) (.ref d) (Dct.mk l) := by
  obtain ⟨h1, kvs, h2, h4⟩ := m
  exact ⟨_, h2, same_new h1, same_still i h2, d, kvs, rfl, upd_same, enr_mono (same_new h1) h4⟩
end
/-- OTHER_HAND[hand] -/
def OthHd (w : World) (K : Fg) (mg : Str → Option Value) : Prop := ∃ a, mg "OTHER_HAND" = some (.ref a) ∧ KDct K w a "r" (.str "l") ∧ KDct K w a "l" (.str "r")
theorem ev_othH {σ : L2.St} {G : Hp} {tb : TE} {K : Fg} {w : World} {a : Addr} {b : Bool} (hb : Ev tb σ G (rlS b)) (h1 : KDct K w a "r" (.str "l")) (h2 : KDct K w a "l" (.str "r")) : Ev (tOp (rIxD K w) (tC (.ref a)) tb) σ G (othH (rlS b)) := fun H i Q q => hb H i _ fun v G1 H1 g1 k1 => by
  cases k1
  cases b with
  | true => exact ⟨a, _, _, rfl, rfl, h1, q _ G1 H1 g1 (by rw [oth_rl]; rfl)⟩
  | false => exact ⟨a, _, _, rfl, rfl, h2, q _ G1 H1 g1 (by rw [oth_rl]; rfl)⟩
def spHands : Sp := fun vs H Q _ => ∃ (v : V) (p : Plan) (G : Hp), vs = [v] ∧ Same G H ∧ rep G v (thirdsM p) ∧ isPlanM p = true ∧ ∀ (w : V) (D : Dct (Int × Int) Str) (G' H' : Hp), IsHands p D → Gr M0 G H G' H' → rep G' w D → Q w H'
theorem thirds_len {p : Plan} (h : isPlanM p = true) : (thirdsM p).l.length ≤ 114 := by
  have h1 := putAll_len (putsM p) []
  have h2 : (putsM p).length = 3 * (partsM p).length := fm_len (fun x _ => rfl)
  have h3 := parts_len h
  have h4 := (plan_facts h).2.1
  show (putAll (putsM p) []).length ≤ 114
  have : ([] : List ((Int × Int) × Int)).length = 0 := rfl
  omega
end Pf

namespace Pf
open PySem PySem.Spec PyProof.Rows L2
/-! ### upright places -/
def upM (p : Plan) (t u : Int) : Bool := match thM p u t with
  | some c => hnd p u t c
  | none => match thM p t u with
    | some c => !hnd p t u c
    | none => false
theorem up_a {p : Plan} (h : isPlanM p = true) {t u c : Int} (x : Tr p u c t) : upM p t u = hnd p u t c := by
  unfold upM
  rw [(th_iff h x.se).mpr x]
theorem up_b {p : Plan} (h : isPlanM p = true) {t u c : Int} (x : Tr p t c u) : upM p t u = !hnd p t u c := by
  unfold upM
  cases e : thM p u t with
  | some d =>
    have y := (th_iff h x.se.sym).mp e
    show hnd p u t d = _
    rw [hnd_flip h x y, Bool.not_not, hnd_sw]
  | none =>
    show (match thM p t u with | some c => !hnd p t u c | none => false) = _
    rw [(th_iff h x.se).mpr x]
theorem some_part {p : Plan} (h : isPlanM p = true) {t u : Int} (j : Jn p t u) : (∃ c, Tr p u c t) ∨ ∃ c, Tr p t c u := by
  obtain ⟨a1, a2, a3, a4, a5⟩ := j.ne h
  have h3 := (plan_facts h).1
  by_cases hs : u = t + 1 ∨ (t = p.1 - 1 ∧ u = 0)
  · exact .inl (tr_ex h j.sym (by omega))
  · exact .inr (tr_ex h j hs)
theorem up_sw {p : Plan} (h : isPlanM p = true) {t u : Int} (j : Jn p t u) : upM p u t = !upM p t u := by
  rcases some_part h j with ⟨c, x⟩ | ⟨c, x⟩
  · rw [up_a h x, up_b h x]
  · rw [up_b h x, up_a h x, Bool.not_not]
theorem up_01 {p : Plan} (h : isPlanM p = true) : upM p 0 1 = true := by
  obtain ⟨c, x⟩ := tr_root h
  rw [up_a h x, hnd_sw, hnd_root h]
/-- pinched and unpinched a paper stays upright, or not -/
theorem up_pinch {p : Plan} (h : isPlanM p = true) {t u c : Int} (way : Str) (j : Jn p t u) (e : thW p (t, u) way = some c) : upM p c t = upM p t u ∧ upM p u c = upM p t u := by
  rcases (th_some h j).mp e with ⟨_, x⟩ | ⟨_, x⟩
  · have x : Tr p t c u := x
    rw [up_b h x, up_b h x.rot, up_b h x.rot.rot, hnd_rot p c t u, hnd_rot p u c t, hnd_rot p c t u]
    exact ⟨rfl, rfl⟩
  · have x : Tr p u c t := x
    rw [up_a h x, up_a h x.rot, up_a h x.rot.rot]
    refine ⟨?_, ?_⟩
    · rw [hnd_rot p t c u, hnd_rot p c u t]
    · rw [hnd_rot p c u t]
theorem hnd_sw2 (p : Plan) (a b c : Int) : hnd p a b c = hnd p a c b := (hnd_rot p a b c).trans ((hnd_sw p b c a).trans ((hnd_rot p c b a).trans (hnd_rot p b a c)))
theorem dep_sw2 (p : Plan) (a b c : Int) : dep p a b c = dep p a c b := (dep_rot p a b c).trans ((dep_sw p b c a).trans ((dep_rot p c b a).trans (dep_rot p b a c)))
/-! ### parts as triples -/
abbrev hT (p : Plan) (t : T3) : Bool := hnd p t.a t.b t.c
abbrev dT3 (p : Plan) (t : T3) : Nat := dep p t.a t.b t.c
def el (t : T3) : List Int := [t.a, t.b, t.c]
theorem part_tr {p : Plan} (h : isPlanM p = true) {t : T3} (m : t ∈ partsM p) : t.a < t.b ∧ t.b < t.c ∧ Tr p t.a t.b t.c := by
  obtain ⟨m1, m2, m3, m4, m5⟩ := (mem_parts h).mp m
  exact ⟨m1, m2, .inl ⟨m1, m2⟩, m4, m3, m5⟩
theorem tr_part {p : Plan} (h : isPlanM p = true) {s c e : Int} (x : Tr p s c e) : ∃ t ∈ partsM p, hT p t = hnd p s e c ∧ dT3 p t = dep p s e c ∧ ∀ y, y ∈ el t ↔ y = s ∨ y = c ∨ y = e := by
  have cy := x.cy
  unfold Cy at cy
  rcases cy with cy | cy | cy
  · refine ⟨⟨s, c, e⟩, (mem_parts h).mpr ⟨cy.1, cy.2, x.sv, x.se, x.ve⟩, ?_, ?_, fun y => by simp [el]⟩
    · show hnd p s c e = hnd p s e c
      exact hnd_sw2 p s c e
    · show dep p s c e = dep p s e c
      exact dep_sw2 p s c e
  · refine ⟨⟨c, e, s⟩, (mem_parts h).mpr ⟨cy.1, cy.2, x.ve, x.sv.sym, x.se.sym⟩, ?_, ?_, fun y => by simp [el]; omega⟩
    · show hnd p c e s = hnd p s e c
      rw [hnd_sw p c e s, hnd_rot p e c s, hnd_rot p c s e]
    · show dep p c e s = dep p s e c
      rw [dep_sw p c e s, dep_rot p e c s, dep_rot p c s e]
  · refine ⟨⟨e, s, c⟩, (mem_parts h).mpr ⟨cy.1, cy.2, x.se.sym, x.ve.sym, x.sv⟩, ?_, ?_, fun y => by simp [el]; omega⟩
    · show hnd p e s c = hnd p s e c
      rw [hnd_sw]
    · show dep p e s c = dep p s e c
      rw [dep_sw]
end Pf

namespace Pf
open PySem PySem.Spec PyProof.Rows L2
section
variable {σ : L2.St} {G H : Hp} {ta tb : TE} {K : Fg}
theorem op_in_seqK {X : Cx} (h : X.K = K) : OpR X (compareOp .In) (rIn K false) := h ▸ op_in_seq
theorem op_notIn_seqK {X : Cx} (h : X.K = K) : OpR X (compareOp .NotIn) (rIn K true) := h ▸ op_notIn_seq
theorem inV_ints (x : Int) : ∀ ys : List Int, inV (.int x) (ys.map V.int) = decide (x ∈ ys)
  | [] => rfl
  | y :: ys => by
    have ih := inV_ints x ys
    unfold inV at ih ⊢
    rw [List.map_cons, List.any_cons, ih]
    show ((y == x) || decide (x ∈ ys)) = decide (x ∈ y :: ys)
    by_cases h : y = x
    · subst h
      rw [beq_self_eq_true, decide_eq_true List.mem_cons_self]; rfl
    · rw [beq_eq_false_iff_ne.mpr h, Bool.false_or]
      exact decide_eq_decide.mpr ⟨List.mem_cons_of_mem _, fun z => (List.mem_cons.mp z).resolve_left fun e => h e.symm⟩
theorem ints_flat (ys : List Int) : (ys.map V.int).all flatV = true := List.all_eq_true.mpr fun v hv => by obtain ⟨y, _, rfl⟩ := List.mem_map.mp hv; rfl
theorem ev_inLI {x : Int} {ys : List Int} (ha : Ev ta σ G x) (hb : Ev tb σ G ys) : Ev (tOp (rIn K false) ta tb) σ G (decide (x ∈ ys)) :=
  ev2 ha hb fun v u G' _ k1 k2 H i Q q => by
    cases k1
    obtain ⟨a, vs, rfl, h2, h3⟩ := k2
    rw [paired_ints h3] at h2
    exact ⟨a, _, rfl, .inl (.inl (.inl (i _ _ h2))), rfl, ints_flat _, q _ G' H (Gr.refl i) (by rw [inV_ints]; rfl)⟩
end
/-! ### the hands as the law finds them -/
structure IsHL (p : Plan) (l : List (T3 × Bool)) : Prop where
  ok : ∀ t b, look l t = some b → t ∈ partsM p ∧ b = hT p t
theorem IsHL.put {p : Plan} {l : List (T3 × Bool)} (I : IsHL p l) {t : T3} (m : t ∈ partsM p) : IsHL p (put l t (hT p t)) := ⟨fun t2 b h => by
  rw [look_put] at h
  by_cases e : t2 = t
  · subst e
    rw [if_pos rfl] at h
    cases h
    exact ⟨m, rfl⟩
  · rw [if_neg e] at h
    exact I.ok t2 b h⟩
end Pf

namespace Pf
open PySem PySem.Spec PyProof.Rows L2 LamX
/-! ### lambdas without parameters that are kept (in a list), and called by a name of the same def -/
def LamO (a : Addr) (u : Obj) : HO := .ext fun hp => hp.get? a = some u
structure LamP where
  ps : Arguments
  bd : Expr
  sc : Scope
abbrev lamObj (X : Env) (m : LamP) (lc : Addr) (y1 y2 : Value) : Obj := PySem.W.kla_obj "<lambda>" (X.qual ++ "<lambda>") m.ps m.bd m.sc (cloFrom X.cells m.sc.names []) y1 lc y2
def IsLam (X : Env) (m : LamP) (lf : Addr) (H : Hp) : Prop := ∃ (lc : Addr) (y1 y2 : Value), H lc = some (CodeO lc (X.qual ++ "<lambda>")) ∧ H lf = some (LamO lf (lamObj X m lc y1 y2))
/-- all but the table stays -/
def StP (PT : Addr) (H H' : Hp) : Prop := ∀ b o, b ≠ PT → H b = some o → H' b = some o
theorem StP.refl {PT : Addr} {H : Hp} : StP PT H H := fun _ _ _ h => h
theorem StP.trans {PT : Addr} {H H1 H2 : Hp} (a : StP PT H H1) (b : StP PT H1 H2) : StP PT H H2 := fun c o n h => b c o n (a c o n h)
section
variable {X : Cx}
theorem lamO_tbl {a : Addr} {u : Obj} (ps : Array Value) : LamO a u ≠ .tbl ps := fun z => by unfold LamO at z; cases z
end
/-! lists of lambdas -/
section
variable {X : Cx}
theorem IsLam.st {X : Env} {m : LamP} {lf PT : Addr} {q : Str} {H H' : Hp} (h : IsLam X m lf H) (t : TabS H PT q) (x : StP PT H H') : IsLam X m lf H' := by
  obtain ⟨lc, y1, y2, h1, h2⟩ := h
  obtain ⟨ps, e, _⟩ := t
  exact ⟨lc, y1, y2, x _ _ (fun z => by rw [z, e] at h1; exact codeO_ne ps (Option.some.inj h1).symm) h1, x _ _ (fun z => by rw [z, e] at h2; exact lamO_tbl ps (Option.some.inj h2).symm) h2⟩
theorem IsLam.same {X : Env} {m : LamP} {lf : Addr} {H H' : Hp} (h : IsLam X m lf H) (x : Same H H') : IsLam X m lf H' := by
  obtain ⟨lc, y1, y2, h1, h2⟩ := h
  exact ⟨lc, y1, y2, x _ _ h1, x _ _ h2⟩
end
/-! ### the table kept along, by its own address -/
abbrev Mp (PT : Addr) : Addr → Prop := fun a => a = PT
theorem StP.gr {PT : Addr} {q : Str} {G H H1 : Hp} (x : StP PT H H1) (t : TbAt G H PT q) (s : Same G H) : Gr (Mp PT) G H G H1 :=
  ⟨Same.refl G, fun a o e => x a o (fun z => by rw [z, t.out] at e; cases e) (s a o e), fun a o m e => x a o m e, fun a o e => .inl e⟩
section
variable {α β : Type} [Rep α] [Rep β] {σ : L2.St} {G H : Hp} {te : TE} {g : TG}
end
end Pf

namespace Pf
open PySem PySem.Spec PyProof.Rows L2
/-! ### texts -/
/-- a text of these signs -/
abbrev tx (l : List Nat) : Str := ⟨l.toArray⟩
theorem tx_len (l : List Nat) : (tx l).length = l.length := List.size_toArray
theorem tx_add (a b : List Nat) : (tx a ++ tx b : Str) = tx (a ++ b) := by
  show (⟨a.toArray ++ b.toArray⟩ : Str) = ⟨(a ++ b).toArray⟩
  rw [List.append_toArray]
section
variable {σ : L2.St} {G : Hp} {ta tb te : TE} {K : Fg}
abbrev rCatS : R2 := fun x y H Q => ∃ i j, x = .str i ∧ y = .str j ∧ i.length + j.length ≤ sizeLine ∧ Q (.str (i ++ j)) H
theorem ev_addS {x y : Str} (ha : Ev ta σ G x) (hb : Ev tb σ G y) (h : x.length + y.length ≤ 100000) : Ev (tOp rCatS ta tb) σ G (x ++ y) :=
  ev2 ha hb fun v u G' _ k1 k2 H i Q q => ⟨x, y, k1, k2, sl_small h, q _ G' H (Gr.refl i) rfl⟩
abbrev rLenS : List V → Hp → VK → Prop := fun xs H Q => ∃ z, xs = [.str z] ∧ z.length ≤ sizeLine ∧ Q (.int z.length) H
theorem ev_lenS {z : Str} (ha : Ev ta σ G z) (h : z.length ≤ 100000) : Ev (tCB rLenS (tCons ta tNil)) σ G (z.length : Int) := ev_B1 ha fun v G' H _ i k Q q => ⟨z, by rw [rep_str k], sl_small h, q _ G' H (Gr.refl i) rfl⟩
theorem ev_ixS {z : Str} {n : Int} {c : Nat} (ha : Ev ta σ G z) (hb : Ev tb σ G n) (hz : z.length ≤ 100000) (h : atI z.cps.toList n = some c) : Ev (tOp rIxS ta tb) σ G (⟨#[c]⟩ : Str) :=
  ev2 ha hb fun v u G' _ k1 k2 H i Q q => ⟨z, n, c, k1, k2, sl_small hz, h, q _ G' H (Gr.refl i) rfl⟩
theorem ev_slS {z : Str} {tl th : TO} {lo hi : Option Int} (ha : Ev ta σ G z) (hl : EvO tl σ G lo) (hh : EvO th σ G hi) (hz : z.length ≤ 100000) : Ev (tSl rSlS ta tl th) σ G (cutS z lo hi) := fun H i Q q =>
  ha H i _ fun v G1 H1 g1 k1 => (hl.mono g1.g) H1 g1.i _ fun G2 H2 g2 => (hh.mono (g1.g.trans g2.g)) H2 g2.i _ fun G3 H3 g3 =>
    ⟨z, rep_str k1, sl_small hz, q _ G3 H3 ((g1.trans g2).trans g3) rfl⟩
end
/-! ### rows -/
/-! ### a def whose code object is known, and what is bound -/
structure TxC (K : Fg) (mg : Str → Option Value) (x : Str) (ps : List Str) (st : Stmt) (c : Addr) : Prop where
  ex : ∃ f fd, FunC K x st f fd c ∧ Binds K fd ps [] ∧ PySem.W.keepIn K (.ref f) = true ∧ mg x = some (.ref f)
theorem TxC.ok {P : Program} {w : World} {K : Fg} {mg : Str → Option Value} {base : Heap} {x : Str} {st : Stmt} {c : Addr} {N ps : List Str} {k : Nat} {sp : Sp} (T : TxC K mg x ps st c) (S : FnScope N ps (defScope st)) (len : ∀ vs H Q E, sp vs H Q E → vs.length = ps.length)
    (hbody : ∀ (f : Addr) (A : Around) (outer : List Env) (s : Shared) (H : Hp) (vs : List V) (Q : VK) (E : XK), Room k (A.deeper (envOfC x (defScope st) s.heap.objs.size f (.ref c))) → sp vs H Q E →
      ∃ t, PSs (cxOf CX0 P w K mg base N x (defScope st) f (.ref c) A outer s H E).nox (defBody st) t ∧ t { nx := fun _ H' => Q .non H', rt := Q } (start N vs) H) : Df P w K mg base (k + 1) x ps sp := by
  obtain ⟨f, fd, F, b, kp, m⟩ := T.ex
  exact ⟨f, fd, F.ok S len fun A outer s H vs Q E hr h => hbody f A outer s H vs Q E hr h, b, kp, m⟩
end Pf

namespace Pf
open PySem PySem.Spec PyProof.Rows L2
/-! ### rows of plans -/
/-- the hand of a leaf: that of the part at its side -/
def leafH (p : Plan) (k : Int) : Bool := match thM p ((k + 1) % p.1) k with
  | some c => hnd p ((k + 1) % p.1) k c
  | none => true
theorem leaf_part {p : Plan} (h : isPlanM p = true) {k : Int} (hk : 0 ≤ k ∧ k < p.1) : ∃ c, Tr p ((k + 1) % p.1) c k ∧ leafH p k = hnd p ((k + 1) % p.1) k c := by
  have h3 := (plan_facts h).1
  have j := jn_next h hk
  have hm : (k + 1) % p.1 = if k + 1 < p.1 then k + 1 else k + 1 - p.1 := wrap (by omega) (by omega)
  obtain ⟨c, x⟩ := tr_ex h j.sym (by rw [hm]; split <;> omega)
  refine ⟨c, x, ?_⟩
  unfold leafH
  rw [(th_iff h x.se).mpr x]
def sg (b : Bool) : Int := if b = true then 1 else -1
def rl (b : Bool) : Nat := if b = true then 114 else 108
theorem rlS_tx (b : Bool) : rlS b = tx [rl b] := by cases b <;> decide +kernel
def rowL (p : Plan) : List Nat := (ordM p).map fun k => rl (leafH p k)
def rowM (p : Plan) : Str := tx (rowL p)
theorem row_len {p : Plan} (h : isPlanM p = true) : (rowL p).length = p.1.toNat := by
  unfold rowL
  rw [List.length_map, (ordM_perm h).length_eq, rng_len, Int.sub_zero]
theorem fold_tx : ∀ (l : List Nat) (acc : List Nat), (l.map fun n => tx [n]).foldl (fun (a : Array Nat) (p : Str) => a ++ (("" : Str)).cps ++ p.cps) acc.toArray = (acc ++ l).toArray
  | [], acc => by rw [List.map_nil, List.foldl_nil, List.append_nil]
  | x :: l, acc => by
    rw [List.map_cons, List.foldl_cons]
    have e0 : (("" : Str)).cps = #[] := by decide +kernel
    have e : acc.toArray ++ (("" : Str)).cps ++ (tx [x]).cps = (acc ++ [x]).toArray := by
      rw [e0, Array.append_empty]
      show acc.toArray ++ [x].toArray = _
      rw [List.append_toArray]
    rw [e, fold_tx l (acc ++ [x]), List.append_assoc]
    rfl
theorem join_tx (l : List Nat) : Txt.join "" (l.map fun n => tx [n]) = tx l := by
  cases l with
  | nil => decide +kernel
  | cons x l =>
    show (⟨((((x :: l).map fun n => tx [n])).drop 1).foldl _ ((((x :: l).map fun n => tx [n])).headD Str.empty).cps⟩ : Str) = _
    rw [List.map_cons, List.drop_one, List.tail_cons, List.headD_cons]
    have := fold_tx l [x]
    show (⟨List.foldl _ (#[x] : Array Nat) _⟩ : Str) = _
    rw [show (#[x] : Array Nat) = [x].toArray from rfl, this]
    rfl
section
variable {σ : L2.St} {G H : Hp} {ta tb : TE} {K : Fg}
abbrev rJoin (K : Fg) : V → List V → Hp → VK → Prop := fun x xs H Q => ∃ a p, ∃ ys : List Str, x = .str a ∧ xs = [.ref p] ∧ (SqL K H p (ys.map V.str) ∨ SqT K H p (ys.map V.str)) ∧ (ys.map (·.length)).sum + ys.length * a.length ≤ 16777216 ∧ Q (.str (Txt.join a ys)) H
theorem mt_joinK {X : Cx} (h : X.K = K) : MtR X "str.join" (rJoin K) := h ▸ mt_join
theorem sum_ones : ∀ l : List Nat, ((l.map fun n => tx [n]).map (·.length)).sum = l.length
  | [] => rfl
  | x :: l => by rw [List.map_cons, List.map_cons, List.sum_cons, sum_ones l, List.length_cons, tx_len]; show 1 + l.length = l.length + 1; omega
theorem ev_joinT {l : List Nat} (hl : l.length ≤ 1000) (hb : Ev tb σ G (l.map fun n => tx [n])) : Ev (tBM K "str" (rJoin K) (tC (.str "")) (tCons tb tNil)) σ G (tx l) := fun H i Q q =>
  ⟨rfl, hb H i _ fun u G2 H2 g2 k2 => by
    obtain ⟨a, vs, rfl, h2, h3⟩ := k2
    have e := paired_strs h3
    rw [e] at h2
    have e0 : (("" : Str)).length = 0 := by decide +kernel
    refine ⟨"", a, l.map fun n => tx [n], rfl, rfl, .inl (.inl (.inl (g2.i _ _ h2))), by rw [sum_ones, List.length_map, e0]; omega, q _ G2 H2 g2 ?_⟩
    rw [join_tx]
    rfl⟩
end
end Pf

namespace Pf
open PySem PySem.Spec PyProof.Rows L2
/-! ### the strip's order as a ring -/
theorem ord_fuel {p : Plan} (h : isPlanM p = true) : ∀ (k m : Nat) {s e : Int} (b : Bool), Jn p s e → (e - s) % p.1 ≤ k → (e - s) % p.1 ≤ m → ordN p k s e b = ordN p m s e b
  | 0, _, s, e, b, j, hk, _ => by
    exfalso
    obtain ⟨a1, a2, a3, a4, a5⟩ := j.ne h
    rw [arc_w (by omega) (by omega)] at hk
    split at hk <;> omega
  | _ + 1, 0, s, e, b, j, _, hm => by
    exfalso
    obtain ⟨a1, a2, a3, a4, a5⟩ := j.ne h
    rw [arc_w (by omega) (by omega)] at hm
    split at hm <;> omega
  | k + 1, m + 1, s, e, b, j, hk, hm => by
    unfold ordN
    cases z : look (thirdsM p).l (s, e) with
    | none => rfl
    | some c =>
      have t := (look_thirds h).mp z
      obtain ⟨a1, a2, a3, a4, a5⟩ := j.ne h
      have w := cy_w (n := p.1) (s := s) (c := c) (e := e) (by omega) (by have := t.sv.ne h; omega) (by omega) t.cy
      show (if b = true then _ else _) = (if b = true then _ else _)
      rw [ord_fuel h k m (!b) t.sv (by omega) (by omega), ord_fuel h k m (!b) t.ve (by omega) (by omega)]
def ordF (p : Plan) (s e : Int) (b : Bool) : List Int := ordN p 40 s e b
theorem w40 {p : Plan} (h : isPlanM p = true) {s e : Int} (j : Jn p s e) : (e - s) % p.1 ≤ 40 := by
  obtain ⟨a1, a2, a3, a4, a5⟩ := j.ne h
  have h40 := (plan_facts h).2.1
  rw [arc_w (by omega) (by omega)]
  split <;> omega
theorem ordF_step {p : Plan} (h : isPlanM p = true) {s c e : Int} (t : Tr p s c e) (b : Bool) : ordF p s e b = if b = true then ordF p s c (!b) ++ ordF p c e (!b) else ordF p c e (!b) ++ ordF p s c (!b) := by
  have z : look (thirdsM p).l (s, e) = some c := (look_thirds h).mpr t
  obtain ⟨a1, a2, a3, a4, a5⟩ := t.se.ne h
  have w := cy_w (n := p.1) (s := s) (c := c) (e := e) (by omega) (by have := t.sv.ne h; omega) (by omega) t.cy
  have w40 := w40 h t.se
  have e1 : ordN p 40 s e b = (if b = true then ordN p 39 s c (!b) ++ ordN p 39 c e (!b) else ordN p 39 c e (!b) ++ ordN p 39 s c (!b)) := by
    show (match look (thirdsM p).l (s, e) with | none => [s] | some c => if b = true then ordN p 39 s c (!b) ++ ordN p 39 c e (!b) else ordN p 39 c e (!b) ++ ordN p 39 s c (!b)) = _
    rw [z]
  unfold ordF
  rw [e1, ord_fuel h 39 40 (!b) t.sv (by omega) (by omega), ord_fuel h 39 40 (!b) t.ve (by omega) (by omega)]
/-- one list turned -/
def Rot (a b : List Int) : Prop := ∃ x y, a = x ++ y ∧ b = y ++ x
theorem Rot.refl (a : List Int) : Rot a a := ⟨[], a, rfl, by simp⟩
theorem Rot.symm {a b : List Int} (h : Rot a b) : Rot b a := by obtain ⟨x, y, rfl, rfl⟩ := h; exact ⟨y, x, rfl, rfl⟩
theorem Rot.step {a x y : List Int} (h : Rot a (x ++ y)) : Rot a (y ++ x) := by
  obtain ⟨u, v, rfl, e⟩ := h
  rcases List.append_eq_append_iff.mp e with ⟨z, rfl, rfl⟩ | ⟨z, rfl, rfl⟩
  · exact ⟨u ++ x, z, by simp, by simp⟩
  · exact ⟨z, y ++ v, by simp, by simp⟩
def putM (p : Plan) (t u : Int) : List Int := ordF p t u false ++ ordF p u t true
theorem put01 {p : Plan} (h : isPlanM p = true) : putM p 0 1 = ordM p := by
  have h3 := (plan_facts h).1
  have z : look (thirdsM p).l (0, 1) = none := (look_none h (jn_10 h).sym).mpr (by rw [wrap (by omega) (by omega)]; split <;> omega)
  have e : ordF p 0 1 false = [0] := by
    show (match look (thirdsM p).l (0, 1) with | none => [0] | some c => if false = true then ordN p 39 0 c (!false) ++ ordN p 39 c 1 (!false) else ordN p 39 c 1 (!false) ++ ordN p 39 0 c (!false)) = _
    rw [z]
  unfold putM ordM
  rw [e]
  rfl
/-- at upright places the even stack is put down crossed, and then the odd one straight -/
theorem up_rot {p : Plan} (h : isPlanM p = true) {t u : Int} (j : Jn p t u) (hu : upM p t u = true) : Rot (ordM p) (putM p t u) := by
  have key : ∀ (k : Nat) {s c e : Int}, Tr p s c e → dep p s e c ≤ k → (upM p s e = true → Rot (ordM p) (putM p s e)) ∧ (upM p e s = true → Rot (ordM p) (putM p e s)) := by
    refine all_lines h (S := fun s e => (upM p s e = true → Rot (ordM p) (putM p s e)) ∧ (upM p e s = true → Rot (ordM p) (putM p e s))) ?_ ?_ ?_
    · refine ⟨fun z => ?_, fun _ => by rw [put01 h]; exact Rot.refl _⟩
      rw [up_sw h (jn_10 h).sym, up_01 h] at z
      cases z
    · intro s c e x S
      have xr := x.rot
      have e1 : upM p s e = !hnd p s e c := up_b h x
      have e2 : upM p e s = hnd p s e c := up_a h x
      have e3 : upM p c s = !hnd p s e c := by rw [up_b h xr, hnd_rot]
      have e4 : upM p s c = hnd p s e c := by rw [up_a h xr, hnd_rot]
      cases hh : hnd p s e c with
      | true =>
        rw [hh] at e2 e3
        refine ⟨(fun z => by rw [e3] at z; cases z), fun _ => ?_⟩
        have r := S.2 e2
        unfold putM at r ⊢
        rw [ordF_step h x, if_pos rfl] at r
        rw [ordF_step h xr, if_pos rfl]
        have r2 := r.step
        rw [List.append_assoc] at r2
        exact r2
      | false =>
        rw [hh] at e1 e4
        refine ⟨fun _ => ?_, (fun z => by rw [e4] at z; cases z)⟩
        have r := S.1 e1
        unfold putM at r ⊢
        rw [ordF_step h x, if_neg (by decide)] at r
        rw [ordF_step h xr, if_neg (by decide)]
        have r2 := r.step
        rw [← List.append_assoc] at r2
        exact r2
    · intro s c e d x y S
      exact ⟨S.2, S.1⟩
  rcases some_part h j with ⟨c, x⟩ | ⟨c, x⟩
  · exact (key _ x (Nat.le_refl _)).2 hu
  · exact (key _ x (Nat.le_refl _)).1 hu
theorem ordF_mem {p : Plan} (h : isPlanM p = true) {s e : Int} (j : Jn p s e) (b : Bool) : (ordF p s e b).Perm (arc p.1 s e) := ord_perm h 40 s e b j (w40 h j)
/-- the stacks of a place are two stretches of the order, as a ring -/
theorem stretch {p : Plan} (h : isPlanM p = true) {t u : Int} (j : Jn p t u) : ∃ A B : List Int, A.Perm (arc p.1 t u) ∧ B.Perm (arc p.1 u t) ∧ Rot (ordM p) (A ++ B) := by
  cases hu : upM p t u with
  | true => exact ⟨_, _, ordF_mem h j false, ordF_mem h j.sym true, up_rot h j hu⟩
  | false =>
    have hu2 : upM p u t = true := by rw [up_sw h j, hu]; rfl
    exact ⟨_, _, ordF_mem h j true, ordF_mem h j.sym false, (up_rot h j.sym hu2).step⟩
end Pf

namespace Pf
open PySem PySem.Spec PyProof.Rows L2
section
variable {α β γ δ : Type} [Rep α] [Rep β] [Rep γ] [Rep δ] {σ : L2.St} {G H : Hp} {ta tb : TE} {K : Fg}
theorem spPL2_sp2 {pre : α → β → Prop} {f : α → β → List γ} {h : α → β → List δ} : ∀ vs H Q E, sp2 pre (fun x y => (f x y, h x y)) vs H Q E → spPL2 pre f h vs H Q E := fun vs H Q E ⟨v, x, v2, x2, G, e, i, r, r2, hp, k⟩ => ⟨v, x, v2, x2, G, e, i, r, r2, hp, fun t p1 p2 G' H' g ne m1 m2 nt ntH et n1 n2 => by
  obtain ⟨g1, vs1, e1, pr1⟩ := m1
  obtain ⟨g2, vs2, e2, pr2⟩ := m2
  have ga := g.still n1 g1 e1
  have g2' : upd G' p1 (.lst vs1) p2 = none := by rw [upd_ne (fun z => ne z.symm)]; exact g2
  have gb := ga.still n2 g2' e2
  have t1 : t ≠ p1 := fun z => by rw [z, e1] at et; cases et
  have t2 : t ≠ p2 := fun z => by rw [z, e2] at et; cases et
  have g3' : upd (upd G' p1 (.lst vs1)) p2 (.lst vs2) t = none := by rw [upd_ne t2, upd_ne t1]; exact nt
  have gc := gb.still ntH g3' et
  have s1 : Same G' (upd (upd (upd G' p1 (.lst vs1)) p2 (.lst vs2)) t (.tup [.ref p1, .ref p2])) := ((same_new g1).trans (same_new g2')).trans (same_new g3')
  refine k (.ref t) _ H' gc ⟨t, .ref p1, .ref p2, rfl, upd_same, ⟨p1, vs1, rfl, ?_, paired_mono s1 pr1⟩, ⟨p2, vs2, rfl, ?_, paired_mono s1 pr2⟩⟩
  · rw [upd_ne (fun z => t1 z.symm), upd_ne ne, upd_same]
  · rw [upd_ne (fun z => t2 z.symm), upd_same]⟩
/-- xs[k - 1], as a ring -/
theorem ev_ixP [Inhabited α] {xs : List α} {k : Int} (ha : Ev ta σ G xs) (hb : Ev tb σ G (k - 1)) (h0 : 0 ≤ k) (h1 : k < xs.length) : Ev (tOp (rIxL K) ta tb) σ G (ix xs ((k - 1) % xs.length)) := by
  by_cases hk : k = 0
  · subst hk
    have hx : xs ≠ [] := fun z => by rw [z] at h1; exact absurd h1 (Int.lt_irrefl 0)
    refine Ev.cast (ev_ixLast ha hb hx) ?_
    have hl : 0 < xs.length := by omega
    have e : ((0 : Int) - 1) % xs.length = ((xs.length - 1 : Nat) : Int) := by rw [wrapN (by omega) (by omega)]; split <;> omega
    rw [e, ix_nat (List.getElem?_eq_getElem (show xs.length - 1 < xs.length by omega)), List.getLastD_eq_getLast?, List.getLast?_eq_getElem?, List.getElem?_eq_getElem (by omega)]
    rfl
  · have e : (k - 1) % xs.length = k - 1 := by rw [wrapN (by omega) (by omega)]; split <;> omega
    rw [e]
    exact ev_ixL ha hb ⟨by omega, by omega⟩
end
end Pf

namespace Pf
open PySem PySem.Spec PyProof.Rows L2
/-! ### dicts of whole numbers by whole numbers -/
structure DI where
  l : List (Int × Int)
abbrev kvI (l : List (Int × Int)) : List (Key × V) := l.map fun e => (Sum.inl e.1, V.int e.2)
instance : Rep DI := ⟨fun G v d => ∃ a, v = .ref a ∧ G a = some (.dK (kvI d.l)), fun e ⟨a, h1, h2⟩ => ⟨a, h1, e _ _ h2⟩⟩
theorem val_I (k : Int) : ∀ l : List (Int × Int), valV (kvI l) (Sum.inl k) = (look l k).map V.int
  | [] => rfl
  | (x, y) :: l => by
    have ih := val_I k l
    unfold valV look kvI at ih ⊢
    rw [List.map_cons, List.find?_cons, List.find?_cons]
    by_cases e : x = k
    · subst e
      rw [decide_eq_true rfl, decide_eq_true rfl]; rfl
    · rw [decide_eq_false (fun z => e (Sum.inl.inj z)), decide_eq_false e]
      exact ih
section
variable {α : Type} [Rep α] {σ : L2.St} {G H : Hp} {ta tb tk tv : TE} {g : TG} {K : Fg}
theorem ev_iget {d : DI} {k x : Int} (ha : Ev ta σ G d) (hb : Ev tb σ G k) (hm : look d.l k = some x) : Ev (tDGet ta tb) σ G x := fun H i Q q =>
  ha H i _ fun v G1 H1 g1 k1 => (hb.mono g1.g) H1 g1.i _ fun u G2 H2 g2 k2 => by
    obtain ⟨a, rfl, e⟩ := k1
    cases k2
    refine ⟨a, .int x, rfl, ?_, q _ G2 H2 (g1.trans g2) rfl⟩
    have z := DGet.k (H := H2) (a := a) (kvs := kvI d.l) (k := Sum.inl k) (g2.i _ _ (g2.g _ _ e))
    rw [val_I, hm] at z
    exact z
theorem putI_new {l : List (Int × Int)} {k x : Int} (h : k ∉ l.map (·.1)) : putK (kvI l) (Sum.inl k) (V.int x) = kvI (l ++ [(k, x)]) := by
  unfold putK
  rw [if_neg]
  · unfold kvI; rw [List.map_append]; rfl
  · intro z
    obtain ⟨e, he, q⟩ := List.any_eq_true.mp z
    obtain ⟨y, hy, rfl⟩ := List.mem_map.mp he
    have q : Sum.inl y.1 = (Sum.inl k : Key) := of_decide_eq_true q
    exact h (List.mem_map.mpr ⟨y, hy, Sum.inl.inj q⟩)
/-- {f x: h x for x in xs}, unlike keys -/
theorem ev_dcI {wi : TI} {vs : List Nat} {xs : List α} {f h : α → Int} (hx : EvI wi σ G xs) (hl : xs.length ≤ 100000) (nd : (xs.map f).Nodup)
    (hb : ∀ x ∈ xs, ∀ v G1, Same G G1 → rep G1 v x → GB g v (wipe σ vs) G1 fun σ2 => wipe σ2 vs = wipe σ vs ∧ Ev tk σ2 G1 (f x) ∧ Ev tv σ2 G1 (h x)) : Ev (tDc wi g tYes tk tv vs) σ G (DI.mk (xs.map fun x => (f x, h x))) := fun H i Q q => by
  refine hx H i _ fun J G1 H1 g1 ok D nD => ?_
  have nG : G1 D = none := up_none g1.i nD
  refine ⟨fun k m H => m = xs.length - k ∧ k ≤ xs.length ∧ ∃ Gk, Gr M0 G1 H1 Gk H ∧ Gk D = none ∧ H D = some (.dK (kvI ((xs.take k).map fun x => (f x, h x)))), ⟨_, rfl, Nat.zero_le _, G1, (Gr.refl g1.i).mut (.inl nD) nG, nG, upd_same⟩, ?_⟩
  rintro k m H2 ⟨rfl, hk, Gk, gk, nk, ek⟩
  by_cases hlt : k < xs.length
  · refine .inr ⟨ok.go k H2 (gk.g.trans gk.i) hlt, fun H' => ∃ Gk, Gr M0 G1 H1 Gk H' ∧ Gk D = none ∧ H' D = some (.dK (kvI ((xs.take (k + 1)).map fun x => (f x, h x)))), fun H' h' => ⟨xs.length - (k + 1), by omega, rfl, hlt, h'⟩, fun v H3 yl => ?_⟩
    have hxk : xs[k]? = some xs[k] := List.getElem?_eq_getElem hlt
    obtain ⟨G3, g3, r3⟩ := ok.yld k H2 v H3 Gk xs[k] gk.g gk.i yl hxk
    have g13 := gk.trans g3
    have n3 := g3.out nk ek
    have e3 := g3.same _ _ ek
    refine hb xs[k] (List.getElem_mem hlt) v G3 (g1.g.trans g13.g) r3 H3 g3.i _ fun σ2 ⟨hw, hk2, hv2⟩ => ⟨hw, ?_⟩
    show tk σ2 H3 _
    refine hk2 H3 g3.i _ fun y G4 H4 g4 r4 => (hv2.mono g4.g) H4 g4.i _ fun z G5 H5 g5 r5 => ?_
    cases r4; cases r5
    have g45 := g4.trans g5
    have n5 := g45.out n3 e3
    have e5 := g45.same _ _ e3
    have hnew : f xs[k] ∉ ((xs.take k).map fun x => (f x, h x)).map (·.1) := fun hm => by
      rw [List.map_map] at hm
      obtain ⟨y, hy, e⟩ := List.mem_map.mp hm
      obtain ⟨j, hj, e2⟩ := List.mem_iff_getElem.mp hy
      rw [List.getElem_take] at e2
      rw [List.length_take] at hj
      have hjk : j < k := by omega
      have := (List.pairwise_iff_getElem.mp nd) j k (by rw [List.length_map]; omega) (by rw [List.length_map]; exact hlt) hjk
      apply this
      rw [List.getElem_map, List.getElem_map, e2]
      exact e
    refine ⟨_, Sum.inl (f xs[k]), rfl, e5, sl_lt (by rw [List.length_map, List.length_map, List.length_take]; omega), G5, (g13.trans g45).mut (.inl nD) n5, n5, ?_⟩
    rw [upd_same, putI_new hnew, List.take_add_one, hxk, List.map_append]
    rfl
  · have e : xs.take k = xs := List.take_of_length_le (by omega)
    rw [e] at ek
    exact .inl ⟨ok.stop k H2 (gk.g.trans gk.i) (by omega), q _ (upd Gk D (.dK _)) H2 (g1.trans (gk.still nD nk ek)) ⟨D, rfl, upd_same⟩⟩
theorem ev_notInLI {x : Int} {ys : List Int} (ha : Ev ta σ G x) (hb : Ev tb σ G ys) : Ev (tOp (rIn K true) ta tb) σ G (!decide (x ∈ ys)) :=
  ev2 ha hb fun v u G' _ k1 k2 H i Q q => by
    cases k1
    obtain ⟨a, vs, rfl, h2, h3⟩ := k2
    rw [paired_ints h3] at h2
    exact ⟨a, _, rfl, .inl (.inl (.inl (i _ _ h2))), rfl, ints_flat _, q _ G' H (Gr.refl i) (by rw [inV_ints]; rfl)⟩
/-- the length of such a dict -/
def rLenK : List V → Hp → VK → Prop := fun xs H Q => ∃ (p : Addr) (kvs : List (Key × V)), xs = [.ref p] ∧ H p = some (.dK kvs) ∧ Q (.int ((kvs.length : Nat) : Int)) H
theorem call_len_dK {X : Cx} : CallR X (.builtin "len") rLenK := by
  intro pins s σ H xs us Q I r h
  obtain ⟨p, kvs, rfl, hp, q⟩ := h
  obtain ⟨u, rfl, rx⟩ := vals1 r
  obtain rfl : u = .ref p := rx
  exact d_len I (.inl hp) fun t s' I' => ⟨.int ((kvs.length : Nat) : Int), H, I', ⟨_, rfl⟩, q⟩
theorem ev_lenI {d : DI} (ha : Ev ta σ G d) : Ev (tCB rLenK (tCons ta tNil)) σ G (d.l.length : Int) := ev_B1 ha fun v G' H _ i k Q q => by
  obtain ⟨a, rfl, e⟩ := k
  refine ⟨a, _, rfl, i _ _ e, ?_⟩
  rw [List.length_map]
  exact q _ G' H (Gr.refl i) rfl
end
/-! ### how far behind the first of a stack -/
def firstsM (o e : List Int) : List Int := (rng 0 (o.length : Int)).filter fun k => decide (ix o k ∈ e) && !decide (ix o ((k - 1) % o.length) ∈ e)
def frM (o e : List Int) : Int := ix (firstsM o e) 0
def behM (o e : List Int) : DI := ⟨(rng 0 (o.length : Int)).map fun s => (ix o ((frM o e + s) % o.length), s)⟩
def copM (l : List Int) (d : DI) (b : Int) : List Int := l.map fun x => (b + (look d.l x).getD 0) % (3 * d.l.length)
theorem beh_len (o e : List Int) : (behM o e).l.length = o.length := by unfold behM; rw [List.length_map, rng_len]; omega
theorem fr_lt {o e : List Int} (h : firstsM o e ≠ []) : 0 ≤ frM o e ∧ frM o e < o.length := by
  unfold frM
  cases z : firstsM o e with
  | nil => exact absurd z h
  | cons x r =>
    have hx : x ∈ firstsM o e := by rw [z]; exact List.mem_cons_self
    exact rng_mem.mp (List.mem_filter.mp hx).1
theorem ix_inj {o : List Int} (nd : o.Nodup) {i j : Int} (hi : 0 ≤ i ∧ i < o.length) (hj : 0 ≤ j ∧ j < o.length) (h : ix o i = ix o j) : i = j := by
  have e1 : ix o i = o[i.toNat]'(by omega) := by have z := ix_nat (List.getElem?_eq_getElem (show i.toNat < o.length by omega)); rw [Int.toNat_of_nonneg hi.1] at z; exact z
  have e2 : ix o j = o[j.toNat]'(by omega) := by have z := ix_nat (List.getElem?_eq_getElem (show j.toNat < o.length by omega)); rw [Int.toNat_of_nonneg hj.1] at z; exact z
  rw [e1, e2] at h
  have pw := List.pairwise_iff_getElem.mp nd
  rcases Int.lt_trichotomy i j with z | z | z
  · exact absurd h (pw i.toNat j.toNat (by omega) (by omega) (by omega))
  · exact z
  · exact absurd h.symm (pw j.toNat i.toNat (by omega) (by omega) (by omega))
theorem wrapP {n x : Int} (h0 : 0 ≤ x) (h2 : x < 2 * n) : x % n = if x < n then x else x - n := by
  by_cases h : x < n
  · rw [if_pos h, Int.emod_eq_of_lt (by omega) (by omega)]
  · rw [if_neg h, ← Int.sub_emod_right, Int.emod_eq_of_lt (by omega) (by omega)]
theorem beh_nodup {o e : List Int} (nd : o.Nodup) (h : firstsM o e ≠ []) : ((rng 0 (o.length : Int)).map fun s => ix o ((frM o e + s) % o.length)).Nodup := by
  have hf := fr_lt h
  refine List.pairwise_map.mpr (List.Pairwise.imp_of_mem ?_ (rng_nodup 0 o.length))
  intro a b ha hb hne he
  have ha := rng_mem.mp ha
  have hb := rng_mem.mp hb
  have h1 := Int.emod_nonneg (frM o e + a) (show (o.length : Int) ≠ 0 by omega)
  have h2 := Int.emod_lt_of_pos (frM o e + a) (show (0 : Int) < o.length by omega)
  have h3 := Int.emod_nonneg (frM o e + b) (show (o.length : Int) ≠ 0 by omega)
  have h4 := Int.emod_lt_of_pos (frM o e + b) (show (0 : Int) < o.length by omega)
  have := ix_inj nd ⟨h1, h2⟩ ⟨h3, h4⟩ he
  rw [wrapP (by omega) (by omega), wrapP (by omega) (by omega)] at this
  apply hne
  split at this <;> split at this <;> omega
end Pf

namespace Pf
open PySem PySem.Spec PyProof.Rows L2
/-! ### the stacks along the order: heaps -/
theorem mod_sub {a b n : Int} : (a - b % n) % n = (a - b) % n := by
  rw [Int.sub_emod, Int.emod_emod_of_dvd _ (Int.dvd_refl n), ← Int.sub_emod]
theorem mod_subl {a b n : Int} : (a % n - b) % n = (a - b) % n := by
  rw [Int.sub_emod, Int.emod_emod_of_dvd _ (Int.dvd_refl n), ← Int.sub_emod]
theorem mod_add {a b n : Int} : (a + b % n) % n = (a + b) % n := by
  rw [Int.add_emod, Int.emod_emod_of_dvd _ (Int.dvd_refl n), ← Int.add_emod]
theorem firsts_ne {o e : List Int} {k0 k1 : Int} (h0 : 0 ≤ k0 ∧ k0 < o.length) (h1 : 0 ≤ k1 ∧ k1 < o.length) (hin : ix o k0 ∈ e) (hout : ix o k1 ∉ e) : firstsM o e ≠ [] := by
  intro hz
  have hz := List.filter_eq_nil_iff.mp hz
  have nz : (o.length : Int) ≠ 0 := by omega
  have all : ∀ j : Nat, ix o ((k0 - j) % o.length) ∈ e := by
    intro j
    induction j with
    | zero =>
      rw [show k0 - ((0 : Nat) : Int) = k0 by omega, Int.emod_eq_of_lt h0.1 h0.2]
      exact hin
    | succ j ih =>
      have hk := hz ((k0 - j) % o.length) (rng_mem.mpr ⟨Int.emod_nonneg _ nz, Int.emod_lt_of_pos _ (by omega)⟩)
      rw [mod_subl, show k0 - (j : Int) - 1 = k0 - ((j + 1 : Nat) : Int) by omega] at hk
      rw [decide_eq_true ih, Bool.true_and] at hk
      simpa using hk
  have z := all ((k0 - k1) % o.length).toNat
  rw [Int.toNat_of_nonneg (Int.emod_nonneg _ nz), mod_sub, show k0 - (k0 - k1) = k1 by omega, Int.emod_eq_of_lt h1.1 h1.2] at z
  exact hout z
theorem mem_ix {o : List Int} {x : Int} (h : x ∈ o) : ∃ k : Int, (0 ≤ k ∧ k < o.length) ∧ ix o k = x := by
  obtain ⟨j, hj, e⟩ := List.mem_iff_getElem.mp h
  exact ⟨j, ⟨by omega, by omega⟩, by rw [ix_nat (List.getElem?_eq_getElem hj)]; exact e⟩
theorem beh_look {o e : List Int} (h : firstsM o e ≠ []) {x : Int} (hx : x ∈ o) : ∃ y, look (behM o e).l x = some y := by
  obtain ⟨k, hk, rfl⟩ := mem_ix hx
  have hf := fr_lt h
  have nz : (o.length : Int) ≠ 0 := by omega
  apply Option.isSome_iff_exists.mp
  rw [look_mem]
  unfold behM
  rw [List.map_map]
  refine List.mem_map.mpr ⟨(k - frM o e) % o.length, rng_mem.mpr ⟨Int.emod_nonneg _ nz, Int.emod_lt_of_pos _ (by omega)⟩, ?_⟩
  show ix o ((frM o e + (k - frM o e) % o.length) % o.length) = ix o k
  rw [mod_add, show frM o e + (k - frM o e) = k by omega, Int.emod_eq_of_lt hk.1 hk.2]
def behP (p : Plan) (t u : Int) : DI := behM (ordM p) (arc p.1 t u)
def stepP (p : Plan) (t u : Int) : Int × Int := if upM p t u = true then (p.1, 0) else (-p.1, -p.1)
def startP (p : Plan) (l : T3) : Int := l.c * p.1 + ((ordM p).idxOf l.a : Nat) - (look (behP p l.a l.b).l l.a).getD 0
def begP (p : Plan) (l : T3) : List Int := [startP p l, startP p l + (stepP p l.a l.b).1, startP p l + 2 * (stepP p l.a l.b).1]
def twoP (p : Plan) (l : T3) (b : Int) : List (List Int) := [copM (arc p.1 l.a l.b) (behP p l.a l.b) b, copM (oddM p.1 l.a l.b) (behP p l.a l.b) (b + (stepP p l.a l.b).2)]
def heapsM (p : Plan) (l : T3) : List (List Int) := (begP p l).flatMap (twoP p l)
theorem ord_in {p : Plan} (h : isPlanM p = true) {x : Int} : x ∈ ordM p ↔ 0 ≤ x ∧ x < p.1 := by rw [(ordM_perm h).mem_iff]; exact rng_mem
theorem ord_len {p : Plan} (h : isPlanM p = true) : ((ordM p).length : Int) = p.1 := by
  obtain ⟨h3, _⟩ := plan_facts h
  rw [(ordM_perm h).length_eq, rng_len]; omega
theorem ord_nodup {p : Plan} (h : isPlanM p = true) : (ordM p).Nodup := (ordM_perm h).nodup_iff.mpr (rng_nodup 0 p.1)
theorem firsts_P {p : Plan} (h : isPlanM p = true) {t u : Int} (j : Jn p t u) : firstsM (ordM p) (arc p.1 t u) ≠ [] := by
  have ne := j.ne h
  obtain ⟨k0, h0, e0⟩ := mem_ix ((ord_in h (x := t)).mpr ⟨by omega, by omega⟩)
  obtain ⟨k1, h1, e1⟩ := mem_ix ((ord_in h (x := u)).mpr ⟨by omega, by omega⟩)
  refine firsts_ne h0 h1 ?_ ?_
  · rw [e0]; exact (mem_arc (by omega) (by omega) (by omega)).mpr ⟨by omega, by omega, .inl rfl⟩
  · rw [e1]; intro z
    obtain ⟨_, _, z⟩ := (mem_arc (by omega) (by omega) (by omega)).mp z
    rcases z with z | z
    · omega
    · unfold Cy at z; omega
theorem look_P {p : Plan} (h : isPlanM p = true) {t u x : Int} (j : Jn p t u) (hx : 0 ≤ x ∧ x < p.1) : ∃ y, look (behP p t u).l x = some y := beh_look (firsts_P h j) ((ord_in h).mpr hx)
theorem behP_len {p : Plan} (h : isPlanM p = true) {t u : Int} : ((behP p t u).l.length : Int) = p.1 := by unfold behP; rw [beh_len]; exact ord_len h
end Pf

namespace Pf
open PySem PySem.Spec PyProof.Rows L2
/-! ### a def that tells at some values and raises at others -/
abbrev BodyOk (P : Program) (w : World) (K : Fg) (mg : Str → Option Value) (base : Heap) (k : Nat) (x : Str) (N : List Str) (st : Stmt) (sp : Sp) : Prop :=
  ∀ (cdv : Value) (f : Addr) (A : Around) (outer : List Env) (s : Shared) (H : Hp) (vs : List V) (Q : VK) (E : XK), Room k (A.deeper (envOfC x (defScope st) s.heap.objs.size f cdv)) → sp vs H Q E →
    ∃ t, PSs (cxOf CX0 P w K mg base N x (defScope st) f cdv A outer s H E).nox (defBody st) t ∧ t { nx := fun _ H' => Q .non H', rt := Q } (start N vs) H
section
variable {α β : Type} [Rep α] [Rep β] {σ : L2.St} {G H : Hp} {ta tb : TE} {W : WX} {Q : VK}
theorem len_sp2 {γ : Type} [Rep γ] {pre : α → β → Prop} {f : α → β → γ} {a b : Str} : ∀ vs H Q E, sp2 pre f vs H Q E → vs.length = [a, b].length := fun vs H Q E h => by obtain ⟨v, x, v2, x2, G, rfl, _⟩ := h; rfl
end
end Pf

namespace Pf
open PySem PySem.Spec PyProof.Rows L2
/-! ### stretches of the order, as a ring -/
theorem ixI_app_l {x y : List Int} {k : Int} (h0 : 0 ≤ k) (h1 : k < x.length) : ix (x ++ y) k = ix x k := by
  obtain ⟨m, rfl⟩ : ∃ m : Nat, k = (m : Int) := ⟨k.toNat, by omega⟩
  have hm : m < x.length := by omega
  rw [ix_nat (List.getElem?_append_left hm |>.trans (List.getElem?_eq_getElem hm)), ix_nat (List.getElem?_eq_getElem hm)]
theorem ixI_app_r {x y : List Int} {k : Int} (h0 : x.length ≤ k) (h1 : k < x.length + y.length) : ix (x ++ y) k = ix y (k - x.length) := by
  obtain ⟨m, rfl⟩ : ∃ m : Nat, k = ((x.length + m : Nat) : Int) := ⟨(k - x.length).toNat, by omega⟩
  have hm : m < y.length := by omega
  have e : ((x.length + m : Nat) : Int) - x.length = (m : Int) := by omega
  rw [e, ix_nat (v := y[m]) (by rw [List.getElem?_append_right (by omega), Nat.add_sub_cancel_left]; exact List.getElem?_eq_getElem hm), ix_nat (List.getElem?_eq_getElem hm)]
theorem ix_mem {x : List Int} {k : Int} (h0 : 0 ≤ k) (h1 : k < x.length) : ix x k ∈ x := by
  obtain ⟨m, rfl⟩ : ∃ m : Nat, k = (m : Int) := ⟨k.toNat, by omega⟩
  have hm : m < x.length := by omega
  rw [ix_nat (List.getElem?_eq_getElem hm)]
  exact List.getElem_mem hm
theorem ix_idx {o : List Int} {x : Int} (h : x ∈ o) : ix o ((o.idxOf x : Nat) : Int) = x := by
  have hl := List.idxOf_lt_length_of_mem h
  rw [ix_nat (List.getElem?_eq_getElem hl)]
  exact List.getElem_idxOf hl
theorem idx_lt {o : List Int} {x : Int} (h : x ∈ o) : ((o.idxOf x : Nat) : Int) < o.length := by
  have hl := List.idxOf_lt_length_of_mem h
  omega
theorem rot_ix {o b : List Int} (R : Rot o b) : b.length = o.length ∧ ∃ r : Int, ∀ s : Int, 0 ≤ s → s < o.length → ix o ((r + s) % o.length) = ix b s := by
  obtain ⟨x, y, rfl, rfl⟩ := R
  refine ⟨by rw [List.length_append, List.length_append]; omega, x.length, fun s h0 h1 => ?_⟩
  have hl : ((x ++ y).length : Int) = x.length + y.length := by rw [List.length_append]; omega
  rw [hl] at h1 ⊢
  by_cases hs : s < y.length
  · rw [Int.emod_eq_of_lt (by omega) (by omega), ixI_app_r (by omega) (by omega), ixI_app_l h0 hs]
    congr 1; omega
  · rw [wrap (by omega) (by omega), if_neg (by omega), ixI_app_r (x := y) (by omega) (by omega), ixI_app_l (by omega) (by omega)]
    congr 1; omega
/-- st has just what stands from r on, m in all, of the order o as a ring -/
structure Stre (o st : List Int) (r m : Int) : Prop where
  nd : o.Nodup
  r0 : 0 ≤ r
  r1 : r < o.length
  m0 : 0 < m
  m1 : m < o.length
  mem : ∀ s : Int, 0 ≤ s → s < o.length → (ix o ((r + s) % o.length) ∈ st ↔ s < m)
theorem mod_add2 {a b n : Int} : (a % n + b) % n = (a + b) % n := by rw [Int.add_emod, Int.emod_emod_of_dvd _ (Int.dvd_refl n), ← Int.add_emod]
section
variable {o st : List Int} {r m : Int}
theorem Stre.at (S : Stre o st r m) (d : Int) : ix o (d % o.length) ∈ st ↔ (d - r) % o.length < m := by
  have nz : (o.length : Int) ≠ 0 := by have := S.r0; have := S.r1; omega
  have h := S.mem ((d - r) % o.length) (Int.emod_nonneg _ nz) (Int.emod_lt_of_pos _ (by have := S.r0; have := S.r1; omega))
  rw [mod_add, show r + (d - r) = d by omega] at h
  exact h
theorem Stre.first (S : Stre o st r m) : firstsM o st = [r] := by
  have r0 := S.r0; have r1 := S.r1; have m0 := S.m0; have m1 := S.m1
  have nd : (firstsM o st).Nodup := (rng_nodup 0 _).filter _
  have pm : (firstsM o st).Perm [r] := (List.perm_ext_iff_of_nodup nd (List.nodup_cons.mpr ⟨List.not_mem_nil, List.nodup_nil⟩)).mpr fun k => by
    unfold firstsM
    rw [List.mem_filter, rng_mem, List.mem_singleton, Bool.and_eq_true, decide_eq_true_eq, Bool.not_eq_true', decide_eq_false_iff_not]
    constructor
    · rintro ⟨⟨k0, k1⟩, h1, h2⟩
      have e1 : ix o k = ix o (k % o.length) := by rw [Int.emod_eq_of_lt k0 k1]
      rw [e1, S.at] at h1
      rw [S.at] at h2
      rw [wrapN (by omega) (by omega)] at h1 h2
      split at h1 <;> split at h2 <;> omega
    · rintro rfl
      refine ⟨⟨r0, r1⟩, ?_, ?_⟩
      · have e1 : ix o k = ix o (k % o.length) := by rw [Int.emod_eq_of_lt r0 r1]
        rw [e1, S.at, show k - k = 0 by omega, Int.zero_emod]; exact m0
      · rw [S.at, show k - 1 - k = -1 by omega, wrapN (by omega) (by omega), if_pos (by omega)]; omega
  exact List.perm_singleton.mp pm
theorem Stre.fr (S : Stre o st r m) : frM o st = r := by unfold frM; rw [S.first]; rfl
/-- how far behind the first -/
def psn (o : List Int) (r x : Int) : Int := (((o.idxOf x : Nat) : Int) - r) % o.length
theorem psn_lt (S : Stre o st r m) (x : Int) : 0 ≤ psn o r x ∧ psn o r x < o.length := by
  have r0 := S.r0; have r1 := S.r1
  exact ⟨Int.emod_nonneg _ (by omega), Int.emod_lt_of_pos _ (by omega)⟩
theorem Stre.psn_at (S : Stre o st r m) {s : Int} (h0 : 0 ≤ s) (h1 : s < o.length) : psn o r (ix o ((r + s) % o.length)) = s := by
  have r0 := S.r0; have r1 := S.r1
  have b0 := Int.emod_nonneg (r + s) (show (o.length : Int) ≠ 0 by omega)
  have b1 := Int.emod_lt_of_pos (r + s) (show (0 : Int) < o.length by omega)
  have hm : ix o ((r + s) % o.length) ∈ o := ix_mem b0 b1
  have e : ((o.idxOf (ix o ((r + s) % o.length)) : Nat) : Int) = (r + s) % o.length := ix_inj S.nd ⟨by omega, idx_lt hm⟩ ⟨b0, b1⟩ (ix_idx hm)
  unfold psn
  rw [e, mod_subl, show r + s - r = s by omega, Int.emod_eq_of_lt h0 h1]
theorem Stre.at_psn (S : Stre o st r m) {x : Int} (hx : x ∈ o) : ix o ((r + psn o r x) % o.length) = x := by
  have hl := idx_lt hx
  unfold psn
  rw [mod_add, show r + (((o.idxOf x : Nat) : Int) - r) = ((o.idxOf x : Nat) : Int) by omega, Int.emod_eq_of_lt (by omega) hl, ix_idx hx]
theorem look_uniq {κ α : Type} [DecidableEq κ] : ∀ {l : List (κ × α)} {k : κ} {x : α}, (l.map (·.1)).Nodup → (k, x) ∈ l → look l k = some x
  | [], _, _, _, h => by cases h
  | e :: l, k, x, nd, h => by
    rw [List.map_cons, List.nodup_cons] at nd
    unfold look
    rcases List.mem_cons.mp h with rfl | h
    · rw [List.find?_cons_of_pos (by simp)]; rfl
    · have ne : e.1 ≠ k := fun z => nd.1 (by rw [z]; exact List.mem_map.mpr ⟨(k, x), h, rfl⟩)
      rw [List.find?_cons_of_neg (by simp [ne])]
      exact look_uniq nd.2 h
theorem Stre.look (S : Stre o st r m) {x : Int} (hx : x ∈ o) : Pf.look (behM o st).l x = some (psn o r x) := by
  have nd := beh_nodup (e := st) S.nd (by rw [S.first]; exact fun z => by cases z)
  have hp := psn_lt S x
  refine look_uniq ?_ ?_
  · unfold behM
    rw [List.map_map]
    exact nd
  · unfold behM
    refine List.mem_map.mpr ⟨psn o r x, rng_mem.mpr hp, ?_⟩
    rw [S.fr, S.at_psn hx]
/-- the other stack -/
theorem Stre.other (S : Stre o st r m) {st2 : List Int} (h2 : ∀ x ∈ o, x ∈ st2 ↔ x ∉ st) : Stre o st2 ((r + m) % o.length) (o.length - m) := by
  have r0 := S.r0; have r1 := S.r1; have m0 := S.m0; have m1 := S.m1
  refine ⟨S.nd, Int.emod_nonneg _ (by omega), Int.emod_lt_of_pos _ (by omega), by omega, by omega, fun s h0 h1 => ?_⟩
  rw [mod_add2, h2 _ (ix_mem (Int.emod_nonneg _ (by omega)) (Int.emod_lt_of_pos _ (by omega))), S.at, show r + m + s - r = m + s by omega, wrap (by omega) (by omega)]
  split <;> omega
/-! ### the law's own copies -/
end
/-- the even stack of a place, as a stretch -/
theorem stre_P {p : Plan} (h : isPlanM p = true) {t u : Int} (j : Jn p t u) : Stre (ordM p) (arc p.1 t u) (frM (ordM p) (arc p.1 t u)) ((u - t) % p.1) := by
  obtain ⟨A, B, pA, pB, R⟩ := stretch h j
  have ne := j.ne h
  have h3 := (plan_facts h).1
  have hol := ord_len h
  obtain ⟨hl, r, hr⟩ := rot_ix R
  rw [List.length_append] at hl
  have lA : (A.length : Int) = (u - t) % p.1 := by rw [pA.length_eq, arc_len]; have := Int.emod_nonneg (u - t) (show p.1 ≠ 0 by omega); omega
  have lB : (B.length : Int) = (t - u) % p.1 := by rw [pB.length_eq, arc_len]; have := Int.emod_nonneg (t - u) (show p.1 ≠ 0 by omega); omega
  have w1 := arc_w (n := p.1) (s := t) (e := u) (by omega) (by omega)
  have w2 := arc_w (n := p.1) (s := u) (e := t) (by omega) (by omega)
  have pos : 0 < (u - t) % p.1 ∧ (u - t) % p.1 < p.1 := by rw [w1]; split <;> omega
  have S : Stre (ordM p) (arc p.1 t u) (r % p.1) ((u - t) % p.1) := by
    refine ⟨ord_nodup h, Int.emod_nonneg _ (by omega), by rw [hol]; exact Int.emod_lt_of_pos _ (by omega), pos.1, by omega, fun s s0 s1 => ?_⟩
    have e := hr s s0 s1
    have e2 : (r % p.1 + s) % ((ordM p).length : Int) = (r + s) % ((ordM p).length : Int) := by rw [hol, mod_add2]
    rw [e2, e]
    by_cases c : s < A.length
    · rw [ixI_app_l s0 c]
      exact ⟨fun _ => by omega, fun _ => pA.mem_iff.mp (ix_mem s0 c)⟩
    · rw [ixI_app_r (by omega) (by omega)]
      refine ⟨fun q => ?_, fun q => by omega⟩
      exfalso
      have m2 := pB.mem_iff.mp (ix_mem (x := B) (k := s - A.length) (by omega) (by omega))
      obtain ⟨_, _, q1⟩ := (mem_arc (by omega) (by omega) (by omega)).mp q
      obtain ⟨_, _, q2⟩ := (mem_arc (by omega) (by omega) (by omega)).mp m2
      generalize ix B (s - A.length) = x at *
      unfold Cy at q1 q2
      omega
  rw [S.fr]; exact S
theorem arc_not {p : Plan} (h : isPlanM p = true) {t u : Int} (j : Jn p t u) : ∀ x ∈ ordM p, x ∈ oddM p.1 t u ↔ x ∉ arc p.1 t u := by
  have ne := j.ne h
  intro x hx
  have hx := (ord_in h).mp hx
  rw [odd_eq (by omega) (by omega) (by omega), List.mem_reverse, mem_arc (by omega) (by omega) (by omega), mem_arc (by omega) (by omega) (by omega)]
  unfold Cy
  omega
end Pf

namespace Pf
open PySem PySem.Spec PyProof.Rows L2
/-! ### heaps, as the law goes along the strip -/
section
variable {o st od : List Int} {r m : Int}
end
section
variable {p : Plan} {l : T3}
theorem cop_eq (h : isPlanM p = true) (j : Jn p l.a l.b) {L : List Int} (hL : ∀ x ∈ L, x ∈ ordM p) (b : Int) : copM L (behP p l.a l.b) b = L.map fun x => (b + psn (ordM p) (frM (ordM p) (arc p.1 l.a l.b)) x) % (3 * (ordM p).length) := by
  have S := stre_P h j
  have e := behP_len (t := l.a) (u := l.b) h
  have hol := ord_len h
  unfold copM
  refine List.map_congr_left fun x hx => ?_
  have z : look (behP p l.a l.b).l x = some _ := S.look (hL x hx)
  rw [z, e, hol]; rfl
theorem arc_in (h : isPlanM p = true) {t u : Int} (j : Jn p t u) : ∀ x ∈ arc p.1 t u, x ∈ ordM p := fun x hx => by
  have ne := j.ne h
  have := (mem_arc (by omega) (by omega) (by omega)).mp hx
  exact (ord_in h).mpr ⟨this.1, this.2.1⟩
theorem odd_in (h : isPlanM p = true) {t u : Int} (j : Jn p t u) : ∀ x ∈ oddM p.1 t u, x ∈ ordM p := fun x hx => by
  have ne := j.ne h
  rw [odd_eq (by omega) (by omega) (by omega), List.mem_reverse] at hx
  exact arc_in h j.sym x hx
/-- where the even stack of a turn begins -/
def begJ (p : Plan) (l : T3) (k : Int) : Int := startP p l + k * (stepP p l.a l.b).1
theorem step_cases (p : Plan) (t u : Int) : (upM p t u = true ∧ stepP p t u = (p.1, 0)) ∨ (upM p t u = false ∧ stepP p t u = (-p.1, -p.1)) := by
  unfold stepP
  cases upM p t u
  · exact .inr ⟨rfl, by rw [if_neg (by decide)]⟩
  · exact .inl ⟨rfl, by rw [if_pos rfl]⟩
/-- what the law finds at a turn -/
theorem heaps_eq (p : Plan) (l : T3) : heapsM p l = (rng 0 3).flatMap fun k => [copM (arc p.1 l.a l.b) (behP p l.a l.b) (begJ p l k), copM (oddM p.1 l.a l.b) (behP p l.a l.b) (begJ p l k + (stepP p l.a l.b).2)] := by
  have e : rng 0 3 = [0, 1, 2] := by decide +kernel
  rw [e]
  unfold heapsM begP begJ
  simp only [List.flatMap_cons, List.flatMap_nil, Int.zero_mul, Int.one_mul, Int.add_zero]
  rfl
end
/-- a list without repeats whose items another one has, which is no longer -/
theorem perm_of_sub : ∀ {xs ys : List Int}, xs.Nodup → (∀ x ∈ xs, x ∈ ys) → ys.length ≤ xs.length → xs.Perm ys
  | [], ys, _, _, hl => by
    have e : ys = [] := List.length_eq_zero_iff.mp (by simpa using hl)
    rw [e]
  | x :: xs, ys, nd, hs, hl => by
    have hx := hs x List.mem_cons_self
    have p1 := List.perm_cons_erase hx
    obtain ⟨nx, nd'⟩ := List.nodup_cons.mp nd
    have ih := perm_of_sub (xs := xs) (ys := ys.erase x) nd' (fun y hy => by
      have ne : y ≠ x := fun z => nx (z ▸ hy)
      exact (List.mem_erase_of_ne ne).mpr (hs y (List.mem_cons_of_mem _ hy))) (by rw [List.length_erase_of_mem hx]; simp at hl; omega)
    exact (ih.cons x).trans p1.symm
theorem heaps_perm {p : Plan} (h : isPlanM p = true) {l : T3} (j : Jn p l.a l.b) : (rng 0 (3 * p.1)).Perm (heapsM p l).flatten := by
  have S := stre_P h j
  have ne := j.ne h
  have h3 := (plan_facts h).1
  have hol := ord_len h
  have m0 := S.m0; have m1 := S.m1
  refine perm_of_sub (rng_nodup _ _) (fun z hz => ?_) ?_
  · have hz := rng_mem.mp hz
    -- how far behind the start
    have d0 := Int.emod_nonneg (z - startP p l) (show 3 * p.1 ≠ 0 by omega)
    have d1 := Int.emod_lt_of_pos (z - startP p l) (show 0 < 3 * p.1 by omega)
    have zd : (startP p l + (z - startP p l) % (3 * p.1)) % (3 * p.1) = z := by rw [mod_add, show startP p l + (z - startP p l) = z by omega, Int.emod_eq_of_lt hz.1 hz.2]
    generalize (z - startP p l) % (3 * p.1) = d at *
    obtain ⟨k, s, hk, hs0, hs1, hd⟩ : ∃ k s : Int, (k = 0 ∨ k = 1 ∨ k = 2) ∧ 0 ≤ s ∧ s < p.1 ∧ d = k * p.1 + s := by
      by_cases c1 : d < p.1
      · exact ⟨0, d, .inl rfl, d0, c1, by omega⟩
      · by_cases c2 : d < 2 * p.1
        · exact ⟨1, d - p.1, .inr (.inl rfl), by omega, by omega, by omega⟩
        · exact ⟨2, d - 2 * p.1, .inr (.inr rfl), by omega, by omega, by omega⟩
    have hx : ix (ordM p) ((frM (ordM p) (arc p.1 l.a l.b) + s) % (ordM p).length) ∈ ordM p := ix_mem (Int.emod_nonneg _ (by omega)) (Int.emod_lt_of_pos _ (by omega))
    have hps := S.psn_at hs0 (by omega)
    have hin := S.mem s hs0 (by omega)
    have hot := arc_not h j _ hx
    generalize ix (ordM p) ((frM (ordM p) (arc p.1 l.a l.b) + s) % (ordM p).length) = x at *
    -- a list of which z is a copy
    have even : ∀ b, (b + s) % (3 * p.1) = z → s < (l.b - l.a) % p.1 → z ∈ copM (arc p.1 l.a l.b) (behP p l.a l.b) b := fun b e c => by
      rw [cop_eq h j (arc_in h j)]
      exact List.mem_map.mpr ⟨x, hin.mpr c, by rw [hps, hol]; exact e⟩
    have odd : ∀ b, (b + s) % (3 * p.1) = z → ¬ s < (l.b - l.a) % p.1 → z ∈ copM (oddM p.1 l.a l.b) (behP p l.a l.b) b := fun b e c => by
      rw [cop_eq h j (odd_in h j)]
      exact List.mem_map.mpr ⟨x, hot.mpr (fun q => c (hin.mp q)), by rw [hps, hol]; exact e⟩
    have up : ∀ b, b + s = startP p l + d → (b + s) % (3 * p.1) = z := fun b e => by rw [e]; exact zd
    have dn : ∀ b, b + s + 3 * p.1 = startP p l + d → (b + s) % (3 * p.1) = z := fun b e => by rw [← zd, ← e, Int.add_emod_right]
    have eq := heaps_eq p l
    have e3 : rng 0 3 = [0, 1, 2] := by decide +kernel
    rw [e3] at eq
    unfold begJ at eq
    simp only [List.flatMap_cons, List.flatMap_nil, Int.zero_mul, Int.one_mul, Int.add_zero, List.append_nil, List.cons_append, List.nil_append] at eq
    rw [eq]
    simp only [List.flatten_cons, List.flatten_nil, List.mem_append, List.append_nil]
    rcases step_cases p l.a l.b with ⟨_, e2⟩ | ⟨_, e2⟩
    · rw [e2]
      by_cases c : s < (l.b - l.a) % p.1
      · rcases hk with rfl | rfl | rfl
        · exact .inl (even _ (up _ (by omega)) c)
        · exact .inr (.inr (.inl (even _ (up _ (by show startP p l + p.1 + s = _; omega)) c)))
        · exact .inr (.inr (.inr (.inr (.inl (even _ (up _ (by show startP p l + 2 * p.1 + s = _; omega)) c)))))
      · rcases hk with rfl | rfl | rfl
        · exact .inr (.inl (odd _ (up _ (by show startP p l + 0 + s = _; omega)) c))
        · exact .inr (.inr (.inr (.inl (odd _ (up _ (by show startP p l + p.1 + 0 + s = _; omega)) c))))
        · exact .inr (.inr (.inr (.inr (.inr (odd _ (up _ (by show startP p l + 2 * p.1 + 0 + s = _; omega)) c)))))
    · rw [e2]
      by_cases c : s < (l.b - l.a) % p.1
      · rcases hk with rfl | rfl | rfl
        · exact .inl (even _ (up _ (by omega)) c)
        · exact .inr (.inr (.inr (.inr (.inl (even _ (dn _ (by show startP p l + 2 * (-p.1) + s + _ = _; omega)) c)))))
        · exact .inr (.inr (.inl (even _ (dn _ (by show startP p l + (-p.1) + s + _ = _; omega)) c)))
      · rcases hk with rfl | rfl | rfl
        · exact .inr (.inr (.inr (.inr (.inr (odd _ (dn _ (by show startP p l + 2 * (-p.1) + (-p.1) + s + _ = _; omega)) c)))))
        · exact .inr (.inr (.inr (.inl (odd _ (dn _ (by show startP p l + (-p.1) + (-p.1) + s + _ = _; omega)) c))))
        · exact .inr (.inl (odd _ (dn _ (by show startP p l + (-p.1) + s + _ = _; omega)) c))
  · have w1 := arc_w (n := p.1) (s := l.a) (e := l.b) (by omega) (by omega)
    have w2 := arc_w (n := p.1) (s := l.b) (e := l.a) (by omega) (by omega)
    have la : (arc p.1 l.a l.b).length = ((l.b - l.a) % p.1).toNat := arc_len
    have lo : (oddM p.1 l.a l.b).length = ((l.a - l.b) % p.1).toNat := by rw [odd_eq (by omega) (by omega) (by omega), List.length_reverse, arc_len]
    unfold heapsM begP twoP copM
    simp only [List.flatMap_cons, List.flatMap_nil, List.flatten_append, List.flatten_cons, List.flatten_nil, List.length_append, List.length_map, List.append_nil, List.length_nil, rng_len]
    rw [la, lo, w1, w2]
    split <;> split <;> omega
end Pf

namespace Pf
open PySem PySem.Spec PyProof.Rows L2
/-! ### defs that refuse what is no plan -/
theorem TxD.okX {P : Program} {w : World} {K : Fg} {mg : Str → Option Value} {base : Heap} {x y : Str} {st : Stmt} {N ps : List Str} {k n : Nat} {dv : V} {sp : Sp} (T : TxD K mg x ps y st n dv) (S : FnScope N ps (defScope st)) (len : ∀ vs H Q E, sp vs H Q E → vs.length = ps.length)
    (hbody : ∀ (cdv : Value) (f : Addr) (A : Around) (outer : List Env) (s : Shared) (H : Hp) (vs : List V) (Q : VK) (E : XK), Room k (A.deeper (envOfC x (defScope st) s.heap.objs.size f cdv)) → sp vs H Q E →
      ∃ t, PSs (cxOf (L2N.CX P w) P w K mg base N x (defScope st) f cdv A outer s H E) (defBody st) t ∧ t { nx := fun _ H' => Q .non H', rt := Q } (start N vs) H) : DfX P w K mg base (k + 1) x ps sp := by
  obtain ⟨f, fd, F, b, b1, b2, m⟩ := T.ex
  exact ⟨f, fd, F.ok S len fun cdv A outer s H vs Q E hr h => hbody cdv f A outer s H vs Q E hr h, b, F.kp, m⟩
/-- a def that is never called -/
def spNo : Sp := fun _ _ _ _ => False
theorem Tx.no {P : Program} {w : World} {K : Fg} {mg : Str → Option Value} {base : Heap} {x : Str} {st : Stmt} {N ps : List Str} (T : Tx K mg x ps st) (S : FnScope N ps (defScope st)) : DfX P w K mg base 1 x ps spNo := T.okX S (fun _ _ _ _ h => h.elim) (fun _ _ _ _ _ _ _ _ _ _ h => h.elim)
section
variable {α : Type} [Rep α] {σ : L2.St} {G H : Hp} {te ta tb : TE} {tr : TA} {W : WX} {Q : VK}
/-- n values, whatever they are -/
def EvV (tr : TA) (n : Nat) (σ : L2.St) (G : Hp) : Prop := ∀ H, Same G H → ∀ Q : List V → Hp → Prop, (∀ vs G' H', Gr M0 G H G' H' → vs.length = n → Q vs H') → tr σ H Q
theorem EvV.mono {G1 : Hp} {n : Nat} (h : EvV tr n σ G) (e : Same G G1) : EvV tr n σ G1 := fun H i Q q => h H (e.trans i) Q fun vs G' H' g k => q vs (uni G' G1) H' (gr_up e i g) k
end
end Pf

namespace Pf
open PySem PySem.Spec PyProof.Rows L2 LamX
/-! ### a kept lambda handed to a def by a name -/
section
variable {X : Cx}
end
/-! ### places that are none -/
section
variable {α : Type} [Rep α] {σ : L2.St} {G H : Hp} {te ta tb : TE} {tr : TA} {W : WX} {Q : VK}
end
section
variable {α β : Type} [Rep α] [Rep β] {σ : L2.St} {G H : Hp} {te : TE} {g : TG}
end
end Pf

namespace Pf
open PySem PySem.Spec PyProof.Rows L2
/-! ### what a def tells is new where it was handed tuples alone -/
def tupO (G : Hp) : Hp := fun a => match G a with
  | some (.tup vs) => some (.tup vs)
  | _ => none
theorem tupO_of {G : Hp} {a : Addr} {vs : List V} (e : G a = some (.tup vs)) : tupO G a = some (.tup vs) := by unfold tupO; rw [e]
class TRep (α : Type) [Rep α] : Prop where
  t : ∀ {G : Hp} {v : V} {x : α}, rep G v x → rep (tupO G) v x
instance : TRep Int := ⟨fun h => h⟩
instance : TRep Bool := ⟨fun h => h⟩
instance : TRep Str := ⟨fun h => h⟩
instance {α β : Type} [Rep α] [Rep β] [TRep α] [TRep β] : TRep (α × β) := ⟨fun ⟨a, u, w, h1, h2, h3, h4⟩ => ⟨a, u, w, h1, tupO_of h2, TRep.t h3, TRep.t h4⟩⟩
instance {α β γ : Type} [Rep α] [Rep β] [Rep γ] [TRep α] [TRep β] [TRep γ] : TRep (Tri α β γ) := ⟨fun ⟨a, u, w, z, h1, h2, h3, h4, h5⟩ => ⟨a, u, w, z, h1, tupO_of h2, TRep.t h3, TRep.t h4, TRep.t h5⟩⟩
theorem paired_t {α : Type} [Rep α] [TRep α] {G : Hp} {vs : List V} {xs : List α} (h : Paired (rep G) vs xs) : Paired (rep (tupO G)) vs xs := Paired.mapP h fun _ _ r => TRep.t r
instance {α : Type} [Rep α] [TRep α] : TRep (Tup α) := ⟨fun ⟨a, vs, h1, h2, h3⟩ => ⟨a, vs, h1, tupO_of h2, paired_t h3⟩⟩
theorem Gr.sm {G H H' : Hp} (i : Same G H) (s : Same H H') : Gr M0 G H G H' := ⟨Same.refl G, i.trans s, SB.of s, fun _ _ e => .inl e⟩
theorem Bag.sm {G H H' : Hp} {b : Addr} (x : Bag G H b) (i : Same G H) (s : Same H H') : Bag G H' b := x.step0 (Gr.sm i s)
theorem Bag.nn {G H : Hp} {b p : Addr} (x : Bag G H b) (n : H p = none) : b ≠ p := fun z => by
  obtain ⟨_, _, _, _, _, _, e, _⟩ := x
  rw [z, n] at e; cases e

section
variable {α : Type} [Rep α] {σ : L2.St} {G H : Hp} {te : TE} {x : α} {K : Fg} {D : Ends} {u : TS}
end
end Pf

namespace Pf
open PySem PySem.Spec PyProof.Rows L2
/-! ### in how many ways a row can be folded -/
def wayN (l : List Nat) : Nat → Int → Int → Bool → Int
  | 0, _, _, _ => 0
  | f + 1, s, e, b => if e - s = 1 then (if ix l s = rl b then 1 else 0) else ((rng (s + 1) e).map fun m => wayN l f s m (!b) * wayN l f m e (!b)).sum
def way (l : List Nat) (s e : Int) (b : Bool) : Int := wayN l (e - s).toNat s e b
section
variable {l : List Nat} {s e : Int} {b : Bool}
end
/-! ### the ways that are known so far -/
section
variable {l : List Nat} {L S : Int} {h : Nat}
end
/-! ### the signs of a text, one by one -/
section
variable {σ : L2.St} {G : Hp} {te : TE}
theorem ei_str {z : Str} (h : Ev te σ G z) : EvI (iStr te) σ G (z.cps.toList.map fun c => (⟨#[c]⟩ : Str)) := fun H i R q => h H i _ fun v G' H' g k => by
  cases k
  refine ⟨z, rfl, q _ G' H' g ⟨fun k H s l => ?_, fun k H s l => ?_, fun k H v H' G1 x s1 s2 y e => ?_⟩⟩
  · rw [List.length_map] at l; show k < z.cps.size; simpa using l
  · rw [List.length_map] at l; show z.cps.size ≤ k; simpa using l
  · obtain ⟨rfl, c, hc, rfl⟩ := y
    rw [List.getElem?_map] at e
    have hc2 : z.cps.toList[k]? = some c := by rw [← hc]; simp
    rw [hc2] at e
    cases e
    exact ⟨G1, Gr.refl s2, rfl⟩
end
end Pf

namespace Pf
open PySem PySem.Spec PyProof.Rows L2
/-! ### ways of a word of hands -/
def sumN (n : Nat) (f : Nat → Int) : Int := ((List.range n).map f).sum
/-- w as a stack within a part of the hand b; it is cut behind its first i + 1 leaves -/
def wlN : Nat → List Bool → Bool → Int
  | 0, _, _ => 0
  | f + 1, w, b => if w.length = 1 then (if w[0]? = some b then 1 else 0) else sumN (w.length - 1) fun i => wlN f (w.take (i + 1)) (!b) * wlN f (w.drop (i + 1)) (!b)
def wl (w : List Bool) (b : Bool) : Int := wlN w.length w b
/-- the stretch of a row as a word -/
def bl1 (c : Nat) : Bool := decide (c = 114)
/-! ### all words -/
/-! ### two alike neighbours folded into one of the other hand -/
end Pf

namespace Pf
open PySem PySem.Spec PyProof.Rows L2
/-! ### which rows can be folded -/
end Pf

namespace Pf
open PySem PySem.Spec PyProof.Rows L2
/-! ### ways to cut as trees, and the words of hands that they have -/
inductive BT where
  | lf
  | nd (a b : BT)
def BT.sz : BT → Nat
  | .lf => 1
  | .nd a b => a.sz + b.sz
/-- the hands of the leaves in the strip's order, within a part of the hand o -/
def BT.wd : BT → Bool → List Bool
  | .lf, o => [o]
  | .nd a b, o => if o = true then b.wd (!o) ++ a.wd (!o) else a.wd (!o) ++ b.wd (!o)
/-- the lines inside, from the corner s on -/
def BT.ln : BT → Int → List (Int × Int)
  | .lf, _ => []
  | .nd a b, s => (s, s + a.sz) :: (s + a.sz, s + a.sz + b.sz) :: (a.ln s ++ b.ln (s + a.sz))
theorem BT.pos : ∀ t : BT, 1 ≤ t.sz
  | .lf => Nat.le_refl 1
  | .nd a b => by have := a.pos; show 1 ≤ a.sz + b.sz; omega
theorem BT.cut : ∀ (t : BT) (s : Int), CutT s (s + t.sz) (t.ln s)
  | .lf, s => .leaf (by show s + (1 : Nat) - s = 1; omega)
  | .nd a b, s => by
    have h1 := a.pos
    have h2 := b.pos
    have z := CutT.node (s := s) (m := s + a.sz) (e := s + a.sz + b.sz) (by omega) (by omega) (a.cut s) (b.cut (s + a.sz))
    have e : s + ((BT.nd a b).sz : Nat) = s + a.sz + b.sz := by show s + ((a.sz + b.sz : Nat) : Int) = _; omega
    rw [e]; exact z
theorem BT.small : ∀ (t : BT) (s : Int), (t.ln s).length + 2 = 2 * t.sz
  | .lf, s => rfl
  | .nd a b, s => by
    have h1 := a.small s
    have h2 := b.small (s + a.sz)
    show (((s, s + (a.sz : Int)) :: (s + (a.sz : Int), s + a.sz + b.sz) :: (a.ln s ++ b.ln (s + a.sz)) : List (Int × Int)).length) + 2 = 2 * (a.sz + b.sz)
    rw [List.length_cons, List.length_cons, List.length_append]; omega
/-- the stack of a tree, put down -/
theorem ord_wd {p : Plan} (h : isPlanM p = true) {n : Int} (hn : p.1 = n) : ∀ (t : BT) (s e : Int) (o : Bool), 1 ≤ s → e = s + t.sz → e ≤ n → Sub (fun a b => Jn p (a % n) (b % n)) s e (t.ln s) → Jn p s (e % n) →
    (∀ m, Tr p s m (e % n) → hnd p s (e % n) m = !o) → (e = s + 1 → leafH p s = o) → (ordF p s (e % n) (!o)).map (leafH p) = t.wd o
  | .lf, s, e, o, h1, he, hen, _, j, _, hl => by
    have he : e = s + 1 := he
    have hs : 0 ≤ s ∧ s < p.1 := by omega
    have z : look (thirdsM p).l (s, e % n) = none := (look_none h j).mpr (by rw [hn, he])
    have e1 : ordF p s (e % n) (!o) = [s] := by
      show (match look (thirdsM p).l (s, e % n) with | none => [s] | some c => if (!o) = true then ordN p 39 s c (!!o) ++ ordN p 39 c (e % n) (!!o) else ordN p 39 c (e % n) (!!o) ++ ordN p 39 s c (!!o)) = _
      rw [z]
    rw [e1]
    show [leafH p s] = [o]
    rw [hl he]
  | .nd a b, s, e, o, h1, he, hen, hsub, j, hh, _ => by
    have pa := a.pos
    have pb := b.pos
    have he : e = s + a.sz + b.sz := by rw [he]; show s + ((a.sz + b.sz : Nat) : Int) = _; omega
    have hsub : Sub (fun a b => Jn p (a % n) (b % n)) s e ((s, s + a.sz) :: (s + a.sz, e) :: (a.ln s ++ b.ln (s + a.sz))) := by
      have e2 : (BT.nd a b).ln s = (s, s + a.sz) :: (s + a.sz, e) :: (a.ln s ++ b.ln (s + a.sz)) := by rw [he]; rfl
      rw [e2] at hsub; exact hsub
    have ca := a.cut s
    have cb : CutT (s + a.sz) e (b.ln (s + a.sz)) := by rw [he]; exact b.cut (s + a.sz)
    obtain ⟨j1, j2⟩ := Sub.mid hsub (by omega) (by omega)
    have em : (s + (a.sz : Int)) % n = s + a.sz := Int.emod_eq_of_lt (by omega) (by omega)
    have es : s % n = s := Int.emod_eq_of_lt (by omega) (by omega)
    rw [es, em] at j1
    rw [em] at j2
    have cy : Cy s (s + a.sz) (e % n) := by
      by_cases hen2 : e = n
      · rw [hen2, Int.emod_self]; unfold Cy; omega
      · rw [Int.emod_eq_of_lt (by omega) (by omega)]; unfold Cy; omega
    have tr : Tr p s (s + a.sz) (e % n) := ⟨cy, j, j1, j2⟩
    have hm := hh _ tr
    have ta := Sub.left hsub (by omega) (by omega) cb
    have tb := Sub.right hsub (by omega) (by omega) ca
    -- the parts of the two lines on the other side are this one
    have r1 : hnd p s (s + a.sz) (e % n) = !o := by rw [hnd_sw2, hm]
    have r2 : hnd p (s + a.sz) (e % n) s = !o := by rw [hnd_rot, hnd_sw, hm]
    have ha := ord_wd h hn a s (s + a.sz) (!o) h1 rfl (by omega) ta (by rw [em]; exact j1) (fun m t => by
      rw [em] at t ⊢
      have := hnd_flip h t tr.rot
      rw [this, r1]) (fun e3 => by
      obtain ⟨c, x, q⟩ := leaf_part h (k := s) (by omega)
      have e4 : (s + 1) % p.1 = s + a.sz := by rw [hn, ← e3, em]
      rw [e4] at x q
      have := Tr.uniq h x tr.rot
      rw [q, this, hnd_sw, r1])
    have hb := ord_wd h hn b (s + a.sz) e (!o) (by omega) he hen tb j2 (fun m t => by
      have := hnd_flip h t tr.rot.rot
      rw [this, r2]) (fun e3 => by
      obtain ⟨c, x, q⟩ := leaf_part h (k := s + a.sz) (by omega)
      have e4 : (s + (a.sz : Int) + 1) % p.1 = e % n := by rw [hn, ← e3]
      rw [e4] at x q
      have := Tr.uniq h x tr.rot.rot
      rw [q, this, hnd_sw, r2])
    rw [em] at ha
    rw [ordF_step h tr (!o)]
    show _ = (if o = true then b.wd (!o) ++ a.wd (!o) else a.wd (!o) ++ b.wd (!o))
    cases o
    · rw [if_pos (show (!false) = true from rfl), if_neg (show ¬ (false = true) by decide), List.map_append, ha, hb]
    · rw [if_neg (show ¬ ((!true) = true) by decide), if_pos (show true = true from rfl), List.map_append, ha, hb]
/-- the plan of a tree -/
def BT.plan (t : BT) : Plan := planOf ((t.sz : Int) + 1) (t.ln 1)
theorem BT.cut1 (t : BT) : CutT 1 ((t.sz : Int) + 1) (t.ln 1) := by
  have z := t.cut 1
  rw [Int.add_comm] at z; exact z
theorem BT.is_plan {t : BT} (h2 : 2 ≤ t.sz) (h39 : t.sz ≤ 39) : isPlanM t.plan = true := drawn_is_plan t.cut1 (by omega) (by omega)
theorem BT.row {t : BT} (h2 : 2 ≤ t.sz) (h39 : t.sz ≤ 39) : rowL t.plan = (true :: t.wd false).map rl := by
  have hp := BT.is_plan h2 h39
  have hs := sub_p t.cut1 (by omega)
  have j : Jn t.plan 1 (((t.sz : Int) + 1) % ((t.sz : Int) + 1)) := by rw [Int.emod_self]; exact jn_10 hp
  have z := ord_wd hp (n := (t.sz : Int) + 1) rfl t 1 ((t.sz : Int) + 1) false (by omega) (by omega) (by omega) hs j (fun m _ => by
    rw [Int.emod_self, hnd_sw, hnd_root hp]; rfl) (fun e => by omega)
  rw [Int.emod_self] at z
  obtain ⟨c, x, q⟩ := leaf_part hp (k := 0) (by have : t.plan.1 = (t.sz : Int) + 1 := rfl; omega)
  have e1 : ((0 : Int) + 1) % t.plan.1 = 1 := Int.emod_eq_of_lt (by omega) (by have : t.plan.1 = (t.sz : Int) + 1 := rfl; omega)
  have h0 : leafH t.plan 0 = true := by
    rw [e1] at q
    rw [q, hnd_sw, hnd_root hp]
  have e2 : rowL t.plan = ((ordM t.plan).map (leafH t.plan)).map rl := by unfold rowL; rw [List.map_map]; rfl
  rw [e2]
  congr 1
  show (([0] ++ ordF t.plan 1 0 true).map (leafH t.plan)) = _
  rw [List.map_append]
  have z : (ordF t.plan 1 0 true).map (leafH t.plan) = t.wd false := z
  rw [z]
  show [leafH t.plan 0] ++ _ = _
  rw [h0]; rfl
/-! ### the trees of a stretch of a row -/
def twN (l : List Nat) : Nat → Int → Int → Bool → List BT
  | 0, _, _, _ => []
  | f + 1, s, e, b => if e - s = 1 then (if ix l s = rl b then [.lf] else []) else (rng (s + 1) e).flatMap fun m =>
      if b = true then (twN l f m e (!b)).flatMap fun x => (twN l f s m (!b)).map (BT.nd x) else (twN l f s m (!b)).flatMap fun x => (twN l f m e (!b)).map (BT.nd x)
def tw (l : List Nat) (s e : Int) (b : Bool) : List BT := twN l (e - s).toNat s e b
section
variable {l : List Nat} {s e : Int} {b : Bool}
end
/-- the hands of a stretch -/
def hw (l : List Nat) (s e : Int) : List Bool := (rng s e).map fun k => bl1 (ix l k)
end Pf

namespace Pf
open PySem PySem.Spec PyProof.Rows L2
/-! ### corners in the middle, along pinches -/
section
variable {p : Plan}
end
/-! ### what is seen, by copies -/
end Pf

namespace Pf
open PySem PySem.Spec PyProof.Rows L2
/-! ### x in (y, z): data of any depth within a tuple -/
section
variable {X : Cx} {K : Fg}
end
section
variable {α : Type} [Rep α] {σ : L2.St} {G : Hp} {ta tb tc : TE} {K : Fg} {x : α}
end
end Pf

namespace Pf
open PySem PySem.Spec PyProof.Rows L2
/-! ### steps of a road, and tuples that are none -/
inductive Stv where
  | over
  | mv (u o : Bool)
  | bad (k : Fin 7)
  deriving DecidableEq
def wdW (u : Bool) : Str := if u then "unpinch" else sP
def wyW (o : Bool) : Str := if o then sO else sE
def badL : List (List Str) := [["no"], ["pinch"], ["pinch", "left"], ["over", "even"], [], ["pinch", "even", "even"], ["Over"]]
def Stv.l : Stv → List Str
  | .over => ["over"]
  | .mv u o => [wdW u, wyW o]
  | .bad k => badL.getD k.val []
instance : Rep Stv := ⟨fun G v x => rep G v (Tup.mk x.l), fun e h => Rep.mono (α := Tup Str) e h⟩
instance : Inhabited Stv := ⟨.over⟩
def allStv : List Stv := [.over, .mv false false, .mv false true, .mv true false, .mv true true, .bad 0, .bad 1, .bad 2, .bad 3, .bad 4, .bad 5, .bad 6]
theorem stp_all (x : Stv) : x ∈ allStv := by
  cases x with
  | over => decide
  | mv u o => cases u <;> cases o <;> decide
  | bad k => revert k; decide
theorem stp_eq0 : ∀ x ∈ allStv, ∀ y ∈ allStv, PyData.eqv (dat (Tup.mk x.l)) (dat (Tup.mk y.l)) = decide (x = y) := by decide +kernel
theorem stp_lay0 : ∀ x ∈ allStv, (dat (Tup.mk x.l)).canLay0 = true ∧ (dat (Tup.mk x.l)).depth ≤ 1 := by decide +kernel
theorem stp_inj0 : ∀ x ∈ allStv, ∀ y ∈ allStv, x.l = y.l → x = y := by decide +kernel
instance : Dat Stv := ⟨fun x => dat (Tup.mk x.l), fun h => Dat.rd (α := Tup Str) h, fun {x y} h => stp_inj0 x (stp_all x) y (stp_all y) (by have := Dat.inj (α := Tup Str) h; injection this)⟩
instance : DatE Stv := { (inferInstance : Dat Stv) with ok := fun x => (stp_lay0 x (stp_all x)).1, dp := 1, deep := fun x => (stp_lay0 x (stp_all x)).2, eq := fun x y => stp_eq0 x (stp_all x) y (stp_all y) }
/-- the place behind a step, by the plan -/
def stepM (p : Plan) (s : Int × Int) : Stv → Option (Int × Int)
  | .over => some (s.2, s.1)
  | .mv u o => (thW p s (wyW o)).map fun c => behindM s (wdW u) c
  | .bad _ => none
def runM (p : Plan) : Int × Int → List Stv → Option (Int × Int)
  | s, [] => some s
  | s, t :: ts => (stepM p s t).bind fun e => runM p e ts
/-! ### == and in, with a tuple of the module -/
section
variable {σ : L2.St} {G : Hp} {ta : TE} {K : Fg} {d e : PyData} {ds : List PyData} {a : Addr}
end
section
variable {α β γ : Type} [Rep α] [Rep β] [Rep γ]
end
end Pf

namespace Pf
open PySem PySem.Spec PyProof.Rows L2
/-! ### how far a place is from another: parts between them -/
/-- in which of the three stretches beside a part a line lies -/
def arcI (t : T3) (x : Int × Int) : Nat := if t.a ≤ x.1 ∧ x.2 ≤ t.b then 0 else if t.b ≤ x.1 ∧ x.2 ≤ t.c then 1 else 2
def gtI (t : T3) (s : Int × Int) : Nat := arcI t (lawPair s.1 s.2)
def DM (p : Plan) (s o : Int × Int) : Nat := (partsM p).countP fun t => decide (gtI t s ≠ gtI t o)
theorem arc_a {t : T3} (h : t.a < t.b ∧ t.b < t.c) : arcI t (t.a, t.b) = 0 := by unfold arcI; rw [if_pos (by dsimp only; omega)]
theorem arc_b {t : T3} (h : t.a < t.b ∧ t.b < t.c) : arcI t (t.b, t.c) = 1 := by unfold arcI; rw [if_neg (by dsimp only; omega), if_pos (by dsimp only; omega)]
theorem arc_c {t : T3} (h : t.a < t.b ∧ t.b < t.c) : arcI t (t.a, t.c) = 2 := by unfold arcI; rw [if_neg (by dsimp only; omega), if_neg (by dsimp only; omega)]
theorem arc_same {p : Plan} (h : isPlanM p = true) {t o : T3} (m : t ∈ partsM p) (n : o ∈ partsM p) (ne : t ≠ o) : arcI t (o.a, o.b) = arcI t (o.a, o.c) ∧ arcI t (o.b, o.c) = arcI t (o.a, o.c) := by
  obtain ⟨a, b, c⟩ := t
  obtain ⟨a', b', c'⟩ := o
  obtain ⟨k1, k2, k3, k4, k5⟩ := (mem_parts h).mp m
  obtain ⟨l1, l2, l3, l4, l5⟩ := (mem_parts h).mp n
  have ne : ¬ (a = a' ∧ b = b' ∧ c = c') := fun ⟨e1, e2, e3⟩ => ne (by rw [e1, e2, e3])
  have nc : ∀ {x y z w : Int}, Jn p x z → Jn p y w → ¬ (x < y ∧ y < z ∧ z < w) := fun j1 j2 ⟨h1, h2, h3⟩ => no_cross h h1 h2 h3 j1 j2
  have n1 := nc k3 l4; have n2 := nc l4 k3
  have n3 := nc k5 l4; have n4 := nc l4 k5
  have n5 := nc k4 l4; have n6 := nc l4 k4
  have n7 := nc k3 l3; have n8 := nc l3 k3
  have n9 := nc k3 l5; have n10 := nc l5 k3
  have n11 := nc k5 l3; have n12 := nc l3 k5
  have n13 := nc k5 l5; have n14 := nc l5 k5
  have n15 := nc k4 l3; have n16 := nc l3 k4
  have n17 := nc k4 l5; have n18 := nc l5 k4
  unfold arcI
  dsimp only
  by_cases c0 : a ≤ a' ∧ c' ≤ b
  · rw [if_pos (by omega), if_pos (by omega), if_pos (by omega)]; exact ⟨rfl, rfl⟩
  by_cases c1 : b ≤ a' ∧ c' ≤ c
  · rw [if_neg (by omega), if_pos (by omega), if_neg c0, if_pos c1, if_neg (by omega), if_pos (by omega)]; exact ⟨rfl, rfl⟩
  rw [if_neg c0, if_neg c1]
  have a0 : ¬ (a ≤ a' ∧ b' ≤ b) := fun z => by
    have e1 : a' = a := by clear n2 n3 n4 n5 n6 n7 n8 n9 n10 n11 n12 n13 n14 n15 n16 n17 n18; omega
    have e2 : b' = b := by clear n2 n3 n4 n5 n6 n7 n8 n10 n11 n12 n13 n14 n15 n16 n17 n18; omega
    clear n1 n2 n7 n8 n9 n10 n11 n12 n13 n14 n15 n16; omega
  have a1 : ¬ (b ≤ a' ∧ b' ≤ c) := fun z => by
    have e1 : a' = b := by clear n1 n2 n4 n5 n6 n7 n8 n9 n10 n11 n12 n13 n14 n15 n16 n17 n18; omega
    have e2 : b' = c := by clear n1 n2 n3 n4 n5 n6 n7 n8 n9 n10 n11 n12 n14 n15 n16 n17 n18; omega
    clear n1 n2 n7 n8 n9 n10 n11 n12 n13 n14 n15 n16; omega
  have b0 : ¬ (a ≤ b' ∧ c' ≤ b) := fun z => by
    have e1 : c' = b := by clear n1 n3 n4 n5 n6 n7 n8 n9 n10 n11 n12 n13 n14 n15 n16 n17 n18; omega
    have e2 : b' = a := by clear n1 n2 n3 n4 n5 n6 n7 n9 n10 n11 n12 n13 n14 n15 n16 n17 n18; omega
    clear n1 n2 n3 n4 n7 n8 n9 n10 n11 n12 n13 n14 n15 n16; omega
  have b1 : ¬ (b ≤ b' ∧ c' ≤ c) := fun z => by
    have e1 : c' = c := by clear n1 n2 n3 n5 n6 n7 n8 n9 n10 n11 n12 n13 n14 n15 n16 n17 n18; omega
    have e2 : b' = b := by clear n1 n2 n3 n4 n5 n6 n7 n8 n9 n10 n11 n13 n14 n15 n16 n17 n18; omega
    clear n2 n3 n4 n7 n9 n10 n11 n12 n13 n14 n17 n18; omega
  rw [if_neg a0, if_neg a1, if_neg b0, if_neg b1]; exact ⟨rfl, rfl⟩
theorem lp_mem {t : T3} (h : t.a < t.b ∧ t.b < t.c) {x y : Int} (hx : x ∈ el t) (hy : y ∈ el t) (ne : x ≠ y) : lawPair x y = (t.a, t.b) ∨ lawPair x y = (t.b, t.c) ∨ lawPair x y = (t.a, t.c) := by
  obtain ⟨a, b, c⟩ := t
  have hx : x = a ∨ x = b ∨ x = c := by simpa [el] using hx
  have hy : y = a ∨ y = b ∨ y = c := by simpa [el] using hy
  dsimp only at h ⊢
  rcases lp_cases x y with ⟨e, z⟩ | ⟨e, z⟩ <;> rw [e] <;> rcases hx with rfl | rfl | rfl <;> rcases hy with rfl | rfl | rfl <;> first | (exact absurd rfl ne) | (exact .inl rfl) | (exact .inr (.inl rfl)) | (exact .inr (.inr rfl)) | (exfalso; omega)
theorem gt_other {p : Plan} (h : isPlanM p = true) {t o : T3} (m : t ∈ partsM p) (n : o ∈ partsM p) (ne : t ≠ o) {x y z w : Int} (hx : x ∈ el o) (hy : y ∈ el o) (n1 : x ≠ y) (hz : z ∈ el o) (hw : w ∈ el o) (n2 : z ≠ w) : gtI t (x, y) = gtI t (z, w) := by
  have ho := part_tr h n
  obtain ⟨e1, e2⟩ := arc_same h m n ne
  have key : ∀ {x y : Int}, x ∈ el o → y ∈ el o → x ≠ y → gtI t (x, y) = arcI t (o.a, o.c) := fun {x y} hx hy ne => by
    unfold gtI
    rcases lp_mem ⟨ho.1, ho.2.1⟩ hx hy ne with e | e | e <;> dsimp only <;> rw [e]
    · exact e1
    · exact e2
  rw [key hx hy n1, key hz hw n2]
/-- within a part lines are told by their stretches -/
theorem gt_inj {p : Plan} (h : isPlanM p = true) {t : T3} (m : t ∈ partsM p) {x y z w : Int} (hx : x ∈ el t) (hy : y ∈ el t) (n1 : x ≠ y) (hz : z ∈ el t) (hw : w ∈ el t) (n2 : z ≠ w) (e : gtI t (x, y) = gtI t (z, w)) : lawPair x y = lawPair z w := by
  have ho := part_tr h m
  have ho : t.a < t.b ∧ t.b < t.c := ⟨ho.1, ho.2.1⟩
  unfold gtI at e
  rcases lp_mem ho hx hy n1 with e1 | e1 | e1 <;> rcases lp_mem ho hz hw n2 with e2 | e2 | e2 <;> rw [e1, e2] <;> dsimp only at e <;> rw [e1, e2] at e <;>
    first
    | rfl
    | (rw [arc_a ho, arc_b ho] at e; cases e)
    | (rw [arc_a ho, arc_c ho] at e; cases e)
    | (rw [arc_b ho, arc_a ho] at e; cases e)
    | (rw [arc_b ho, arc_c ho] at e; cases e)
    | (rw [arc_c ho, arc_a ho] at e; cases e)
    | (rw [arc_c ho, arc_b ho] at e; cases e)
theorem cnt_one {α : Type} {L : List α} (nd : L.Nodup) {a : α} (ha : a ∈ L) {f g : α → Bool} (h : ∀ x ∈ L, x ≠ a → f x = g x) : L.countP f + (if g a = true then 1 else 0) = L.countP g + (if f a = true then 1 else 0) := by
  induction L with
  | nil => cases ha
  | cons b L ih =>
    have nd' := List.nodup_cons.mp nd
    rw [List.countP_cons, List.countP_cons]
    rcases List.mem_cons.mp ha with rfl | ha'
    · have e : L.countP f = L.countP g := List.countP_congr fun x hx => by rw [h x (List.mem_cons_of_mem _ hx) (fun z => nd'.1 (z ▸ hx))]
      rw [e]; omega
    · have e := h b List.mem_cons_self (fun z => nd'.1 (z ▸ ha'))
      have := ih nd'.2 ha' (fun x hx => h x (List.mem_cons_of_mem _ hx))
      rw [e]; omega
theorem parts_nodup {p : Plan} (h : isPlanM p = true) : (partsM p).Nodup := (parts_up h).imp fun {a b} z e => by
  subst e; unfold lt3 at z; omega
/-! ### one step -/
structure Edge (p : Plan) (x e : Int × Int) (t : T3) : Prop where
  m : t ∈ partsM p
  x1 : x.1 ∈ el t
  x2 : x.2 ∈ el t
  xn : x.1 ≠ x.2
  e1 : e.1 ∈ el t
  e2 : e.2 ∈ el t
  en : e.1 ≠ e.2
  ne : gtI t x ≠ gtI t e
theorem edge_D {p : Plan} (h : isPlanM p = true) {x e : Int × Int} {t : T3} (E : Edge p x e t) (s : Int × Int) : DM p s x + (if gtI t s ≠ gtI t e then 1 else 0) = DM p s e + (if gtI t s ≠ gtI t x then 1 else 0) := by
  have z := cnt_one (parts_nodup h) E.m (f := fun t => decide (gtI t s ≠ gtI t x)) (g := fun t => decide (gtI t s ≠ gtI t e)) (fun t2 m2 ne => by
    have : gtI t2 x = gtI t2 e := gt_other h m2 E.m ne E.x1 E.x2 E.xn E.e1 E.e2 E.en
    rw [this])
  simp only [decide_eq_true_eq] at z
  exact z
theorem step_edge {p : Plan} (h : isPlanM p = true) {x e : Int × Int} (j : Jn p x.1 x.2) {u o : Bool} (g : stepM p x (.mv u o) = some e) :
    Jn p e.1 e.2 ∧ upM p e.1 e.2 = upM p x.1 x.2 ∧ stepM p e (.mv (!u) o) = some x ∧ ∃ t c, Edge p x e t ∧ thW p x (wyW o) = some c ∧ c ∈ el t ∧ e = behindM x (wdW u) c := by
  obtain ⟨c, hc, rfl⟩ := Option.map_eq_some_iff.mp g
  have P := pin_of h j hc
  have up := up_pinch h (t := x.1) (u := x.2) (wyW o) j hc
  have jx := j.ne h
  obtain ⟨t, m, mem⟩ : ∃ t ∈ partsM p, ∀ y, y ∈ el t ↔ y = x.1 ∨ y = x.2 ∨ y = c := by
    rcases (th_some h j).mp hc with ⟨_, y⟩ | ⟨_, y⟩
    · obtain ⟨t, m, _, _, k⟩ := tr_part h y
      exact ⟨t, m, fun y => by rw [k]; omega⟩
    · obtain ⟨t, m, _, _, k⟩ := tr_part h y
      exact ⟨t, m, fun y => by rw [k]; omega⟩
  have hcm : c ∈ el t := (mem c).mpr (.inr (.inr rfl))
  have h1 : x.1 ∈ el t := (mem _).mpr (.inl rfl)
  have h2 : x.2 ∈ el t := (mem _).mpr (.inr (.inl rfl))
  cases u
  · have eb : behindM x (wdW false) c = (c, x.1) := by unfold behindM; rw [if_pos (by decide)]
    rw [eb]
    refine ⟨P.j1, up.1, ?_, t, c, ⟨m, h1, h2, by omega, hcm, h1, P.ne.1, fun z => ?_⟩, hc, hcm, rfl⟩
    · show (thW p (c, x.1) (wyW o)).map _ = _
      rw [P.t1]
      show some (behindM (c, x.1) (wdW true) x.2) = some x
      unfold behindM
      rw [if_neg (by decide)]
    · have z2 := gt_inj h m h1 h2 (by omega) hcm h1 P.ne.1 z
      exact absurd z2 (lp_ne (by have := P.ne; omega) (by have := P.ne; omega))
  · have eb : behindM x (wdW true) c = (x.2, c) := by unfold behindM; rw [if_neg (by decide)]
    rw [eb]
    refine ⟨P.j2, up.2, ?_, t, c, ⟨m, h1, h2, by omega, h2, hcm, fun z => P.ne.2 z.symm, fun z => ?_⟩, hc, hcm, rfl⟩
    · show (thW p (x.2, c) (wyW o)).map _ = _
      rw [P.t2]
      show some (behindM (x.2, c) (wdW false) x.1) = some x
      unfold behindM
      rw [if_pos (by decide)]
    · have z2 := gt_inj h m h1 h2 (by omega) h2 hcm (fun z => P.ne.2 z.symm) z
      exact absurd z2 (lp_ne (by have := P.ne; omega) (by have := P.ne; omega))
theorem step_near {p : Plan} (h : isPlanM p = true) {x e : Int × Int} (j : Jn p x.1 x.2) {u o : Bool} (g : stepM p x (.mv u o) = some e) (s : Int × Int) : DM p s e ≤ DM p s x + 1 ∧ DM p s x ≤ DM p s e + 1 := by
  obtain ⟨_, _, _, t, c, E, _⟩ := step_edge h j g
  have z := edge_D h E s
  split at z <;> split at z <;> omega
theorem same_place {p : Plan} (h : isPlanM p = true) {x e : Int × Int} (jx : Jn p x.1 x.2) (je : Jn p e.1 e.2) (up : upM p e.1 e.2 = upM p x.1 x.2) (l : lawPair e.1 e.2 = lawPair x.1 x.2) : e = x := by
  obtain ⟨x1, x2⟩ := x
  obtain ⟨e1, e2⟩ := e
  have nx := jx.ne h
  dsimp only at *
  rcases lp_cases x1 x2 with ⟨z1, _⟩ | ⟨z1, _⟩ <;> rcases lp_cases e1 e2 with ⟨z2, _⟩ | ⟨z2, _⟩ <;> rw [z1, z2] at l <;> injection l with l1 l2 <;> subst l1 <;> subst l2
  · rfl
  · rw [up_sw h jx] at up; cases hb : upM p e2 e1 <;> rw [hb] at up <;> cases up
  · rw [up_sw h jx] at up; cases hb : upM p e2 e1 <;> rw [hb] at up <;> cases up
  · rfl
theorem lp_up {p : Plan} (h : isPlanM p = true) {s : Int × Int} (j : Jn p s.1 s.2) : (lawPair s.1 s.2).1 < (lawPair s.1 s.2).2 := by
  have := j.ne h
  rcases lp_cases s.1 s.2 with ⟨e, _⟩ | ⟨e, _⟩ <;> rw [e] <;> dsimp only <;> omega
/-- some neighbour is nearer -/
theorem near_ex {p : Plan} (h : isPlanM p = true) {s x : Int × Int} (js : Jn p s.1 s.2) (j : Jn p x.1 x.2) (d : 0 < DM p s x) : ∃ u o e, stepM p x (.mv u o) = some e ∧ DM p s e + 1 = DM p s x := by
  have hne : lawPair s.1 s.2 ≠ lawPair x.1 x.2 := fun z => by
    have : DM p s x = 0 := by
      unfold DM
      rw [List.countP_eq_zero]
      intro t _ w
      have w := of_decide_eq_true w
      apply w; unfold gtI; rw [z]
    omega
  have jl : Jn p (lawPair x.1 x.2).1 (lawPair x.1 x.2).2 := by
    rcases lp_cases x.1 x.2 with ⟨e, _⟩ | ⟨e, _⟩ <;> rw [e]
    · exact j
    · exact j.sym
  have jm : Jn p (lawPair s.1 s.2).1 (lawPair s.1 s.2).2 := by
    rcases lp_cases s.1 s.2 with ⟨e, _⟩ | ⟨e, _⟩ <;> rw [e]
    · exact js
    · exact js.sym
  have ul := lp_up h j
  have um := lp_up h js
  have nl := jl.ne h
  have nm := jm.ne h
  have nc : ∀ {x y z w : Int}, Jn p x z → Jn p y w → ¬ (x < y ∧ y < z ∧ z < w) := fun j1 j2 ⟨h1, h2, h3⟩ => no_cross h h1 h2 h3 j1 j2
  have hx : x = lawPair x.1 x.2 ∨ x = ((lawPair x.1 x.2).2, (lawPair x.1 x.2).1) := by
    rcases lp_cases x.1 x.2 with ⟨e, _⟩ | ⟨e, _⟩ <;> rw [e]
    · exact .inl rfl
    · exact .inr rfl
  -- the part on the side of s
  have key : ∃ t c, t ∈ partsM p ∧ (Tr p (lawPair x.1 x.2).1 c (lawPair x.1 x.2).2 ∨ Tr p (lawPair x.1 x.2).2 c (lawPair x.1 x.2).1) ∧ (∀ y, y ∈ el t ↔ y = (lawPair x.1 x.2).1 ∨ y = (lawPair x.1 x.2).2 ∨ y = c) ∧ gtI t s ≠ gtI t x := by
    have eg : ∀ t, gtI t x = arcI t (lawPair x.1 x.2) := fun _ => rfl
    have es : ∀ t, gtI t s = arcI t (lawPair s.1 s.2) := fun _ => rfl
    simp only [eg, es]
    generalize lawPair x.1 x.2 = l at *
    generalize lawPair s.1 s.2 = m at *
    have hne2 : ¬ (m.1 = l.1 ∧ m.2 = l.2) := fun ⟨a, b⟩ => hne (Prod.ext a b)
    by_cases ins : l.1 ≤ m.1 ∧ m.2 ≤ l.2
    · obtain ⟨c, t⟩ := tr_ex h jl (by omega)
      have hc : l.1 < c ∧ c < l.2 := by have := t.cy; unfold Cy at this; omega
      have mt : (⟨l.1, c, l.2⟩ : T3) ∈ partsM p := (mem_parts h).mpr ⟨hc.1, hc.2, t.sv, t.se, t.ve⟩
      refine ⟨_, c, mt, .inl t, fun y => by simp [el]; omega, ?_⟩
      rw [show arcI ⟨l.1, c, l.2⟩ l = 2 from arc_c (t := ⟨l.1, c, l.2⟩) hc]
      unfold arcI
      dsimp only
      have n1 := nc t.sv jm
      have n2 := nc jm t.ve
      split
      · decide
      · split
        · decide
        · exfalso; omega
    · obtain ⟨c, t⟩ := tr_ex h jl.sym (by omega)
      have hc : l.2 < c ∨ c < l.1 := by have := t.cy; unfold Cy at this; omega
      rcases hc with hc | hc
      · have mt : (⟨l.1, l.2, c⟩ : T3) ∈ partsM p := (mem_parts h).mpr ⟨ul, hc, t.se.sym, t.ve.sym, t.sv⟩
        refine ⟨_, c, mt, .inr t, fun y => by simp [el], ?_⟩
        rw [show arcI ⟨l.1, l.2, c⟩ l = 0 from arc_a (t := ⟨l.1, l.2, c⟩) ⟨ul, hc⟩]
        unfold arcI
        dsimp only
        rw [if_neg ins]
        split <;> decide
      · have mt : (⟨c, l.1, l.2⟩ : T3) ∈ partsM p := (mem_parts h).mpr ⟨hc, ul, t.ve, t.sv.sym, t.se.sym⟩
        refine ⟨_, c, mt, .inr t, fun y => by simp [el]; omega, ?_⟩
        rw [show arcI ⟨c, l.1, l.2⟩ l = 1 from arc_b (t := ⟨c, l.1, l.2⟩) ⟨hc, ul⟩]
        unfold arcI
        dsimp only
        rw [if_neg (c := l.1 ≤ m.1 ∧ m.2 ≤ l.2) ins]
        split <;> decide
  obtain ⟨t, c, mt, tr, mem, ne⟩ := key
  have o1 := part_tr h mt
  obtain ⟨o, ho⟩ : ∃ o, thW p x (wyW o) = some c := by
    rcases hx with e | e
    · rcases tr with tr | tr
      · refine ⟨false, (th_some h j).mpr (.inl ⟨rfl, ?_⟩)⟩; rw [e]; exact tr
      · refine ⟨true, (th_some h j).mpr (.inr ⟨by decide, ?_⟩)⟩; rw [e]; exact tr
    · rcases tr with tr | tr
      · refine ⟨true, (th_some h j).mpr (.inr ⟨by decide, ?_⟩)⟩; rw [e]; exact tr
      · refine ⟨false, (th_some h j).mpr (.inl ⟨rfl, ?_⟩)⟩; rw [e]; exact tr
  have P := pin_of h j ho
  have nx := j.ne h
  have h1 : x.1 ∈ el t := (mem _).mpr (by rcases hx with e | e <;> (have f1 := congrArg Prod.fst e; have f2 := congrArg Prod.snd e; (try dsimp only at f1 f2); omega))
  have h2 : x.2 ∈ el t := (mem _).mpr (by rcases hx with e | e <;> (have f1 := congrArg Prod.fst e; have f2 := congrArg Prod.snd e; (try dsimp only at f1 f2); omega))
  have hc : c ∈ el t := (mem _).mpr (.inr (.inr rfl))
  have fin : ∀ e : Int × Int, e.1 ∈ el t → e.2 ∈ el t → e.1 ≠ e.2 → gtI t s = gtI t e → DM p s e + 1 = DM p s x := fun e m1 m2 n1 q => by
    have E : Edge p x e t := ⟨mt, h1, h2, by omega, m1, m2, n1, fun z => ne (q.trans z.symm)⟩
    have z := edge_D h E s
    rw [if_neg (fun k => k q), if_pos ne] at z
    omega
  -- s lies at one of the other two lines
  have g3 : gtI t s = 0 ∨ gtI t s = 1 ∨ gtI t s = 2 := by
    unfold gtI arcI; split
    · exact .inl rfl
    · split
      · exact .inr (.inl rfl)
      · exact .inr (.inr rfl)
  have val : ∀ {a b : Int}, a ∈ el t → b ∈ el t → a ≠ b → gtI t (a, b) = 0 ∨ gtI t (a, b) = 1 ∨ gtI t (a, b) = 2 := fun {a b} _ _ _ => by
    unfold gtI arcI; split
    · exact .inl rfl
    · split
      · exact .inr (.inl rfl)
      · exact .inr (.inr rfl)
  have d1 : gtI t (c, x.1) ≠ gtI t x := fun z => absurd (gt_inj h mt hc h1 P.ne.1 h1 h2 (by omega) z) (lp_ne (by have := P.ne; omega) (by have := P.ne; omega))
  have d2 : gtI t (x.2, c) ≠ gtI t x := fun z => absurd (gt_inj h mt h2 hc (fun z => P.ne.2 z.symm) h1 h2 (by omega) z) (lp_ne (by have := P.ne; omega) (by have := P.ne; omega))
  have d3 : gtI t (c, x.1) ≠ gtI t (x.2, c) := fun z => absurd (gt_inj h mt hc h1 P.ne.1 h2 hc (fun z => P.ne.2 z.symm) z) (lp_ne (by have := P.ne; omega) (by have := P.ne; omega))
  have v1 := val hc h1 P.ne.1
  have v2 := val h2 hc (fun z => P.ne.2 z.symm)
  have v3 : gtI t x = 0 ∨ gtI t x = 1 ∨ gtI t x = 2 := val h1 h2 (by omega)
  by_cases w : gtI t s = gtI t (c, x.1)
  · refine ⟨false, o, (c, x.1), ?_, fin _ hc h1 P.ne.1 w⟩
    show (thW p x (wyW o)).map _ = _
    rw [ho]
    show some (behindM x (wdW false) c) = _
    unfold behindM; rw [if_pos (by decide)]
  · refine ⟨true, o, (x.2, c), ?_, fin _ h2 hc (fun z => P.ne.2 z.symm) (by omega)⟩
    show (thW p x (wyW o)).map _ = _
    rw [ho]
    show some (behindM x (wdW true) c) = _
    unfold behindM; rw [if_neg (by decide)]
theorem D_self (p : Plan) (s : Int × Int) : DM p s s = 0 := by
  unfold DM; rw [List.countP_eq_zero]; intro t _ w; exact of_decide_eq_true w rfl
/-- no part between: the same line -/
theorem D_zero {p : Plan} (h : isPlanM p = true) {s x : Int × Int} (js : Jn p s.1 s.2) (j : Jn p x.1 x.2) (up : upM p x.1 x.2 = upM p s.1 s.2) (d : DM p s x = 0) : x = s := by
  apply same_place h js j up
  apply Classical.byContradiction
  intro hne
  have key : ∃ t ∈ partsM p, gtI t s ≠ gtI t x := by
    by_cases z : ∃ t ∈ partsM p, gtI t s ≠ gtI t x
    · exact z
    exfalso
    have jl : Jn p (lawPair x.1 x.2).1 (lawPair x.1 x.2).2 := by
      rcases lp_cases x.1 x.2 with ⟨e, _⟩ | ⟨e, _⟩ <;> rw [e]
      · exact j
      · exact j.sym
    have jm : Jn p (lawPair s.1 s.2).1 (lawPair s.1 s.2).2 := by
      rcases lp_cases s.1 s.2 with ⟨e, _⟩ | ⟨e, _⟩ <;> rw [e]
      · exact js
      · exact js.sym
    have ul := lp_up h j
    have um := lp_up h js
    have nl := jl.ne h
    have nm := jm.ne h
    have nc : ∀ {x y z w : Int}, Jn p x z → Jn p y w → ¬ (x < y ∧ y < z ∧ z < w) := fun j1 j2 ⟨h1, h2, h3⟩ => no_cross h h1 h2 h3 j1 j2
    apply z
    have eg : ∀ t, gtI t x = arcI t (lawPair x.1 x.2) := fun _ => rfl
    have es : ∀ t, gtI t s = arcI t (lawPair s.1 s.2) := fun _ => rfl
    simp only [eg, es]
    generalize lawPair x.1 x.2 = l at *
    generalize lawPair s.1 s.2 = m at *
    have hne2 : ¬ (m.1 = l.1 ∧ m.2 = l.2) := fun ⟨a, b⟩ => hne (Prod.ext a.symm b.symm)
    by_cases ins : l.1 ≤ m.1 ∧ m.2 ≤ l.2
    · obtain ⟨c, t⟩ := tr_ex h jl (by omega)
      have hc : l.1 < c ∧ c < l.2 := by have := t.cy; unfold Cy at this; omega
      refine ⟨⟨l.1, c, l.2⟩, (mem_parts h).mpr ⟨hc.1, hc.2, t.sv, t.se, t.ve⟩, ?_⟩
      rw [show arcI ⟨l.1, c, l.2⟩ l = 2 from arc_c (t := ⟨l.1, c, l.2⟩) hc]
      unfold arcI
      dsimp only
      have n1 := nc t.sv jm
      have n2 := nc jm t.ve
      split
      · decide
      · split
        · decide
        · exfalso; omega
    · obtain ⟨c, t⟩ := tr_ex h jl.sym (by omega)
      have hc : l.2 < c ∨ c < l.1 := by have := t.cy; unfold Cy at this; omega
      rcases hc with hc | hc
      · refine ⟨⟨l.1, l.2, c⟩, (mem_parts h).mpr ⟨ul, hc, t.se.sym, t.ve.sym, t.sv⟩, ?_⟩
        rw [show arcI ⟨l.1, l.2, c⟩ l = 0 from arc_a (t := ⟨l.1, l.2, c⟩) ⟨ul, hc⟩]
        unfold arcI
        dsimp only
        rw [if_neg ins]
        split <;> decide
      · refine ⟨⟨c, l.1, l.2⟩, (mem_parts h).mpr ⟨hc, ul, t.ve, t.sv.sym, t.se.sym⟩, ?_⟩
        rw [show arcI ⟨c, l.1, l.2⟩ l = 1 from arc_b (t := ⟨c, l.1, l.2⟩) ⟨hc, ul⟩]
        unfold arcI
        dsimp only
        rw [if_neg (c := l.1 ≤ m.1 ∧ m.2 ≤ l.2) ins]
        split <;> decide
  obtain ⟨t, mt, ne⟩ := key
  unfold DM at d
  rw [List.countP_eq_zero] at d
  exact d t mt (decide_eq_true ne)
end Pf

namespace Pf
open PySem PySem.Spec PyProof.Rows L2
/-! ### going out over all places, and the one shortest road -/
abbrev Pl := Int × Int
theorem nodup_one {α : Type} (x : α) : [x].Nodup := by simp
structure Bfs (p : Plan) (s : Pl) (row : List Pl) (m : Nat) (cur : List Pl) : Prop where
  nd : row.Nodup
  jn : ∀ x ∈ row, Jn p x.1 x.2 ∧ upM p x.1 x.2 = upM p s.1 s.2
  hd : row[0]? = some s
  up : ∀ (i j : Nat) (x y : Pl), i ≤ j → row[i]? = some x → row[j]? = some y → DM p s x ≤ DM p s y
  par : ∀ (j : Nat) (x : Pl), 0 < j → row[j]? = some x → ∃ i y u o, row[i]? = some y ∧ (i < m ∨ (i = m ∧ x ∈ cur)) ∧ stepM p y (.mv u o) = some x ∧ DM p s y + 1 = DM p s x
  dn : ∀ (i : Nat) (x : Pl) (u o : Bool) (e : Pl), i < m → row[i]? = some x → stepM p x (.mv u o) = some e → e ∈ row
  cu : ∀ e ∈ cur, e ∈ row
section
variable {p : Plan} {s : Pl} {row cur : List Pl} {m : Nat}
theorem Bfs.init (js : Jn p s.1 s.2) : Bfs p s [s] 0 [] where
  nd := nodup_one s
  jn := fun x hx => by rw [List.mem_singleton.mp hx]; exact ⟨js, rfl⟩
  hd := rfl
  up := fun i j x y _ h1 h2 => by
    have e1 := List.mem_of_getElem? h1
    have e2 := List.mem_of_getElem? h2
    rw [List.mem_singleton.mp e1, List.mem_singleton.mp e2]; exact Nat.le_refl _
  par := fun j x h0 h1 => by
    have := (List.getElem?_eq_some_iff.mp h1).1
    rw [List.length_singleton] at this; omega
  dn := fun i x u o e hi _ _ => by omega
  cu := fun e he => by cases he
theorem Bfs.s_in (B : Bfs p s row m cur) : s ∈ row := List.mem_of_getElem? B.hd
theorem Bfs.js (B : Bfs p s row m cur) : Jn p s.1 s.2 := (B.jn s B.s_in).1
/-- all that is as near as the one in turn is met -/
theorem Bfs.level (h : isPlanM p = true) (B : Bfs p s row m cur) {x : Pl} (hx : row[m]? = some x) : ∀ (k : Nat) (y : Pl), DM p s y ≤ k → Jn p y.1 y.2 → upM p y.1 y.2 = upM p s.1 s.2 → DM p s y ≤ DM p s x → y ∈ row
  | 0, y, hk, j, u, _ => by
    rw [D_zero h B.js j u (by omega)]; exact B.s_in
  | k + 1, y, hk, j, u, hd => by
    by_cases z : DM p s y = 0
    · rw [D_zero h B.js j u z]; exact B.s_in
    obtain ⟨a, b, e, g, de⟩ := near_ex h B.js j (by omega)
    obtain ⟨je, ue, inv, _⟩ := step_edge h j g
    have ie := B.level h hx k e (by omega) je (ue.trans u) (by omega)
    obtain ⟨i, hi⟩ := List.mem_iff_getElem?.mp ie
    have him : i < m := by
      apply Classical.byContradiction
      intro w
      have := B.up m i x e (by omega) hx hi
      omega
    exact B.dn i e _ _ y him hi inv
theorem Bfs.near (B : Bfs p s row m cur) {x : Pl} (hx : row[m]? = some x) {y : Pl} (hy : y ∈ row) : DM p s y ≤ DM p s x + 1 := by
  obtain ⟨j, hj⟩ := List.mem_iff_getElem?.mp hy
  by_cases h0 : j = 0
  · subst h0
    rw [B.hd] at hj; cases hj
    rw [D_self]; omega
  obtain ⟨i, z, u, o, hi, hc, _, d⟩ := B.par j y (by omega) hj
  have := B.up i m z x (by omega) hi hx
  omega
theorem Bfs.far (h : isPlanM p = true) (B : Bfs p s row m cur) {x e : Pl} (hx : row[m]? = some x) {u o : Bool} (g : stepM p x (.mv u o) = some e) (ne : e ∉ row) : DM p s x + 1 = DM p s e := by
  obtain ⟨jx, ux⟩ := B.jn x (List.mem_of_getElem? hx)
  obtain ⟨je, ue, _⟩ := step_edge h jx g
  have n := step_near h jx g s
  apply Classical.byContradiction
  intro w
  exact ne (B.level h hx _ e (Nat.le_refl _) je (ue.trans ux) (by omega))
theorem Bfs.new (h : isPlanM p = true) (B : Bfs p s row m cur) {x e : Pl} (hx : row[m]? = some x) {u o : Bool} (g : stepM p x (.mv u o) = some e) (ne : e ∉ row) : Bfs p s (row ++ [e]) m (cur ++ [e]) := by
  have d := B.far h hx g ne
  obtain ⟨jx, ux⟩ := B.jn x (List.mem_of_getElem? hx)
  obtain ⟨je, ue, _⟩ := step_edge h jx g
  have hm : m < row.length := (List.getElem?_eq_some_iff.mp hx).1
  have at_ : ∀ {i : Nat} {y : Pl}, (row ++ [e])[i]? = some y → row[i]? = some y ∨ (i = row.length ∧ y = e) := fun {i y} z => by
    by_cases hi : i < row.length
    · rw [List.getElem?_append_left hi] at z; exact .inl z
    · rw [List.getElem?_append_right (by omega)] at z
      have := (List.getElem?_eq_some_iff.mp z).1
      rw [List.length_singleton] at this
      have hi2 : i = row.length := by omega
      subst hi2
      rw [Nat.sub_self] at z; cases z
      exact .inr ⟨rfl, rfl⟩
  have up_ : ∀ {i : Nat} {y : Pl}, row[i]? = some y → (row ++ [e])[i]? = some y := fun {i y} z => by
    rw [List.getElem?_append_left (List.getElem?_eq_some_iff.mp z).1]; exact z
  refine ⟨?_, ?_, up_ B.hd, ?_, ?_, ?_, ?_⟩
  · rw [List.nodup_append]
    exact ⟨B.nd, nodup_one e, fun a ha b hb z => ne (by rw [List.mem_singleton.mp hb] at z; rwa [← z])⟩
  · intro y hy
    rcases List.mem_append.mp hy with hy | hy
    · exact B.jn y hy
    · rw [List.mem_singleton.mp hy]; exact ⟨je, ue.trans ux⟩
  · intro i j y z hij h1 h2
    rcases at_ h1 with h1 | ⟨h1, k1⟩ <;> rcases at_ h2 with h2 | ⟨h2, k2⟩
    · exact B.up i j y z hij h1 h2
    · have := B.near hx (List.mem_of_getElem? h1); rw [k2]; omega
    · have := (List.getElem?_eq_some_iff.mp h2).1; omega
    · rw [k1, k2]; exact Nat.le_refl _
  · intro j y h0 h1
    rcases at_ h1 with h1 | ⟨h1, rfl⟩
    · obtain ⟨i, z, a, b, k1, k2, k3, k4⟩ := B.par j y h0 h1
      exact ⟨i, z, a, b, up_ k1, k2.imp id fun w => ⟨w.1, List.mem_append_left _ w.2⟩, k3, k4⟩
    · exact ⟨m, x, u, o, up_ hx, .inr ⟨rfl, List.mem_append_right _ (List.mem_singleton.mpr rfl)⟩, g, d⟩
  · intro i y a b z hi h1 h2
    rcases at_ h1 with h1 | ⟨h1, _⟩
    · exact List.mem_append_left _ (B.dn i y a b z hi h1 h2)
    · omega
  · intro z hz
    rcases List.mem_append.mp hz with hz | hz
    · exact List.mem_append_left _ (B.cu z hz)
    · exact List.mem_append_right _ hz
theorem Bfs.old (B : Bfs p s row m cur) {e : Pl} (he : e ∈ row) : Bfs p s row m (cur ++ [e]) :=
  ⟨B.nd, B.jn, B.hd, B.up, fun j x h0 h1 => by
    obtain ⟨i, z, a, b, k1, k2, k3, k4⟩ := B.par j x h0 h1
    exact ⟨i, z, a, b, k1, k2.imp id fun w => ⟨w.1, List.mem_append_left _ w.2⟩, k3, k4⟩, B.dn, fun z hz => by
    rcases List.mem_append.mp hz with hz | hz
    · exact B.cu z hz
    · rw [List.mem_singleton.mp hz]; exact he⟩
theorem Bfs.next (B : Bfs p s row m cur) {x : Pl} (hx : row[m]? = some x) (all : ∀ u o e, stepM p x (.mv u o) = some e → e ∈ cur) : Bfs p s row (m + 1) [] :=
  ⟨B.nd, B.jn, B.hd, B.up, fun j y h0 h1 => by
    obtain ⟨i, z, a, b, k1, k2, k3, k4⟩ := B.par j y h0 h1
    exact ⟨i, z, a, b, k1, .inl (by omega), k3, k4⟩, fun i y u o e hi h1 g => by
    by_cases z : i < m
    · exact B.dn i y u o e z h1 g
    · have : i = m := by omega
      subst this
      rw [hx] at h1; cases h1
      exact B.cu e (all u o e g), fun e he => by cases he⟩
/-- all places that lie as the first one -/
def Full (p : Plan) (s : Pl) (row : List Pl) : Prop := row.Nodup ∧ ∀ x : Pl, x ∈ row ↔ Jn p x.1 x.2 ∧ upM p x.1 x.2 = upM p s.1 s.2
theorem Bfs.full (h : isPlanM p = true) (B : Bfs p s row row.length cur) : Full p s row := by
  refine ⟨B.nd, fun x => ⟨B.jn x, fun ⟨j, u⟩ => ?_⟩⟩
  have key : ∀ (k : Nat) (y : Pl), DM p s y ≤ k → Jn p y.1 y.2 → upM p y.1 y.2 = upM p s.1 s.2 → y ∈ row := by
    intro k
    induction k with
    | zero => intro y hk j u; rw [D_zero h B.js j u (by omega)]; exact B.s_in
    | succ k ih =>
      intro y hk j u
      by_cases z : DM p s y = 0
      · rw [D_zero h B.js j u z]; exact B.s_in
      obtain ⟨a, b, e, g, de⟩ := near_ex h B.js j (by omega)
      obtain ⟨je, ue, inv, _⟩ := step_edge h j g
      obtain ⟨i, hi⟩ := List.mem_iff_getElem?.mp (ih e (by omega) je (ue.trans u))
      exact B.dn i e _ _ y (List.getElem?_eq_some_iff.mp hi).1 hi inv
  exact key _ x (Nat.le_refl _) j u
theorem Bfs.small (h : isPlanM p = true) (B : Bfs p s row m cur) : row.length ≤ 154 := by
  have z := sub_len (m := keysM p) B.nd (fun x hx => (mem_keys h (a := x.1) (b := x.2)).mpr (B.jn x hx).1)
  have l := spots_len h
  have l2 : (spotsM p).length = (keysM p).length := sortP_len _
  have := (plan_facts h).2.1
  omega
theorem Full.len (h : isPlanM p = true) (js : Jn p s.1 s.2) (F : Full p s row) : (row.length : Int) = 2 * p.1 - 3 := by
  have pm : row.Perm ((keysM p).filter fun x => decide (upM p x.1 x.2 = upM p s.1 s.2)) := by
    rw [List.perm_ext_iff_of_nodup F.1 ((keys_nodup p).filter _)]
    intro x
    rw [F.2 x, List.mem_filter, decide_eq_true_iff, mem_keys h (a := x.1) (b := x.2)]
  rw [pm.length_eq, ← List.countP_eq_length_filter, ← (both_perm h).countP_eq, List.countP_append, List.countP_map]
  have e : (linesM p).countP ((fun x => decide (upM p x.1 x.2 = upM p s.1 s.2)) ∘ swapP) = (linesM p).countP (fun x => !decide (upM p x.1 x.2 = upM p s.1 s.2)) := List.countP_congr fun x hx => by
    have jx : Jn p x.1 x.2 := by
      have z := (mem_keys h (a := x.1) (b := x.2)).mp ((both_perm h).mem_iff.mp (List.mem_append_left _ hx))
      exact z
    show decide (upM p x.2 x.1 = upM p s.1 s.2) = true ↔ _
    rw [up_sw h jx]
    cases upM p x.1 x.2 <;> cases upM p s.1 s.2 <;> decide
  rw [e]
  have l := List.length_eq_countP_add_countP (fun x : Pl => decide (upM p x.1 x.2 = upM p s.1 s.2)) (l := linesM p)
  have ll := lines_len h
  rw [← lines_eq (by have := (plan_facts h).1; omega)] at ll
  have e2 : (linesM p).countP (fun a => decide ¬decide (upM p a.1 a.2 = upM p s.1 s.2) = true) = (linesM p).countP (fun x => !decide (upM p x.1 x.2 = upM p s.1 s.2)) := List.countP_congr fun x _ => by
    cases decide (upM p x.1 x.2 = upM p s.1 s.2) <;> decide
  rw [e2] at l
  omega
/-! ### from where a place was come to -/
/-! ### the one road -/
structure Road (p : Plan) (s : Pl) (r : List Stv) (o : Pl) : Prop where
  mv : ∀ t ∈ r, ∃ u o, t = Stv.mv u o
  run : runM p s r = some o
  len : r.length = DM p s o
theorem Road.nil (s : Pl) : Road p s [] s := ⟨(fun t ht => by cases ht), rfl, (D_self p s).symm⟩
end
end Pf

namespace Pf
open PySem PySem.Spec PyProof.Rows L2
/-! ### a tuple of the module walked -/
section
variable {α κ : Type} [Rep α] [Rep κ] [TK κ] [DecidableEq κ] {G G' H : Hp}
theorem Mt.up {d : Addr} {l : List (κ × α)} (x : Mt G H d l) (g : Same G G') (n : G' d = none) : Mt G' H d l := by
  obtain ⟨h1, kvs, h2, h3⟩ := x
  exact ⟨n, kvs, h2, enr_mono g h3⟩
theorem Ml.up {p : Addr} {xs : List α} (x : Ml G H p xs) (g : Same G G') (n : G' p = none) : Ml G' H p xs := by
  obtain ⟨h1, vs, h2, h3⟩ := x
  exact ⟨n, vs, h2, paired_mono g h3⟩
end
/-! ### tests by the very heap -/
section
variable {σ : L2.St} {G H : Hp} {te : TE} {tt : TT} {ts tr u : TS} {D : Ends}
def EvTH (tt : TT) (σ : L2.St) (G H : Hp) (b : Bool) : Prop := ∀ Q : Bool → Hp → Prop, (∀ G' H', Gr M0 G H G' H' → Q b H') → tt σ H Q
theorem et_testH {b : Bool} (h : EvH te σ G H b) : EvTH (tTest te) σ G H b := fun Q q => h _ fun v G' H' g k => ⟨b, k, q G' H' g⟩
theorem st_ifH {b : Bool} (h : EvTH tt σ G H b) (k1 : b = true → ∀ G' H', Gr M0 G H G' H' → ts D σ H') (k2 : b = false → ∀ G' H', Gr M0 G H G' H' → tr D σ H') : tIfS tt ts tr D σ H :=
  h _ fun G' H' g => ite2 (fun e => k1 e G' H' g) (fun e => k2 (by simpa using e) G' H' g)
theorem et_or' {tu : TT} (h1 : EvT tt σ G false) (h2 : EvT tu σ G false) : EvT (tOr tt tu) σ G false := et_or h1 (fun _ => h2)
end
/-! ### pairs reckoned while a dict is still being made -/
/-! ### from where a place was come to -/
/-! ### a road that ends with the tuple of the module -/
/-! ### a told list, new -/
section
variable {α : Type} [Rep α] [TRep α] {σ : L2.St} {G H : Hp} {te : TE} {xs : List α}
end
/-! ### what the defs of roads tell -/
end Pf

namespace Pf
open PySem PySem.Spec PyProof.Rows L2
/-! ### all trees of a stretch, or just the first one -/
def tj {α : Type} (jo : Bool) (L : List α) : List α := if jo = true then L.take 1 else L
/-! ### a plan of a row -/
instance : Inhabited BT := ⟨.lf⟩
instance : Inhabited Plan := ⟨(0, ⟨[]⟩)⟩
section
variable {α β : Type} [Rep α] [Rep β] {σ : L2.St} {G H : Hp} {ta tb : TE} {x : α} {y : β} {D : Ends} {u : TS}
end
end Pf

namespace Pf
open PySem PySem.Spec PyProof.Rows L2
abbrev ARows := List (List (Int × Int))
def arcRow (sub : Int → Int → ARows) (s e : Int) : ARows := (rng (s + 1) e).flatMap fun m => (sub s m).flatMap fun a => (sub m e).map fun b => a ++ b ++ [(s, m), (m, e)]
def arcs : Nat → Int → Int → ARows
  | 0, _, _ => []
  | f + 1, s, e => if e - s = 1 then [[]] else arcRow (arcs f) s e
/-! ### all plans as trees -/
end Pf

namespace Pf
open PySem PySem.Spec PyProof.Rows L2
/-! ### dicts with numbers or texts as keys, in order -/
class PK (κ : Type) [Rep κ] where
  ky : κ → Key
  inj : ∀ {x y : κ}, ky x = ky y → x = y
  to : ∀ {G : Hp} {x : κ}, rep G (kV (ky x)) x
  of : ∀ {G : Hp} {v : V} {x : κ}, rep G v x → v = kV (ky x)
instance : PK Int := ⟨Sum.inl, fun h => Sum.inl.inj h, rfl, fun h => h⟩
instance : PK Str := ⟨Sum.inr, fun h => Sum.inr.inj h, rfl, fun h => h⟩
structure Dck (κ α : Type) where
  l : List (κ × α)
section
variable {κ α β : Type} [Rep κ] [PK κ] [DecidableEq κ] [Rep α] [Rep β] {σ : L2.St} {G H : Hp} {ta tb te : TE} {K : Fg} {D : Ends} {u : TS}
def EnK (G : Hp) (kv : Key × V) (x : κ × α) : Prop := kv.1 = PK.ky x.1 ∧ rep G kv.2 x.2
theorem enk_mono {G G' : Hp} (e : Same G G') {kvs : List (Key × V)} {l : List (κ × α)} (h : Paired (EnK G) kvs l) : Paired (EnK G') kvs l := Paired.mapP h fun _ _ r => ⟨r.1, Rep.mono e r.2⟩
instance : Rep (Dck κ α) := ⟨fun G v d => ∃ a kvs, v = .ref a ∧ G a = some (.dK kvs) ∧ Paired (EnK G) kvs d.l, fun e ⟨a, kvs, h1, h2, h3⟩ => ⟨a, kvs, h1, e _ _ h2, enk_mono e h3⟩⟩
def Mk (G H : Hp) (d : Addr) (l : List (κ × α)) : Prop := G d = none ∧ ∃ kvs, H d = some (.dK kvs) ∧ Paired (EnK G) kvs l
theorem pk_dec {x y : κ} : decide (PK.ky x = PK.ky y) = decide (x = y) := by
  by_cases h : x = y
  · subst h; rw [decide_eq_true rfl, decide_eq_true rfl]
  · rw [decide_eq_false h, decide_eq_false fun e => h (PK.inj e)]
theorem valk_look (k : κ) : ∀ {kvs : List (Key × V)} {l : List (κ × α)}, Paired (EnK G) kvs l → OptRep G (valV kvs (PK.ky k)) (look l k)
  | _, _, .nil => rfl
  | (c, v) :: kvs, (x, y) :: l, .cons ⟨h1, h2⟩ t => by
    have ih := valk_look k t
    have h1 : c = PK.ky x := h1
    subst h1
    unfold valV look at ih ⊢
    rw [List.find?_cons, List.find?_cons]
    show OptRep G (Option.map _ (match decide (PK.ky x = PK.ky k) with | true => _ | false => _)) (Option.map _ (match decide (x = k) with | true => _ | false => _))
    rw [pk_dec]
    cases decide (x = k) with
    | true => exact ⟨v, rfl, h2⟩
    | false => exact ih
theorem anyk_look (k : κ) : ∀ {kvs : List (Key × V)} {l : List (κ × α)}, Paired (EnK G) kvs l → (kvs.any fun kv => decide (kv.1 = PK.ky k)) = l.any fun e => decide (e.1 = k)
  | _, _, .nil => rfl
  | (c, v) :: kvs, (x, y) :: l, .cons ⟨h1, h2⟩ t => by
    have h1 : c = PK.ky x := h1
    subst h1
    rw [List.any_cons, List.any_cons, anyk_look k t]
    show (decide (PK.ky x = PK.ky k) || _) = (decide (x = k) || _)
    rw [pk_dec]
theorem replk_paired {v : V} {k : κ} {x : α} (r : rep G v x) : ∀ {kvs : List (Key × V)} {l : List (κ × α)}, Paired (EnK G) kvs l → Paired (EnK G) (kvs.map fun kv => if kv.1 = PK.ky k then (kv.1, v) else kv) (l.map fun e => if e.1 = k then (e.1, x) else e)
  | _, _, .nil => .nil
  | (c, u) :: kvs, (z, y) :: l, .cons ⟨h1, h2⟩ t => by
    have h1 : c = PK.ky z := h1
    subst h1
    refine .cons ?_ (replk_paired r t)
    show EnK G (if PK.ky z = PK.ky k then (PK.ky z, v) else (PK.ky z, u)) (if z = k then (z, x) else (z, y))
    by_cases e : z = k
    · rw [if_pos e, if_pos (congrArg PK.ky e)]; exact ⟨rfl, r⟩
    · rw [if_neg e, if_neg fun q => e (PK.inj q)]; exact ⟨rfl, h2⟩
theorem putk_paired {kvs : List (Key × V)} {l : List (κ × α)} {v : V} {k : κ} {x : α} (h : Paired (EnK G) kvs l) (r : rep G v x) : Paired (EnK G) (putK kvs (PK.ky k) v) (put l k x) := by
  unfold putK put
  rw [anyk_look k h]
  by_cases q : (l.any fun e => decide (e.1 = k)) = true
  · rw [if_pos q, if_pos q]; exact replk_paired r h
  · rw [if_neg q, if_neg q]; exact paired_app h (.cons ⟨rfl, r⟩ .nil)
theorem Mk.step {M : Addr → Prop} {G' H' : Hp} {d : Addr} {l : List (κ × α)} (x : Mk G H d l) (g : Gr M G H G' H') (hp : ¬ M d) : Mk G' H' d l := by
  obtain ⟨h1, kvs, h2, h3⟩ := x
  exact ⟨g.out h1 h2, kvs, g.h _ _ hp h2, enk_mono g.g h3⟩
theorem Mk.step0 {G' H' : Hp} {d : Addr} {l : List (κ × α)} (x : Mk G H d l) (g : Gr M0 G H G' H') : Mk G' H' d l := x.step g fun z => z
theorem Mk.other {q d : Addr} {o : HO} {l : List (κ × α)} (x : Mk G H d l) (ne : d ≠ q) : Mk G (upd H q o) d l := by
  obtain ⟨h1, kvs, h2, h⟩ := x
  exact ⟨h1, kvs, by rw [upd_ne ne]; exact h2, h⟩
theorem Mk.frz {M : Addr → Prop} {Ge He : Hp} {d : Addr} {l : List (κ × α)} (x : Mk G H d l) (g : Gr M Ge He G H) (np : He d = none) : ∃ G', Gr M Ge He G' H ∧ Pf.rep G' (.ref d) (Dck.mk l) ∧ Same G G' := by
  obtain ⟨h1, kvs, h2, h4⟩ := x
  exact ⟨upd G d (.dK kvs), g.still np h1 h2, ⟨d, kvs, rfl, upd_same, enk_mono (same_new h1) h4⟩, same_new h1⟩
/-! d stands still -/
/-- a value or None -/

theorem Mk.rep {d : Addr} {l : List (κ × α)} (m : Mk G H d l) (i : Same G H) : ∃ o, H d = some o ∧ Same G (upd G d o) ∧ Same (upd G d o) H ∧ Pf.rep (upd G d o) (.ref d) (Dck.mk l) := by
  obtain ⟨h1, kvs, h2, h4⟩ := m
  exact ⟨_, h2, same_new h1, same_still i h2, d, kvs, rfl, upd_same, enk_mono (same_new h1) h4⟩
theorem Mk.up {G' : Hp} {d : Addr} {l : List (κ × α)} (x : Mk G H d l) (g : Same G G') (n : G' d = none) : Mk G' H d l := by
  obtain ⟨h1, kvs, h2, h3⟩ := x
  exact ⟨n, kvs, h2, enk_mono g h3⟩
end
end Pf

namespace Pf
open PySem PySem.Spec PyProof.Rows L2
/-! ### a plan has one tree -/
theorem ev_eqW {σ : L2.St} {G : Hp} {ta tb : TE} {K : Fg} {d e : PyData} (ha : Ev ta σ G d) (hb : Ev tb σ G e) (h1 : SeqAt.shaped d = true) (h2 : SeqAt.shaped e = true) : Ev (tOp (rEqD K) ta tb) σ G (PyData.eqv d e) :=
  ev2 ha hb fun v u G' _ k1 k2 H i Q q => ⟨d, e, rd_dp i _ _ k1, rd_dp i _ _ k2, h1, h2, q _ G' H (Gr.refl i) rfl⟩
section
variable {α β : Type} [Rep α] [Rep β] {σ : L2.St} {G : Hp} {ta : TE} {W : WX}
end
end Pf

namespace Pf
open PySem PySem.Spec PyProof.Rows L2
/-! ### what a shut paper can be: a plan, a place, the corners that have numbers -/
structure Ch where
  p : Plan
  s : Pl
  c : List Int
instance : Rep Ch := ⟨fun G v x => ∃ a v1 v2 v3 v4, v = .ref a ∧ G a = some (.tup [v1, v2, v3, v4]) ∧ rep G v1 x.p ∧ rep G v2 (thirdsM x.p) ∧ rep G v3 x.s ∧ rep G v4 (Tup.mk x.c), fun e ⟨a, v1, v2, v3, v4, h1, h2, h3, h4, h5, h6⟩ => ⟨a, v1, v2, v3, v4, h1, e _ _ h2, Rep.mono e h3, Rep.mono e h4, Rep.mono e h5, Rep.mono e h6⟩⟩
structure GoodC (x : Ch) : Prop where
  pl : isPlanM x.p = true
  f8 : x.p.1 ≤ 8
  j : Jn x.p x.s.1 x.s.2
  nd : x.c.Nodup
  inn : ∀ y ∈ x.c, 0 ≤ y ∧ y < x.p.1
theorem GoodC.len {x : Ch} (g : GoodC x) : x.c.length ≤ 8 := by
  have z := sub_len (m := rng 0 x.p.1) g.nd (fun y hy => rng_mem.mpr (g.inn y hy))
  rw [rng_len] at z
  have := g.f8
  omega
section
variable {σ : L2.St} {G H : Hp} {t1 t2 t3 t4 te : TE} {K : Fg}
end
end Pf

namespace Pf
open PySem PySem.Spec PyProof.Rows L2
section
variable {α : Type} [Rep α] {σ : L2.St} {G H : Hp} {te : TE} {K : Fg} {D : Ends} {ta tb : TE}
end
end Pf

namespace Pf
open PySem PySem.Spec PyProof.Rows L2
/-! ### methods and classes of the program: what the text has, what they promise -/
def memS (s : Stmt) (j : Nat) : Stmt := match s with
  | .ClassDef _ _ _ b _ _ _ _ _ _ _ => b.getD j (.Pass ⟨0, 0, 0, 0⟩)
  | _ => .Pass ⟨0, 0, 0, 0⟩
structure TxM (K : Fg) (C : Addr) (m qual : Str) (ps : List Str) (st : Stmt) : Prop where
  ex : ∃ f fd, Meth K C m f ∧ Fun K m qual st f fd ∧ Binds K fd ps []
structure Mo (P : Program) (w : World) (K : Fg) (mg : Str → Option Value) (base : Heap) (k : Nat) (C : Addr) (m : Str) (ps : List Str) (sp : Sp) : Prop where
  ex : ∃ f fd, Cls K C ∧ Meth K C m f ∧ FnOk P w K mg base (L2N.CX P w) k f fd ps sp ∧ Binds K fd ps []
structure TxI (K : Fg) (mg : Str → Option Value) (x : Str) (C : Addr) (qual : Str) (ps : List Str) (st : Stmt) (dv : V) : Prop where
  ex : ∃ f fd, L2.Mk K C f ∧ FunD K "__init__" qual (defArgs st) (defBody st) (defScope st) [dv] [] f fd ∧ Binds K fd ps [] ∧ (∃ ds, Vals [dv] ds ∧ Binds K fd ps ds) ∧ mg x = some (.ref C)
structure Ma (P : Program) (w : World) (K : Fg) (mg : Str → Option Value) (base : Heap) (k : Nat) (x : Str) (C : Addr) (ps : List Str) (dv : V) (sp : Sp) : Prop where
  ex : ∃ f fd, L2.Mk K C f ∧ FnOk P w K mg base (L2N.CX P w) k f fd ps sp ∧ Binds K fd ps [] ∧ (∃ ds, Vals [dv] ds ∧ Binds K fd ps ds) ∧ mg x = some (.ref C)
section
variable {P : Program} {w : World} {K : Fg} {mg : Str → Option Value} {base : Heap}
theorem TxM.ok {C : Addr} {m qual : Str} {st : Stmt} {N ps : List Str} {k : Nat} {sp : Sp} (T : TxM K C m qual ps st) (c : Cls K C) (S : FnScope N ps (defScope st)) (len : ∀ vs H Q E, sp vs H Q E → vs.length = ps.length)
    (hbody : ∀ (cdv : Value) (f : Addr) (A : Around) (outer : List Env) (s : Shared) (H : Hp) (vs : List V) (Q : VK) (E : XK), Room k (A.deeper (envOfC qual (defScope st) s.heap.objs.size f cdv)) → sp vs H Q E →
      ∃ t, PSs (cxOf (L2N.CX P w) P w K mg base N qual (defScope st) f cdv A outer s H E) (defBody st) t ∧ t { nx := fun _ H' => Q .non H', rt := Q } (start N vs) H) : Mo P w K mg base (k + 1) C m ps sp := by
  obtain ⟨f, fd, M, F, b⟩ := T.ex
  exact ⟨f, fd, c, M, F.okN S len fun cdv A outer s H vs Q E hr h => hbody cdv f A outer s H vs Q E hr h, b⟩
theorem TxI.ok {x : Str} {C : Addr} {qual : Str} {st : Stmt} {N ps : List Str} {k : Nat} {dv : V} {sp : Sp} (T : TxI K mg x C qual ps st dv) (S : FnScope N ps (defScope st)) (len : ∀ vs H Q E, sp vs H Q E → vs.length = ps.length)
    (hbody : ∀ (cdv : Value) (f : Addr) (A : Around) (outer : List Env) (s : Shared) (H : Hp) (vs : List V) (Q : VK) (E : XK), Room k (A.deeper (envOfC qual (defScope st) s.heap.objs.size f cdv)) → sp vs H Q E →
      ∃ t, PSs (cxOf (L2N.CX P w) P w K mg base N qual (defScope st) f cdv A outer s H E) (defBody st) t ∧ t { nx := fun _ H' => Q .non H', rt := Q } (start N vs) H) : Ma P w K mg base (k + 1) x C ps dv sp := by
  obtain ⟨f, fd, M, F, b, b2, m⟩ := T.ex
  exact ⟨f, fd, M, F.ok S len fun cdv A outer s H vs Q E hr h => hbody cdv f A outer s H vs Q E hr h, b, b2, m⟩
end
/-- o.m(..), a method that may raise -/
def tMo (C : Addr) (m : Str) (sp : Sp) (E : L2.St → XK) (ta : TE) (t : TA) : TE := fun σ H Q => ta σ H fun x H1 => ∃ a dx fs, x = .ref a ∧ H1 a = some (.ins C dx fs) ∧ fs.lookup m = none ∧ t σ H1 fun vs H2 => sp (x :: vs) H2 Q (E σ)
/-- X(..), an __init__ that may raise -/
def tMa (C : Addr) (sp : Sp) (dvs : List V) (E : L2.St → XK) (t : TA) : TE := fun σ H Q => t σ H fun vs H1 => ∀ x dx, H1 x = none → H1 dx = none → dx ≠ x →
  sp (.ref x :: (vs ++ dvs)) (upd (upd H1 dx (.own x)) x (.ins C dx [])) (fun v H2 => v = .non ∧ Q (.ref x) H2) (E σ)
section
variable {X : Cx} {j k : Nat} {x m : Str} {ps : List Str} {sp : Sp} {p pos apos : Pos} {o e : Expr} {es : List Expr} {ta : TE} {t : TA} {W : WX} {C : Addr} {dv : V}
theorem pe_mo {pl : Sem Bool} (D : Mo X.prog X.w X.K X.mg X.base j C m ps sp) (hr : Room k X.A) (le : j ≤ k) (tk : L2N.Takes X W) (he : PE X o ta) (ha : PA X (e :: es) t)
    (hst : starEach (e :: es) X.env = (false, eval e X.env) :: starEach es X.env := by rfl) (hpl : (backTo pos (starEach es X.env)).any (·.1) = false := by rfl)
    (ht : eval (.Call (.Attribute o m apos) (e :: es) [] pos) X.env = (do
      let ov ← eval o X.env
      standAt apos.atName
      let (f, first) ← holding [ov] (getMethod ov m pl)
      callWith pos f first (backTo pos (starEach (e :: es) X.env)) (backToKw pos (keywordEach [] X.env))) := by rfl) :
    PE X (.Call (.Attribute o m apos) (e :: es) [] pos) (tMo C m sp (WE W) ta t) := by
  obtain ⟨f, fd, c, hm, F, b⟩ := D.ex
  refine ⟨fun pins s σ H Q I h => ?_⟩
  refine PySem.W.methodCall_KW (pl := pl) (thn (he.run pins s σ H _ I h) fun u s1 ⟨x, H1, I1, rx, a, dx, fs, ex, ea, l, q⟩ => ?_) ht
  subst ex
  obtain rfl : u = Value.ref a := rx
  refine getmeth_ok I1 ea c hm l ?_
  refine PySem.W.callWith_K (first := [.ref a]) (h₀ := X.base) I1.ok.mod.kin hm.kp (thn (ha.run pos pins s1 σ H1 _ I1 q) fun us s2 ⟨vs, H2, I2, r, q2⟩ => ⟨I2.kIn, ?_⟩) hst hpl
  exact run_fnS (us := .ref a :: us) (vs := .ref a :: vs) F (hr.mono le) b (L2N.passAt tk σ) I2 (.cons rfl r) q2
theorem pe_mo0 {pl : Sem Bool} (D : Mo X.prog X.w X.K X.mg X.base j C m ps sp) (hr : Room k X.A) (le : j ≤ k) (tk : L2N.Takes X W) (he : PE X o ta)
    (ht : eval (.Call (.Attribute o m apos) [] [] pos) X.env = (do
      let ov ← eval o X.env
      standAt apos.atName
      let (f, first) ← holding [ov] (getMethod ov m pl)
      callWith pos f first (backTo pos (starEach [] X.env)) (backToKw pos (keywordEach [] X.env))) := by rfl) :
    PE X (.Call (.Attribute o m apos) [] [] pos) (tMo C m sp (WE W) ta tNil) := by
  obtain ⟨f, fd, c, hm, F, b⟩ := D.ex
  refine ⟨fun pins s σ H Q I h => ?_⟩
  refine PySem.W.methodCall_KW (pl := pl) (thn (he.run pins s σ H _ I h) fun u s1 ⟨x, H1, I1, rx, a, dx, fs, ex, ea, l, q⟩ => ?_) ht
  subst ex
  obtain rfl : u = Value.ref a := rx
  refine getmeth_ok I1 ea c hm l ?_
  exact PySem.W.callWith_K0 (first := [.ref a]) I1.kIn hm.kp (run_fnS (us := [.ref a]) (vs := [.ref a]) F (hr.mono le) b (L2N.passAt tk σ) I1 (.cons rfl .nil) q)
theorem run_ma {f : Addr} {fd : FuncData} {ds : List Value} {dvs : List V} {pins : List (Addr × Obj)} {σ : L2.St} {H : Hp} {s : Shared} {Q : VK} {us : List Value} {vs : List V} (M : L2.Mk X.K C f) (F : FnOk X.prog X.w X.K X.mg X.base (L2N.CX X.prog X.w) k f fd ps sp) (hr : Room (k + 1) X.A) (hb : Binds X.K fd ps ds) (hd : Vals dvs ds)
    (tk : L2N.Takes X W) (I : Inv X pins σ H s) (r : Vals vs us)
    (h : ∀ x dx, H x = none → H dx = none → dx ≠ x → sp (.ref x :: (vs ++ dvs)) (upd (upd H dx (.own x)) x (.ins C dx [])) (fun v H2 => v = .non ∧ Q (.ref x) H2) (WE W σ)) :
    wpAny (model X.prog X.w) X.A (call (.ref C) us) (EP X pins σ Q) X.xe s := by
  have hq := h (s.heap.objs.size + 1) s.heap.objs.size (I.hok.fresh (Nat.le_succ _)) (I.hok.fresh (Nat.le_refl _)) (Nat.ne_of_lt (Nat.lt_succ_self _))
  have I2 := Inv.made (C := C) I
  have r2 : Vals (V.ref (s.heap.objs.size + 1) :: (vs ++ dvs)) (Value.ref (s.heap.objs.size + 1) :: (us ++ ds)) := .cons rfl (r.append hd)
  have hl : (Value.ref (s.heap.objs.size + 1) :: us ++ ds).length = ps.length := by
    have e := r2.length
    rw [F.len _ _ _ _ hq] at e
    exact e.symm
  refine wpAny_call (make_map (f := f) I.kIn M.makes M.init (beq_iff_eq.mp M.fn) (codeAny_mono (F.run _ X.stack _ _ ⟨Value.ref (s.heap.objs.size + 1) :: us, []⟩ (Value.ref (s.heap.objs.size + 1) :: (us ++ ds)) _ _ (WE W σ) (hr.make C us [])
    (I2.env0.make C us []) (hb _ (Value.ref (s.heap.objs.size + 1) :: us) I2.kIn hl) r2 hq) fun r s' hq' => ?_))
  cases r with
  | error e => exact L2N.passAt tk σ pins _ _ e s' I2 hq'
  | ok fl =>
    cases fl with
    | ret u =>
      obtain ⟨v, H', I3, rv, ev, q3⟩ := I2.after hq'
      subst ev
      exact ⟨rv, ⟨V.ref (s.heap.objs.size + 1), H', I3, rfl, q3⟩⟩
    | next => exact False.elim hq'
    | brk => exact False.elim hq'
    | cont => exact False.elim hq'
end
/-! ### a watch that stands: its list of stages -/
abbrev Stg := List Ch × Int
def Wt (C : Addr) (G H : Hp) (a sp : Addr) (st : List Stg) : Prop := G a = none ∧ (∃ dx, H a = some (.ins C dx [("stages", .ref sp)])) ∧ Ml G H sp st
structure GoodS (st : List Stg) : Prop where
  ne : st ≠ []
  len : st.length ≤ 1000
  good : ∀ e ∈ st, (∀ x ∈ e.1, GoodC x) ∧ e.1.length ≤ 31680 ∧ 0 ≤ e.2
theorem Wt.step {C : Addr} {M : Addr → Prop} {G H G' H' : Hp} {a sp : Addr} {st : List Stg} (x : Wt C G H a sp st) (g : Gr M G H G' H') (ha : ¬ M a) (hs : ¬ M sp) : Wt C G' H' a sp st := by
  obtain ⟨n, ⟨dx, e⟩, m⟩ := x
  exact ⟨g.out n e, ⟨dx, g.h _ _ ha e⟩, m.step g hs⟩
theorem Wt.step0 {C : Addr} {G H G' H' : Hp} {a sp : Addr} {st : List Stg} (x : Wt C G H a sp st) (g : Gr M0 G H G' H') : Wt C G' H' a sp st := x.step g (fun z => z) (fun z => z)
theorem Wt.ne {C : Addr} {G H : Hp} {a sp : Addr} {st : List Stg} (x : Wt C G H a sp st) : a ≠ sp := by
  obtain ⟨n, ⟨dx, e⟩, _, vs, e2, _⟩ := x
  intro z
  rw [z, e2] at e
  cases e
theorem GoodS.pop {st : List Stg} (g : GoodS st) (h : st.length ≠ 1) : GoodS st.dropLast := by
  refine ⟨fun e => ?_, by rw [List.length_dropLast]; have := g.len; omega, fun x hx => g.good x (List.dropLast_subset _ hx)⟩
  have := congrArg List.length e
  rw [List.length_dropLast] at this
  have hn := List.length_pos_iff.mpr g.ne
  simp at this
  omega
abbrev Ms (p : Addr) : Addr → Prop := fun q => q = p
end Pf

namespace Pf
open PySem PySem.Spec PyProof.Rows L2
theorem ne_of_some {H : Hp} {a b : Addr} {o : HO} (h : H a = some o) (n : H b = none) : a ≠ b := fun z => by
  rw [z, n] at h
  cases h
section
variable {σ : L2.St} {G H : Hp} {te ta tb tc : TE} {K : Fg} {D : Ends} {u : TS} {C a sp : Addr} {st : List Stg} {W : L2.St → XK}
theorem eh_call2 {α β γ : Type} [Rep α] [Rep β] [Rep γ] {pre : α → β → Prop} {f : α → β → γ} {x : α} {y : β} (h : EvH ta σ G H x) (hb : Ev tb σ G y) (hp : pre x y) : EvH (tCall (sp2 pre f) [] E0 (tCons ta (tCons tb tNil))) σ G H (f x y) := fun Q q =>
  h _ fun v G1 H1 g1 r1 => (ev_call2 (σ := σ) (ta := tC v) (ev_c r1) (hb.mono g1.g) hp) H1 g1.i Q fun v' G' H' g r => q v' G' H' (g1.trans g) r
/-! what the methods tell -/
/-- what changes the list of stages alone -/
theorem Gr.toMs {M : Addr → Prop} {G H G' H' : Hp} (g : Gr M0 G H G' H') : Gr M G H G' H' := g.wk
/-! tests at this very heap -/
theorem eth_or {tt tu : TT} {x y : Bool} (h1 : EvTH tt σ G H x) (h2 : ∀ G1 H1, Gr M0 G H G1 H1 → EvTH tu σ G1 H1 y) : EvTH (tOr tt tu) σ G H (x || y) := fun Q q => h1 _ fun G1 H1 g1 => by
  cases x with
  | true => exact (if_pos rfl) ▸ q G1 H1 g1
  | false => exact h2 G1 H1 g1 _ fun G2 H2 g2 => q G2 H2 (g1.trans g2)
theorem Gr.newM {M : Addr → Prop} {G H G' H' : Hp} (g : Gr M G H G' H') (h : ∀ b, M b → H b = none) : Gr M0 G H G' H' := ⟨g.g, g.i, fun b o _ e => g.h b o (fun m => by rw [h b m] at e; cases e) e, g.n⟩
end
end Pf

namespace Pf
open PySem PySem.Spec PySem.W PyProof.Rows L2
/-! ### first, *rest = a list -/
section
variable {prog : Program} {w : World} {A : Around} {E : Value → Shared → Prop} {s : Shared}
end

section
variable {X : Cx} {pos p2 : Pos} {e1 e2 : Expr}
theorem pgs_starred {e : Expr} {es : List Expr} {t : TG} {u : TGs} (g1 : PG X e t) (g2 : PGs X es u) : PGs X (.Starred e p2 :: es) (gCons t u) := by
  refine ⟨fun pins s σ H vs us Q I r hh => ?_⟩
  obtain ⟨v, vr, rfl, hh⟩ := hh
  cases r with
  | cons ra rb => exact assignInOrder_cons (thn (g1.run pins s σ H _ _ _ I ra hh) fun _ s1 ⟨σ1, H1, I1, q1⟩ => g2.run pins s1 σ1 H1 _ _ Q I1 rb q1)
end
/-! ### x in a dict of the module -/
def rInKD (K : Fg) (w : World) (neg : Bool) : R2 := fun x y H Q => ∃ p z, x = .str z ∧ y = .ref p ∧ (p == sysModules) = false ∧ (((∃ v, KDct K w p z v) ∧ Q (.bl (!neg)) H) ∨ (KMiss K w p z ∧ Q (.bl neg) H))
section
variable {X : Cx} {K : Fg} {w : World}
theorem op_notInKD (hK : X.K = K) (hw : X.w = w) : OpR X (compareOp .NotIn) (rInKD K w true) := by
  subst hK hw
  intro pins s σ H x y v u Q I rx ry h
  obtain ⟨p, z, rfl, rfl, hp, h⟩ := h
  obtain ⟨t, rfl⟩ := rx
  obtain rfl : u = Value.ref p := ry
  rcases h with ⟨⟨v0, es, n, u0, hl, hk, e, _⟩, q⟩ | ⟨⟨es, n, hl, hk, _, e⟩, q⟩
  · have hm := PySem.W.mapOf_K (prog := X.prog) (w := X.w) I.kIn hl hk
    refine wpAny_notIn_of (strKind_is X.prog X.w z t) hp hm ⟨.bl false, H, I.tok _, ?_, q⟩
    rw [PySem.W.find_K hl e]; rfl
  · have hm := PySem.W.mapOf_K (prog := X.prog) (w := X.w) I.kIn hl hk
    refine wpAny_notIn_of (strKind_is X.prog X.w z t) hp hm ⟨.bl true, H, I.tok _, ?_, q⟩
    rw [PySem.W.find_K hl e]; rfl
theorem pa_starK {e : Expr} {p : Pos} {es : List Expr} {te : TE} {t : TA} (hK : X.K = K) (he : PE X e te) (hr : PA X es t) (hs : starEach (.Starred e p :: es) X.env = (true, eval e X.env) :: starEach es X.env := by rfl) : PA X (.Starred e p :: es) (StX.tStar K te t) := hK ▸ StX.pa_star he hr hs
/-! ### str(x) of a text or a whole number; int(text) -/
/-! ### a def that stands in a name of the def: the promise comes with the value -/
theorem Df.held {P : Program} {mg : Str → Option Value} {base : Heap} {k : Nat} {x : Str} {ps : List Str} {sp : Sp} {f : Addr} (D : Df P w K mg base k x ps sp) (e : mg x = some (.ref f)) : Held P w K mg base k f sp := by
  obtain ⟨f2, fd, F, b, kp, m⟩ := D.ex
  rw [e] at m
  cases m
  exact ⟨fd, ps, F, kp, b⟩
end
end Pf

namespace Pf
open PySem PySem.Spec PyProof.Rows L2
open TL (tl numL)
/-! ### texts of numbers, split and joined -/
section
variable {σ : L2.St} {G H : Hp} {ta tb te tc : TE} {K : Fg} {D : Ends} {u : TS} {ts : List TE}
def lenSum (ys : List Str) : Nat := (ys.map (·.length)).sum
def EvJ (ts : List TE) (σ : L2.St) (G : Hp) (ys : List Str) : Prop := ∀ H, Same G H → ∀ (acc : Str) (Q : Str → Hp → Prop), acc.length + lenSum ys ≤ 100000 → (∀ G' H', Gr M0 G H G' H' → Q (ys.foldl (fun a y => a ++ y) acc) H') → tJs ts acc σ H Q
theorem EvJ.mono {G1 : Hp} {ys : List Str} (h : EvJ ts σ G ys) (e : Same G G1) : EvJ ts σ G1 ys := fun H i acc Q hl q => h H (e.trans i) acc Q hl fun G' H' g => q (uni G' G1) H' (gr_up e i g)
theorem ev_joinS {a : Str} {ys : List Str} (hb : Ev tb σ G ys) (hz : lenSum ys + ys.length * a.length ≤ 100000) : Ev (tBM K "str" (rJoin K) (tC (.str a)) (tCons tb tNil)) σ G (Txt.join a ys) := fun H i Q q =>
  ⟨rfl, hb H i _ fun v G2 H2 g2 k2 => by
    obtain ⟨p, vs, rfl, h2, h3⟩ := k2
    rw [paired_strs h3] at h2
    exact ⟨a, p, ys, rfl, rfl, .inl (.inl (.inl (g2.i _ _ h2))), by unfold lenSum at hz; omega, q _ G2 H2 g2 rfl⟩⟩
abbrev rInC : R2 := fun x y H Q => ∃ (c : Nat) (z : Str), x = .str ⟨#[c]⟩ ∧ y = .str z ∧ Q (.bl (decide (c ∈ z.cps.toList))) H
theorem op_inC {X : Cx} : OpR X (compareOp .In) rInC := op_in_sign
/-- c in a text -/
theorem ev_inC {c : Nat} {z : Str} (ha : Ev ta σ G (⟨#[c]⟩ : Str)) (hb : Ev tb σ G z) : Ev (tOp rInC ta tb) σ G (decide (c ∈ z.cps.toList)) := ev2 ha hb fun v w G' _ k1 k2 H i Q q => ⟨c, z, rep_str k1, rep_str k2, q _ G' H (Gr.refl i) rfl⟩
end
end Pf

namespace Pf
open PySem PySem.Spec PyProof.Rows L2
/-! ### zip of a tuple and a list, of lengths that stay -/
section
variable {σ : L2.St} {G H : Hp} {tb : TE} {K : Fg}
end
end Pf

namespace Pf
open PySem PySem.Spec PyProof.Rows L2
open TL (tl numL)
/-! ### names, letters, numbers -/
abbrev lowsS : Str := "abcdefghijklmnopqrstuvwxyz"
def lowB (c : Nat) : Bool := decide (c ∈ lowsS.cps.toList)
def nameB (z : Str) : Bool := !(decide (z.length < 1) || decide (8 < z.length)) && z.cps.toList.all lowB
def letB (z : Str) : Bool := decide (z.length = 1) && z.cps.toList.all lowB
/-! ### plans as texts -/
end Pf

namespace Pf
open PySem PySem.Spec PyProof.Rows L2
open TL (tl numL)
/-! ### what stands in a deed: a text, a number, a plan -/
inductive Th where
  | s (x : Str)
  | n (i : Int)
  | p (q : Plan)
instance : Inhabited Th := ⟨.n 0⟩
instance : Rep Th := ⟨fun G v t => match t with | .s x => rep G v x | .n i => rep G v i | .p q => rep G v q, fun {G G' v t} e h => by
  cases t with
  | s x => exact h
  | n i => exact h
  | p q => exact Rep.mono (α := Plan) e h⟩
instance : Dat Th where
  dat := fun t => match t with | .s x => dat x | .n i => dat i | .p q => dat q
  rd := fun {G v t} h => by
    cases t with
    | s x => exact Dat.rd (α := Str) h
    | n i => exact Dat.rd (α := Int) h
    | p q => exact Dat.rd (α := Plan) h
  inj := fun {x y} h => by
    cases x with
    | s a =>
      cases y with
      | s b => exact congrArg Th.s (Dat.inj (α := Str) h)
      | n b => have h : PyData.str a = PyData.int b := h; cases h
      | p b => have h : PyData.str a = PyData.tuple [dat b.1, dat b.2] := h; cases h
    | n a =>
      cases y with
      | s b => have h : PyData.int a = PyData.str b := h; cases h
      | n b => exact congrArg Th.n (Dat.inj (α := Int) h)
      | p b => have h : PyData.int a = PyData.tuple [dat b.1, dat b.2] := h; cases h
    | p a =>
      cases y with
      | s b => have h : PyData.tuple [dat a.1, dat a.2] = PyData.str b := h; cases h
      | n b => have h : PyData.tuple [dat a.1, dat a.2] = PyData.int b := h; cases h
      | p b => exact congrArg Th.p (Dat.inj (α := Plan) h)
abbrev waysL : List Str := ["even", "odd"]
abbrev coloursL : List Str := ["red", "blue", "gold"]
def kindsL : List (Str × List Str) := [("fold", ["name", "plan"]), ("drop", ["name"]), ("pinch", ["name", "way"]), ("unpinch", ["name", "way"]), ("over", ["name"]), ("about", ["name"]), ("paint", ["name", "slot", "colour"]), ("mark", ["name", "slot", "letter"]), ("wash", ["name", "slot"]), ("unfold", ["name"]), ("refold", ["name", "plan"])]
def kindsOf (w : Str) : Option (List Str) := (kindsL.find? fun e => decide (e.1 = w)).map (·.2)
theorem let_facts {x : Str} (h : letB x = true) : x.length = 1 ∧ ∀ c ∈ tl x, lowB c = true := by
  unfold letB at h
  simp only [Bool.and_eq_true, decide_eq_true_eq] at h
  exact ⟨h.1, List.all_eq_true.mp h.2⟩
theorem kinds_mem {w : Str} {ks : List Str} (h : kindsOf w = some ks) : (w, ks) ∈ kindsL := by
  unfold kindsOf at h
  obtain ⟨e, he, rfl⟩ := Option.map_eq_some_iff.mp h
  have h1 := List.mem_of_find?_eq_some he
  have h0 : decide (e.1 = w) = true := by have z := List.find?_some he; exact z
  have h2 := of_decide_eq_true h0
  rw [← h2]; exact h1
end Pf

namespace Pf
open PySem PySem.Spec PyProof.Rows L2
/-! ### tuples that stand in the heap or are constants of the module -/
theorem rd_mono {G G' : Hp} {a : Addr} {u : HO} (e : Same G G') (h : Rd G a u) : Rd G' a u := h.elim (fun h => .inl (e _ _ h)) fun ⟨o, h⟩ => .inr ⟨o, e _ _ h⟩
theorem sqt_mono {K : Fg} {G G' : Hp} {a : Addr} {xs : List V} (e : Same G G') (h : SqT K G a xs) : SqT K G' a xs := h.elim (fun h => .inl (rd_mono e h)) .inr
/-- a place and a third -/
structure Lie3 (K : Fg) where
  t : T3
/-- a colour and letters -/
structure LeafV (K : Fg) where
  p : Str × Str
instance {K : Fg} : Rep (Lie3 K) := ⟨fun G v x => ∃ p, v = .ref p ∧ SqT K G p [.int x.t.a, .int x.t.b, .int x.t.c], fun e ⟨p, h1, h2⟩ => ⟨p, h1, sqt_mono e h2⟩⟩
instance {K : Fg} : Rep (LeafV K) := ⟨fun G v x => ∃ p, v = .ref p ∧ SqT K G p [.str x.p.1, .str x.p.2], fun e ⟨p, h1, h2⟩ => ⟨p, h1, sqt_mono e h2⟩⟩
section
variable {K : Fg} {σ : L2.St} {G H : Hp} {te ta tb : TE} {D : Ends} {u : TS}
theorem lie_of {v : V} {l : T3} (h : rep G v l) : rep G v (Lie3.mk l : Lie3 K) := by
  obtain ⟨a, u1, u2, u3, rfl, h2, h3, h4, h5⟩ := h
  cases h3; cases h4; cases h5
  exact ⟨a, rfl, .inl (.inl h2)⟩
theorem leaf_of {v : V} {l : Str × Str} (h : rep G v l) : rep G v (LeafV.mk l : LeafV K) := by
  obtain ⟨a, u1, u2, rfl, h2, h3, h4⟩ := h
  cases h3; cases h4
  exact ⟨a, rfl, .inl (.inl h2)⟩
theorem ev_lieOf {l : T3} (h : Ev te σ G l) : Ev te σ G (Lie3.mk l : Lie3 K) := fun H i Q q => h H i Q fun v G' H' g r => q v G' H' g (lie_of r)
theorem ev_leafOf {l : Str × Str} (h : Ev te σ G l) : Ev te σ G (LeafV.mk l : LeafV K) := fun H i Q q => h H i Q fun v G' H' g r => q v G' H' g (leaf_of r)
theorem sq_lie {x : T3} {i j l : Nat} (h : Ev te σ G (Lie3.mk x : Lie3 K)) (s : Same G H) (k : ∀ G' H', Gr M0 G H G' H' → u D (((σ.set i (some (.int x.a))).set j (some (.int x.b))).set l (some (.int x.c))) H') :
    tSeq (tAsg te (gTup K 3 (gCons (gName i) (gCons (gName j) (gCons (gName l) gNil))))) u D σ H := h H s _ fun v G' H' g r => by
  obtain ⟨a, rfl, h2⟩ := r
  exact ⟨a, _, rfl, sqt_mono g.i h2, rfl, _, _, rfl, _, _, rfl, _, _, rfl, rfl, k G' H' g⟩
theorem sq_leafV {x : Str × Str} {i j : Nat} (h : Ev te σ G (LeafV.mk x : LeafV K)) (s : Same G H) (k : ∀ G' H', Gr M0 G H G' H' → u D ((σ.set i (some (.str x.1))).set j (some (.str x.2))) H') :
    tSeq (tAsg te (gTup K 2 (gCons (gName i) (gCons (gName j) gNil)))) u D σ H := h H s _ fun v G' H' g r => by
  obtain ⟨a, rfl, h2⟩ := r
  exact ⟨a, _, rfl, sqt_mono g.i h2, rfl, _, _, rfl, _, _, rfl, rfl, k G' H' g⟩
theorem ev_l2 {x : T3} (ha : Ev ta σ G (Lie3.mk x : Lie3 K)) : Ev (tOp (rIxT K) ta (tC (.int 2))) σ G x.c := fun H i Q q => ha H i _ fun v G1 H1 g1 k1 => by
  obtain ⟨a, rfl, h2⟩ := k1
  exact ⟨a, _, 2, _, rfl, rfl, sqt_mono g1.i h2, rfl, q _ G1 H1 g1 rfl⟩
theorem ev_leaf1 {x : Str × Str} (ha : Ev ta σ G (LeafV.mk x : LeafV K)) : Ev (tOp (rIxT K) ta (tC (.int 1))) σ G x.2 := fun H i Q q => ha H i _ fun v G1 H1 g1 k1 => by
  obtain ⟨a, rfl, h2⟩ := k1
  exact ⟨a, _, 1, _, rfl, rfl, sqt_mono g1.i h2, rfl, q _ G1 H1 g1 rfl⟩
end
instance : TK (Int × Str) where
  ky := fun x => [Sum.inl x.1, Sum.inr x.2]
  inj := fun {x y} h => by
    injection h with h1 h; injection h with h2 h
    cases x; cases y
    cases Sum.inl.inj h1; cases Sum.inr.inj h2; rfl
  to := fun {G b x} h => ⟨b, .int x.1, .str x.2, rfl, h, rfl, rfl⟩
  of := fun {G v x} ⟨b, u, w, e, h, h1, h2⟩ => ⟨b, e, by rw [rep_int h1, rep_str h2] at h; exact h⟩
/-! ### papers -/
abbrev LvL := List ((Int × Str) × (Str × Str))
structure PapM where
  row : Str
  fold : Option (Plan × T3)
  lv : LvL
def lvK (K : Fg) (l : LvL) : List ((Int × Str) × LeafV K) := l.map fun e => (e.1, LeafV.mk e.2)
structure Pap (K : Fg) (C : Addr) where
  m : PapM
def FoldR (K : Fg) (G : Hp) (u1 u2 : V) : Option (Plan × T3) → Prop
  | none => u1 = .non ∧ u2 = .non
  | some f => rep G u1 f.1 ∧ rep G u2 (Lie3.mk f.2 : Lie3 K)
theorem FoldR.mono {K : Fg} {G G' : Hp} {u1 u2 : V} (e : Same G G') : ∀ {o : Option (Plan × T3)}, FoldR K G u1 u2 o → FoldR K G' u1 u2 o
  | none, h => h
  | some _, h => ⟨Rep.mono e h.1, Rep.mono e h.2⟩
abbrev papF (r : Str) (u1 u2 : V) (l : V) : List (Str × V) := [("letters_of_row", .str r), ("folded_by", u1), ("lies_at", u2), ("leaves", l)]
instance {K : Fg} {C : Addr} : Rep (Pap K C) := ⟨fun G v x => ∃ a dx u1 u2 l, v = .ref a ∧ G a = some (.ins C dx (papF x.m.row u1 u2 l)) ∧ FoldR K G u1 u2 x.m.fold ∧ rep G l (Dct.mk (lvK K x.m.lv) : Dct (Int × Str) (LeafV K)),
  fun e ⟨a, dx, u1, u2, l, h1, h2, h3, h4⟩ => ⟨a, dx, u1, u2, l, h1, e _ _ h2, h3.mono e, Rep.mono e h4⟩⟩
structure ClPap (K : Fg) (C : Addr) : Prop where
  c : Cls K C
  n1 : NoAttr K C "letters_of_row"
  n2 : NoAttr K C "folded_by"
  n3 : NoAttr K C "lies_at"
  n4 : NoAttr K C "leaves"
section
variable {K : Fg} {C : Addr} {σ : L2.St} {G H : Hp} {te ta tb : TE} {p : PapM}
theorem ev_row (cp : ClPap K C) (h : Ev te σ G (Pap.mk p : Pap K C)) : Ev (tFld K te "letters_of_row") σ G p.row := fun H i Q q => h H i _ fun v G' H' g r => by
  obtain ⟨a, dx, u1, u2, l, rfl, h2, h3, h4⟩ := r
  exact ⟨a, C, dx, _, _, rfl, g.i _ _ h2, cp.c, cp.n1, rfl, q _ G' H' g rfl⟩
theorem ev_isfN (cp : ClPap K C) (h : Ev te σ G (Pap.mk p : Pap K C)) : Ev (tOp rIsN (tFld K te "folded_by") (tC .non)) σ G p.fold.isNone := fun H i Q q => h H i _ fun v G' H' g r => by
  obtain ⟨a, dx, u1, u2, l, rfl, h2, h3, h4⟩ := r
  refine ⟨a, C, dx, _, _, rfl, g.i _ _ h2, cp.c, cp.n2, rfl, rfl, q _ G' H' g ?_⟩
  cases e : p.fold with
  | none => rw [e] at h3; rw [h3.1]; rfl
  | some f =>
    rw [e] at h3
    obtain ⟨⟨b, w1, w2, rfl, _⟩, _⟩ := h3
    rfl
theorem ev_notfN (cp : ClPap K C) (h : Ev te σ G (Pap.mk p : Pap K C)) : Ev (tOp rNotN (tFld K te "folded_by") (tC .non)) σ G p.fold.isSome := fun H i Q q => h H i _ fun v G' H' g r => by
  obtain ⟨a, dx, u1, u2, l, rfl, h2, h3, h4⟩ := r
  refine ⟨a, C, dx, _, _, rfl, g.i _ _ h2, cp.c, cp.n2, rfl, rfl, q _ G' H' g ?_⟩
  cases e : p.fold with
  | none => rw [e] at h3; rw [h3.1]; rfl
  | some f =>
    rw [e] at h3
    obtain ⟨⟨b, w1, w2, rfl, _⟩, _⟩ := h3
    rfl
theorem ev_fplan (cp : ClPap K C) (h : Ev te σ G (Pap.mk p : Pap K C)) {f : Plan × T3} (hf : p.fold = some f) : Ev (tFld K te "folded_by") σ G f.1 := fun H i Q q => h H i _ fun v G' H' g r => by
  obtain ⟨a, dx, u1, u2, l, rfl, h2, h3, h4⟩ := r
  have h3 : FoldR K G' u1 u2 p.fold := h3
  rw [hf] at h3
  exact ⟨a, C, dx, _, _, rfl, g.i _ _ h2, cp.c, cp.n2, rfl, q _ G' H' g h3.1⟩
theorem ev_flie (cp : ClPap K C) (h : Ev te σ G (Pap.mk p : Pap K C)) {f : Plan × T3} (hf : p.fold = some f) : Ev (tFld K te "lies_at") σ G (Lie3.mk f.2 : Lie3 K) := fun H i Q q => h H i _ fun v G' H' g r => by
  obtain ⟨a, dx, u1, u2, l, rfl, h2, h3, h4⟩ := r
  have h3 : FoldR K G' u1 u2 p.fold := h3
  rw [hf] at h3
  exact ⟨a, C, dx, _, _, rfl, g.i _ _ h2, cp.c, cp.n3, rfl, q _ G' H' g h3.2⟩
theorem ev_lvs (cp : ClPap K C) (h : Ev te σ G (Pap.mk p : Pap K C)) : Ev (tFld K te "leaves") σ G (Dct.mk (lvK K p.lv) : Dct (Int × Str) (LeafV K)) := fun H i Q q => h H i _ fun v G' H' g r => by
  obtain ⟨a, dx, u1, u2, l, rfl, h2, h3, h4⟩ := r
  exact ⟨a, C, dx, _, _, rfl, g.i _ _ h2, cp.c, cp.n4, rfl, q _ G' H' g h4⟩
end
/-! ### classes made by an __init__ without a default -/
structure TxN (K : Fg) (mg : Str → Option Value) (x : Str) (C : Addr) (qual : Str) (ps : List Str) (st : Stmt) : Prop where
  ex : ∃ f fd, L2.Mk K C f ∧ Fun K "__init__" qual st f fd ∧ Binds K fd ps [] ∧ mg x = some (.ref C)
structure Mc (P : Program) (w : World) (K : Fg) (mg : Str → Option Value) (base : Heap) (k : Nat) (x : Str) (C : Addr) (ps : List Str) (sp : Sp) : Prop where
  ex : ∃ f fd, L2.Mk K C f ∧ FnOk P w K mg base (L2N.CX P w) k f fd ps sp ∧ Binds K fd ps [] ∧ mg x = some (.ref C)
section
variable {P : Program} {w : World} {K : Fg} {mg : Str → Option Value} {base : Heap}
theorem TxN.ok {x : Str} {C : Addr} {qual : Str} {st : Stmt} {N ps : List Str} {k : Nat} {sp : Sp} (T : TxN K mg x C qual ps st) (S : FnScope N ps (defScope st)) (len : ∀ vs H Q E, sp vs H Q E → vs.length = ps.length)
    (hbody : ∀ (cdv : Value) (f : Addr) (A : Around) (outer : List Env) (s : Shared) (H : Hp) (vs : List V) (Q : VK) (E : XK), Room k (A.deeper (envOfC qual (defScope st) s.heap.objs.size f cdv)) → sp vs H Q E →
      ∃ t, PSs (cxOf (L2N.CX P w) P w K mg base N qual (defScope st) f cdv A outer s H E) (defBody st) t ∧ t { nx := fun _ H' => Q .non H', rt := Q } (start N vs) H) : Mc P w K mg base (k + 1) x C ps sp := by
  obtain ⟨f, fd, M, F, b, m⟩ := T.ex
  exact ⟨f, fd, M, F.okN S len fun cdv A outer s H vs Q E hr h => hbody cdv f A outer s H vs Q E hr h, b, m⟩
end
section
variable {X : Cx} {j k : Nat} {x : Str} {ps : List Str} {sp : Sp} {p pos : Pos} {e : Expr} {es : List Expr} {t : TA} {W : WX} {C : Addr}
theorem pe_mc (D : Mc X.prog X.w X.K X.mg X.base j x C ps sp) (hr : Room k X.A) (le : j + 1 ≤ k) (hg : Gl X x) (tk : L2N.Takes X W) (ha : PA X (e :: es) t)
    (hdb : (x == ("__debug__" : Str)) = false := by decide) (he : starEach (e :: es) X.env = (false, eval e X.env) :: starEach es X.env := by rfl) (hpl : (backTo pos (starEach es X.env)).any (·.1) = false := by rfl) :
    PE X (.Call (.Name x p) (e :: es) [] pos) (tMa C sp [] (WE W) t) := by
  obtain ⟨f, fd, M, F, b, hm⟩ := D.ex
  refine ⟨fun pins s σ H Q I h => ?_⟩
  refine wpAny_Call_Name_kw (ld_glob I hg hm ?_ hdb)
  refine PySem.W.callWith_K (h₀ := X.base) I.ok.mod.kin M.kp (thn (ha.run pos pins s σ H _ I h) fun us s1 ⟨vs, H1, I1, r, q⟩ => ⟨I1.kIn, ?_⟩) he hpl
  exact run_ma M F (hr.mono le) b .nil tk I1 r q
theorem pe_mc0 (D : Mc X.prog X.w X.K X.mg X.base j x C ps sp) (hr : Room k X.A) (le : j + 1 ≤ k) (hg : Gl X x) (tk : L2N.Takes X W)
    (hdb : (x == ("__debug__" : Str)) = false := by decide) : PE X (.Call (.Name x p) [] [] pos) (tMa C sp [] (WE W) tNil) := by
  obtain ⟨f, fd, M, F, b, hm⟩ := D.ex
  refine ⟨fun pins s σ H Q I h => ?_⟩
  refine wpAny_Call_Name_kw (ld_glob I hg hm ?_ hdb)
  exact PySem.W.callWith_K0 I.kIn M.kp (run_ma (us := []) M F (hr.mono le) b .nil tk I .nil h)
end
/-- Paper.__init__ -/
def spPapI (C : Addr) : Sp := fun vs H Q _ => ∃ x dx r u1 u2 l, vs = [.ref x, .str r, u1, u2, l] ∧ H x = some (.ins C dx []) ∧ ∀ H', H' x = some (.ins C dx (papF r u1 u2 l)) → (∀ b, b ≠ x → H' b = H b) → Q .non H'
section
variable {K : Fg} {C : Addr} {σ : L2.St} {G H : Hp} {t1 t2 t3 t4 : TE} {W : L2.St → XK} {p : PapM}
theorem ev_pap {f : Plan × T3} (hf : p.fold = some f) (h1 : Ev t1 σ G p.row) (h2 : Ev t2 σ G f.1) (h3 : Ev t3 σ G (Lie3.mk f.2 : Lie3 K)) (h4 : Ev t4 σ G (Dct.mk (lvK K p.lv) : Dct (Int × Str) (LeafV K))) :
    Ev (tMa C (spPapI C) [] W (tCons t1 (tCons t2 (tCons t3 (tCons t4 tNil))))) σ G (Pap.mk p : Pap K C) := fun H i Q q =>
  h1 H i _ fun v1 G1 H1 g1 r1 => (h2.mono g1.g) H1 g1.i _ fun v2 G2 H2 g2 r2 => (h3.mono (g1.g.trans g2.g)) H2 g2.i _ fun v3 G3 H3 g3 r3 => (h4.mono ((g1.g.trans g2.g).trans g3.g)) H3 g3.i _ fun v4 G4 H4 g4 r4 => fun x dx nx nd ne => by
    cases r1
    refine ⟨x, dx, _, v2, v3, v4, rfl, upd_same, fun H' e1 e2 => ⟨rfl, ?_⟩⟩
    have nx' : upd H4 dx (.own x) x = none := by rw [upd_ne (Ne.symm ne)]; exact nx
    have ga := gr_new (o := .own x) g4.i nd
    have gb := gr_new (o := .ins C dx (papF p.row v2 v3 v4)) ga.i nx'
    have hH : H' = upd (upd H4 dx (.own x)) x (.ins C dx (papF p.row v2 v3 v4)) := funext fun b => by
      by_cases e : b = x
      · subst e; rw [e1, upd_same]
      · rw [e2 b e, upd_ne e, upd_ne e]
    subst hH
    have gg := ((((g1.trans g2).trans g3).trans g4).trans ga).trans gb
    refine q _ _ _ gg ⟨x, dx, v2, v3, v4, rfl, upd_same, ?_, Rep.mono (ga.g.trans gb.g) r4⟩
    show FoldR K _ v2 v3 p.fold
    rw [hf]
    exact ⟨Rep.mono (((g3.g.trans g4.g).trans ga.g).trans gb.g) r2, Rep.mono ((g4.g.trans ga.g).trans gb.g) r3⟩
theorem ev_pap0 (hf : p.fold = none) (h1 : Ev t1 σ G p.row) (h4 : Ev t4 σ G (Dct.mk (lvK K p.lv) : Dct (Int × Str) (LeafV K))) :
    Ev (tMa C (spPapI C) [] W (tCons t1 (tCons (tC .non) (tCons (tC .non) (tCons t4 tNil))))) σ G (Pap.mk p : Pap K C) := fun H i Q q =>
  h1 H i _ fun v1 G1 H1 g1 r1 => (h4.mono g1.g) H1 g1.i _ fun v4 G4 H4 g4 r4 => fun x dx nx nd ne => by
    cases r1
    refine ⟨x, dx, _, .non, .non, v4, rfl, upd_same, fun H' e1 e2 => ⟨rfl, ?_⟩⟩
    have nx' : upd H4 dx (.own x) x = none := by rw [upd_ne (Ne.symm ne)]; exact nx
    have ga := gr_new (o := .own x) g4.i nd
    have gb := gr_new (o := .ins C dx (papF p.row .non .non v4)) ga.i nx'
    have hH : H' = upd (upd H4 dx (.own x)) x (.ins C dx (papF p.row .non .non v4)) := funext fun b => by
      by_cases e : b = x
      · subst e; rw [e1, upd_same]
      · rw [e2 b e, upd_ne e, upd_ne e]
    subst hH
    have gg := ((g1.trans g4).trans ga).trans gb
    refine q _ _ _ gg ⟨x, dx, .non, .non, v4, rfl, upd_same, ?_, Rep.mono (ga.g.trans gb.g) r4⟩
    show FoldR K _ .non .non p.fold
    rw [hf]
    exact ⟨rfl, rfl⟩
end
end Pf

namespace Pf
open PySem PySem.Spec PySem.W PyProof.Rows L2
/-! ### x, y, *rest = a tuple -/
section
variable {prog : Program} {w : World} {A : Around} {E : Value → Shared → Prop} {s : Shared}
theorem unp_starT {l : Addr} {items : Array Value} {Q : List Value → Shared → Prop} (hL : IsTup s.heap l items) (hA : A.handled = none) (h1 : 2 ≤ items.size) (hz : items.size ≤ 16384)
    (fin : ∀ (h' : Heap) (tk : Nat), (∀ b o, s.heap.get? b = some o → h'.get? b = some o) → s.heap.get? h'.objs.size = none → Q (items.toList.take 2 ++ [.ref h'.objs.size]) { s with heap := h'.push { cls := .type "list", data := .seq (items.toList.drop 2).toArray }, toks := tk }) :
    wpAny (model prog w) A (unpackItems (.ref l) 3 (some 2)) Q E s := by
  have hlo : ∃ o, s.heap.get? l = some o := by obtain ⟨o, ho, _⟩ := hL; exact ⟨o, ho⟩
  obtain ⟨o0, ho0⟩ := hlo
  have il : l < s.heap.objs.size := Heap.lt_size ho0
  have ne : l ≠ s.heap.objs.size := Nat.ne_of_lt il
  unfold unpackItems
  refine wpAny_bind (wpAny_mono (Q := fun b s1 => b = false ∧ s1 = s) (by unfold notIterableAtAll; exact wpAny_bind (wpAny_specialOf hL.typeIs slot_tuple_iter.lookup (wpAny_pure ⟨rfl, rfl⟩))) (fun b s1 hb => ?_) fun _ _ e => e)
  obtain ⟨rfl, rfl⟩ := hb
  simp only [Bool.false_eq_true, if_false]
  refine wpAny_bind (wpAny_holding (iter_tuple hL ?_))
  refine wpAny_bind (wpAny_holding (draw_tuple ne 2 0 _ _ ⟨_, Heap.get?_push_size _ rfl, rfl, rfl⟩ (hL.push _) (by omega) fun ha ita sba => ?_))
  have la : IsTup ha l items := (hL.push _).extBut sba.extBut ne
  rw [Nat.zero_add] at ita
  have ita' := ita
  obtain ⟨oi, hoi, _⟩ := ita'
  have la' := la
  obtain ⟨ol, hol, _⟩ := la'
  rw [List.drop_zero]
  have fl : (items.toList.take 2).length = 2 := by rw [List.length_take, Array.length_toList]; omega
  rw [if_neg (show ¬ ((items.toList.take 2).length < 2) by omega)]
  refine wpAny_bind (wpAny_holding (kun_collect (s := { s1 with heap := ha }) (T := "tuple_iterator") (.inr (.inr (.inr rfl))) (Walks.tuple (A := A.in1) hA s1.heap.objs.size l ne items) (fun j u st => st.1.typeIs) (k := 2) (by omega) ⟨ita, la⟩ (Heap.lt_size hoi) (Heap.lt_size hol) (fun hb tk hk => ?_) (by rw [sizeLine_eq]; omega)))
  have rl : (items.toList.drop 2).length = items.size - 2 := by rw [List.length_drop, Array.length_toList]
  show wpAny _ _ (if (items.toList.drop 2).length < 0 then _ else _) _ _ _
  rw [if_neg (Nat.not_lt_zero _)]
  show wpAny _ _ (newList ((items.toList.drop 2).take ((items.toList.drop 2).length - 0)) >>= fun d => pure (items.toList.take 2 ++ [d] ++ (items.toList.drop 2).drop ((items.toList.drop 2).length - 0))) _ _ _
  rw [Nat.sub_zero, List.take_length, List.drop_length, ]
  have keep : ∀ b o, s1.heap.get? b = some o → hb.get? b = some o := fun b o e => hk b o (Nat.ne_of_lt (Heap.lt_size e)) (sba.extBut b o (Nat.ne_of_lt (Heap.lt_size e)) (Heap.get?_push_of_some _ e))
  have grow : s1.heap.get? hb.objs.size = none := by
    cases e : s1.heap.get? hb.objs.size with
    | none => rfl
    | some o => exact absurd (Heap.lt_size (keep _ _ e)) (Nat.lt_irrefl _)
  refine wpAny_bind (wpAny_newList (wpAny_pure ?_) (by rw [rl, sizeLine_eq]; omega))
  rw [List.append_nil]
  exact fin hb tk keep grow
end
section
variable {X : Cx} {pos p2 : Pos} {e1 e2 e3 : Expr}
def gStarT (K : Fg) (t : TGs) : TG := fun v σ H Q => ∃ a x y xs, v = .ref a ∧ SqT K H a (x :: y :: xs) ∧ xs.length ≤ 10000 ∧ ∀ p, H p = none → t [x, y, .ref p] σ (upd H p (.lst xs)) Q
theorem pg_starT {K : Fg} {k : Nat} {t : TGs} (hK : X.K = K) (hc : X.calm = true) (h : PGs X [e1, e3, .Starred e2 p2] t) (hn : (assignEach [e1, e3, .Starred e2 p2] X.env).length = 3 := by rfl) (hst : (assignEach [e1, e3, .Starred e2 p2] X.env).findIdx? (·.1) = some 2 := by rfl) : PG X (.Tuple [e1, e3, .Starred e2 p2] k pos) (gStarT K t) := by
  subst hK
  refine ⟨fun pins s σ H v u Q I r hw => ?_⟩
  obtain ⟨a, x, y, xs, rfl, hq, hl, hw⟩ := hw
  cases r
  obtain ⟨its, rv, ht, hz⟩ := I.tuple hq
  cases rv with
  | @cons _ u0 _ us r0 r1 =>
    cases r1 with
    | @cons _ u1 _ us r1 r2 =>
      have lus := r2.length
      rw [assign_Tuple]
      refine wpAny_bind (wpAny_standAt ?_)
      unfold unpack
      rw [hn, hst]
      refine wpAny_bind (wpAny_holding (unp_starT ht (I.ok.hd hc) (by simp) (by simp; omega) fun h' tk kp fr => ?_))
      have hn0 := I.hok.gone fr
      have I1 := I.laidN (h' := h'.push { cls := .type "list", data := .seq us.toArray }) (a := h'.objs.size) (o := .lst xs) (t' := tk) (fun b o e => Heap.get?_push_of_some _ (kp b o e)) fr hn0 ⟨sl_small (by omega), us, 0, r2, Heap.get?_push_size _ rfl⟩
      exact h.run pins _ σ _ [x, y, .ref h'.objs.size] _ Q I1 (.cons r0 (.cons r1 (.cons rfl .nil))) (hw _ hn0)
end
/-! ### f(x, *xs), f a local name that holds a def of the module; it may raise -/
structure HeldX (P : Program) (w : World) (K : Fg) (mg : Str → Option Value) (base : Heap) (k : Nat) (f : Addr) (sp : Sp) : Prop where
  ex : ∃ (fd : FuncData) (ps : List Str), FnOk P w K mg base (L2N.CX P w) k f fd ps sp ∧ PySem.W.keepIn K (.ref f) = true ∧ Binds K fd ps []
theorem DfX.held {P : Program} {w : World} {K : Fg} {mg : Str → Option Value} {base : Heap} {j k : Nat} {x : Str} {ps : List Str} {sp : Sp} {f : Addr} (D : DfX P w K mg base j x ps sp) (e : mg x = some (.ref f)) (le : j ≤ k) : HeldX P w K mg base k f sp := by
  obtain ⟨f2, fd, F, b, kp, m⟩ := D.ex
  rw [e] at m
  cases m
  exact ⟨fd, ps, F.mono le, kp, b⟩
def tCallDX (P : Program) (w : World) (K : Fg) (mg : Str → Option Value) (base : Heap) (k i : Nat) (W : WX) (t : TA) : TE := fun σ H Q => ∃ f sp, σ[i]? = some (some (.ref f)) ∧ HeldX P w K mg base k f sp ∧ t σ H fun vs H1 => sp vs H1 Q (WE W σ)
section
variable {X : Cx} {W : WX}
theorem pe_callDX {P : Program} {w : World} {K : Fg} {mg : Str → Option Value} {base : Heap} {k i : Nat} {x : Str} {p pos : Pos} {e : Expr} {es : List Expr} {t : TA} (hP : X.prog = P) (hw : X.w = w) (hK : X.K = K) (hm : X.mg = mg) (hB : X.base = base) (hr : Room k X.A) (hN : X.N[i]? = some x) (hv : Vis X.env.scope x) (tk : L2N.Takes X W) (ha : PA X (e :: es) t)
    (hdb : (x == ("__debug__" : Str)) = false := by decide) (hcd : (x == ("__classdict__" : Str)) = false := by decide)
    (he : starEach (e :: es) X.env = (false, eval e X.env) :: starEach es X.env := by rfl) (hst : (backTo pos (starEach es X.env)).any (·.1) = true := by rfl) : PE X (.Call (.Name x p) (e :: es) [] pos) (tCallDX P w K mg base k i W t) := by
  subst hP hw hK hm hB
  refine ⟨fun pins s σ H Q I h => ?_⟩
  obtain ⟨f, sp, hs, hh, ht⟩ := h
  obtain ⟨fd, ps, F, hk, hb⟩ := hh.ex
  refine wpAny_Call_Name_kw (thn ((pe_var (pos := p) hN hv hdb hcd).run pins s σ H (fun v H1 => v = .ref f ∧ H1 = H) I ⟨.ref f, hs, rfl, rfl⟩) fun u s1 ⟨v, H1, I1, r1, q1⟩ => ?_)
  obtain ⟨rfl, rfl⟩ := q1
  cases r1
  refine PySem.W.callWith_S2 (h₀ := X.base) I.ok.mod.kin hk (thn (ha.run pos pins s1 σ _ _ I1 ht) fun us s2 ⟨vs, H2, I2, r, q⟩ => ⟨I2.kIn, ?_⟩) he hst
  exact run_fnS (us := us) (vs := vs) F hr hb (L2N.passAt tk σ) I2 r q
end
/-! ### a dict comprehension whose keys are tuples -/
section
variable {X : Cx} {pins : List (Addr × Obj)} {σ : L2.St} {H : Hp} {s : Shared}
theorem put_byTup {Z : Value → Shared → Prop} {D b : Addr} {kvs : List (List Key × V)} {k : List Key} {v : V} {u : Value} {Q : Unit → Shared → Prop} (hu : X.A.units + 1 < cLine) (I : Inv X pins σ H s) (hD : H D = some (.dT kvs)) (hb : H b = some (.tup (k.map kV))) (small : kvs.length < sizeLine)
    (rv : RelV v u) (go : ∀ s', Inv X pins σ (upd H D (.dT (putK kvs k v))) s' → Q () s') : wpAny (model X.prog X.w) X.A (dictSet D (.ref b) u) Q Z s := by
  obtain ⟨_, sysOk, xs, pairs, held⟩ := dt_of I.hok hD
  have xz : xs.length ≤ sizeLine := by rw [← Paired.length pairs]; omega
  have after : (putK kvs k v).length ≤ sizeLine := by have := length_putK kvs k v; omega
  refine wpAny_dictSet_heap (hsz := xz) (show X.A.units < cLine by omega) (key_of I.hok hb) held fun h2 held2 same => go _ ?_
  obtain ⟨ob, es, ep, g1, g2, g3, g4, _, g6⟩ := held2
  refine d_write I (by rw [hD]; exact True.intro) same ⟨ob, g1⟩ ⟨after, sysOk, _, (pairs.put k hb rv).keeps fun c ys ec => ?_, ob, es, ep, g1, g2, g3, g4, g6⟩
  rw [upd_ne (ne_of ec hD (fun z => nomatch z))]
  exact ec

/-- {k: v for x in it} with tuples as keys: the new dict is D -/
def tDcT (wi : TI) (g : TG) (tk tv : TE) (vs : List Nat) : TE := fun σ H Q => wi σ H fun J H1 => ∀ D, H1 D = none → ∃ W : Nat → Nat → Hp → Prop, (∃ m, W 0 m (upd H1 D (.dT []))) ∧ ∀ i m H, W i m H →
  (J.stop i H ∧ Q (.ref D) H) ∨ (J.go i H ∧ ∃ Nx : Hp → Prop, (∀ H', Nx H' → ∃ m', m' < m ∧ W (i + 1) m' H') ∧ ∀ x H', J.yld i H x H' → g x (wipe σ vs) H' fun σ2 H2 => wipe σ2 vs = wipe σ vs ∧
    tk σ2 H2 fun y H4 => tv σ2 H4 fun z H5 => ∃ kvs k b, y = .ref b ∧ H5 b = some (.tup (k.map kV)) ∧ H5 D = some (.dT kvs) ∧ kvs.length < sizeLine ∧ Nx (upd H5 D (.dT (putK kvs k z))))
theorem dcT_core {pins : List (Addr × Obj)} {s : Shared} {σ : L2.St} {H : Hp} {Q : VK} {kx vx tg iter : Expr} {scope : Scope} {own : List (Str × Nat)} {pos pos' : Pos} {wi : TI} {g : TG} {tk tv : TE} {use : Option (Value → Sem Unit)} {Qf : Value → Shared → Prop} (hc : X.calm = true) (hN : X.N.Nodup) (hu : X.A.units + 1 < cLine) (I0 : Inv X pins σ H s) (src : PI X tg iter wi) (ok : BlkOk X.N X.env.scope scope own)
    (aim : ∀ (s : Shared) (H : Hp) (C : Addr) (cl : List (Str × Addr)) (fp : List Addr), PG (X.blk s H scope (compEnvC scope cl C X.env) fp) tg g)
    (keyE : ∀ (s : Shared) (H : Hp) (C : Addr) (cl : List (Str × Addr)) (fp : List Addr), PE (X.blk s H scope (compEnvC scope cl C X.env) fp) kx tk)
    (valE : ∀ (s : Shared) (H : Hp) (C : Addr) (cl : List (Str × Addr)) (fp : List Addr), PE (X.blk s H scope (compEnvC scope cl C X.env) fp) vx tv) (hs : ∀ x, foldedSetIterable iter X.env x = pure x)
    (want : tDcT wi g tk tv (own.map (·.2)) σ H Q)
    (home : ∀ D C s' m H', Inv X pins σ H' s' → Q (.ref D) H' → s'.heap.Ns C m → FpOk X pins H' C → compPost (model X.prog X.w) X.A X.xe use Qf (.ref D) C (.ok .next) s') :
    wpAny (model X.prog X.w) X.A (comprehension (.DictComp kx vx [⟨tg, iter, [], 0⟩] scope pos) scope X.env pos' newDict false (eval iter X.env) use) Qf X.xe s := by
  have frees : ∀ y ∈ scope.names, y.2 = .free → ∃ c, X.env.cells.lookup y.1 = some c := fun y hy e => (ok.free y hy e).elim (fun z => I0.ok.has _ (.inl z)) (fun z => I0.ok.has _ (.inr z))
  refine wpAny_comprehension_free (use := use) rfl hs (closure_ok frees) ok.kind (fun y hy e => by rw [ok.uniq y hy, e]) (thn (src.run pins s σ H _ I0 want) fun _ sA hA => thn hA fun _ sB hB => ?_)
  obtain ⟨it, fp, tn, J, HB, rfl, IB, T, stB, fB, asked⟩ := hB
  refine wpAny_newObj_type (newEnv_comp ?_)
  generalize eD : sB.heap.objs.size = D
  obtain ⟨W, ⟨m0, wStart⟩, turn⟩ := asked D (IB.hok.fresh (Nat.le_of_eq eD))
  generalize eC : ({ sB with heap := sB.heap.push { cls := .type "dict", data := .dict #[] } } : Shared) = sC
  have hC : sC.heap = sB.heap.push { cls := .type "dict", data := .dict #[] } := by rw [← eC]
  have IC : Inv X pins σ (upd HB D (.dT [])) sC := by
    rw [← eC]
    exact IB.laid (t' := sB.toks) (fun b o e => Heap.get?_push_of_some _ e) (Nat.le_of_eq eD) (eD ▸ dt_empty sB.heap IB.big)
  have below : ∀ b ∈ fp, b < sB.heap.objs.size := fun b hb => let ⟨_, e, _⟩ := T.obj _ _ stB b hb; Heap.lt_size e
  have fC : ∀ b ∈ fp, FpOk X pins (upd HB D (.dT [])) b ∧ b < sC.heap.objs.size := fun b hb => by
    refine ⟨⟨?_, (fB b hb).2⟩, by rw [hC, Heap.size_push]; exact Nat.lt_succ_of_lt (below b hb)⟩
    rw [upd_ne (eD ▸ Nat.ne_of_lt (below b hb))]
    exact (fB b hb).1
  have stC : tn 0 sC.heap := T.keep _ _ _ stB fun b _ o e => by rw [hC]; exact Heap.get?_push_of_some _ e
  have IV := block_start IC ok hN fC
  have pg := aim sC (upd HB D (.dT [])) sC.heap.objs.size (cellsFrom (sC.heap.objs.size + 1) scope.names (cloFrom X.env.cells scope.names [])) fp
  have pk := keyE sC (upd HB D (.dT [])) sC.heap.objs.size (cellsFrom (sC.heap.objs.size + 1) scope.names (cloFrom X.env.cells scope.names [])) fp
  have pv := valE sC (upd HB D (.dT [])) sC.heap.objs.size (cellsFrom (sC.heap.objs.size + 1) scope.names (cloFrom X.env.cells scope.names [])) fp
  show codeAny _ _ (.compStart (.DictComp kx vx [⟨tg, iter, [], 0⟩] scope pos) 0 (.ref it) (.ref D) (compEnvC scope (cellsFrom (sC.heap.objs.size + 1) scope.names (cloFrom X.env.cells scope.names [])) sC.heap.objs.size X.env)) _ { sC with heap := pushCells (sC.heap.push { cls := .type "dict", data := .dict #[] }) scope.names }
  have noFp : ∀ b ∈ fp, (upd HB D (.dT [])) b = none := fun b hb => (fC b hb).1.1
  generalize eE : compEnvC scope (cellsFrom (sC.heap.objs.size + 1) scope.names (cloFrom X.env.cells scope.names [])) sC.heap.objs.size X.env = ce at IV pg pk pv ⊢
  have cL : ce.locals = sC.heap.objs.size := by subst eE; rfl
  generalize eH : upd HB D (.dT []) = HC at IC IV pg pk pv wStart noFp fC
  generalize eS : ({ sC with heap := pushCells (sC.heap.push { cls := .type "dict", data := .dict #[] }) scope.names } : Shared) = sE at IV ⊢
  have stE : tn 0 sE.heap := T.keep _ _ _ stC fun b _ o e => by rw [← eS]; exact pushCells_keeps _ _ _ _ (Heap.get?_push_of_some _ e)
  have held : ∀ {σ' : L2.St} {H' : Hp} {s' : Shared}, Inv (X.blk sC HC scope ce fp) [] σ' H' s' → (∀ b ∈ fp, H' b = none) → ∀ b ∈ fp, FpOk (X.blk sC HC scope ce fp) [] H' b := fun {σ' H' s'} I' nn b hb =>
    ⟨nn b hb, (I'.ok.exf b hb).1, I'.ok.exfs b hb, .inl hb, fun x c e => (I'.ok.exf b hb).2 x c e, fun p hp => absurd (show p ∈ ([] : List (Addr × Obj)) ++ [] from hp) (by simp)⟩
  have fullLoop : codeAny (model X.prog X.w) X.A (.compLoop (.DictComp kx vx [⟨tg, iter, [], 0⟩] scope pos) 0 (.ref it) (.ref D) ce) (compPost (model X.prog X.w) X.A X.xe use Qf (.ref D) sC.heap.objs.size) sE := by
    refine compLoop_anyD (fun n s' => ∃ i H', Inv (X.blk sC HC scope ce fp) [] (wipe σ (own.map (·.2))) H' s' ∧ tn i s'.heap ∧ (∀ b ∈ fp, H' b = none) ∧ W i n H') ?_ m0 ⟨0, HC, IV, stE, noFp, wStart⟩
    rintro n s5 ⟨i, H5, I5, st5, n5, w5⟩
    rcases turn i n H5 w5 with ⟨stop, qq⟩ | ⟨go, Nx, onward, step⟩
    · refine thnF (T.done (X.blk sC HC scope ce fp) rfl rfl rfl hc i [] s5 _ H5 (fun _ _ => False) I5 (held I5 n5) st5 stop) fun r s6 ⟨hr, I6⟩ => ?_
      subst hr
      have I7 : Inv X pins σ H5 s6 := IC.call' (ch := fp) I6.os I6.base I6.hok I6.bare fun b hb => ⟨(fC b hb).1.2.2.2.1, (fC b hb).1.2.1, (fC b hb).1.2.2.2.2.1, (fC b hb).1.2.2.2.2.2⟩
      have nC : H5 sC.heap.objs.size = none := by
        have z : H5 ce.locals = none := I6.free
        rw [cL] at z
        exact z
      obtain ⟨m, hn, _⟩ := I6.loc
      have hn : s6.heap.Ns ce.locals m := hn
      rw [cL] at hn
      exact home D sC.heap.objs.size s6 m H5 I7 qq hn (IC.fpOk (Nat.le_refl _) nC)
    · refine thnF (T.item (X.blk sC HC scope ce fp) rfl rfl rfl hc i [] s5 _ H5 (fun _ _ => False) I5 (held I5 n5) st5 go) fun r s6 ⟨u, hr, h6⟩ => ?_
      subst hr
      refine thnF h6 fun _ s7 ⟨x, H7, I7, r7, y7, st7, n7⟩ => ?_
      refine thnF (pg.run _ s7 _ H7 x u _ (I7.pinned (held I7 n7) (T.obj _ _ st7)) r7 (step x H7 y7)) fun _ s8 ⟨σ8, H8, I8, hw8, q8⟩ => ?_
      have atEnd : ∀ {s' : Shared} {H' : Hp}, Inv (X.blk sC HC scope ce fp) ([] ++ pinsAt fp s7.heap) σ8 H' s' → Nx H' → ∃ m, m < n ∧ ∃ i H', Inv (X.blk sC HC scope ce fp) [] (wipe σ (own.map (·.2))) H' s' ∧ tn i s'.heap ∧ (∀ b ∈ fp, H' b = none) ∧ W i m H' := fun {s' H'} I' nx => by
        obtain ⟨m', hm, w'⟩ := onward H' nx
        have pinned : ∀ b ∈ fp, ∀ o, s7.heap.get? b = some o → s'.heap.get? b = some o ∧ H' b = none := fun b hb o e =>
          let z := I'.pin (b, o) (List.mem_append_right _ (List.mem_append_right _ (mem_pinsAt hb e)))
          ⟨z.1, z.2.1⟩
        have hl : (wipe σ (own.map (·.2))).length = σ8.length := by rw [← hw8, wipe_length]
        refine ⟨m', hm, i + 1, H', (I'.unpinned (pins := [])).weak hl (fun j v e => (wipe_some (hw8 ▸ e)).1), T.keep _ _ _ st7 fun b hb o e => (pinned b hb o e).1, fun b hb => ?_, w'⟩
        obtain ⟨o, e, _⟩ := T.obj _ _ st7 b hb
        exact (pinned b hb o e).2
      show wpAny _ _ (pure true) _ _ s8
      refine wpAny_pure ?_
      rw [if_pos rfl]
      refine thnF (pk.run _ s8 σ8 H8 _ I8 q8) fun z s10 ⟨yk, H10, I10, r10, q10⟩ => ?_
      refine thnF (pv.run _ s10 σ8 H10 _ I10 q10) fun z2 s11 ⟨yv, H11, I11, r11, kvs, k, b, ek, hb11, hD11, hz11, nx⟩ => ?_
      subst ek
      obtain rfl : z = Value.ref b := r10
      exact put_byTup (X := X.blk sC HC scope ce fp) hu I11 hD11 hb11 hz11 r11 fun s12 I12 => atEnd I12 nx
  exact codeAny_compStart_dict fullLoop (T.self X.A 0 _ _ _ stE fullLoop)
/-- a name set to such a comprehension -/
theorem ps_setDcT {i : Nat} {y : Str} {py : Pos} {kx vx tg iter : Expr} {scope : Scope} {own : List (Str × Nat)} {pos spos : Pos} {wi : TI} {g : TG} {tk tv : TE} (hc : X.calm = true) (hN : X.N.Nodup) (hy : X.N[i]? = some y) (loc : X.env.scope.names.lookup y = some .local)
    (hsw : swapsWith (.DictComp kx vx [⟨tg, iter, [], 0⟩] scope pos) (some (.Name y py)) spos.line X.env = pure true) (hu : X.A.units + 1 < cLine) (src : PI X tg iter wi) (ok : BlkOk X.N X.env.scope scope own)
    (aim : ∀ (s : Shared) (H : Hp) (C : Addr) (cl : List (Str × Addr)) (fp : List Addr), PG (X.blk s H scope (compEnvC scope cl C X.env) fp) tg g)
    (keyE : ∀ (s : Shared) (H : Hp) (C : Addr) (cl : List (Str × Addr)) (fp : List Addr), PE (X.blk s H scope (compEnvC scope cl C X.env) fp) kx tk)
    (valE : ∀ (s : Shared) (H : Hp) (C : Addr) (cl : List (Str × Addr)) (fp : List Addr), PE (X.blk s H scope (compEnvC scope cl C X.env) fp) vx tv) (hs : ∀ x, foldedSetIterable iter X.env x = pure x := by intro _; rfl) :
    PS X (.Assign [.Name y py] (.DictComp kx vx [⟨tg, iter, [], 0⟩] scope pos) spos) (tAsg (tDcT wi g tk tv (own.map (·.2))) (gName i)) := by
  refine ⟨fun pins s σ H D I want => ?_⟩
  rw [exec_Assign_Name_used _ _ _ _ hsw]
  refine wpAny_bind (wpAny_standAt (wpAny_bind ?_))
  show wpAny _ X.A (do let _ ← comprehension (.DictComp kx vx [⟨tg, iter, [], 0⟩] scope pos) scope X.env (firstIterPos [⟨tg, iter, [], 0⟩] pos) newDict false (eval iter X.env) (some (assign (.Name y py) X.env))) _ _ s
  have want : tDcT wi g tk tv (own.map (·.2)) σ H (fun x H1 => gName i x σ H1 D.nx) := want
  refine wpAny_bind (thn (dcT_core (Qf := fun _ s' => SP X pins D .next s') hc hN hu I src ok aim keyE valE hs want fun L C s' m H' I' q hn f => ?_) fun _ s' hq => wpAny_pure (wpAny_pure hq))
  show wpAny _ _ (assign (.Name y py) X.env (.ref L)) _ _ _
  refine wpAny_assign_Name (store_ok2 (v := V.ref L) I' hN hy (.inl loc) rfl (fun s2 I2 ⟨a, sb, ha⟩ => ?_) (.inr loc))
  obtain ⟨f0, f1, f2, f3, f4, f5⟩ := f
  have away : C ≠ a := ha.elim (fun z => z ▸ f1) (fun z e => f4 y a z e.symm)
  exact ⟨m, hn.sameBut sb away, fun h3 sb3 => ⟨_, H', I2.turned (t' := s2.toks) (fun b o hb e => (sb3.2 b hb).trans e) f0 f1 f3 f4 f5, q⟩⟩
theorem swD_true {kx vx : Expr} {gs : List Comprehension} {scope : Scope} {pos py : Pos} {y : Str} {l : Nat} {env : Env} (hk : env.scope.kind = .function) (hy : env.scope.names.lookup y = some .local) (hl : (py.line == pos.line) = true)
    (ha : (scope.names.any fun (n, k) => n == y && (k == .local || k == .cell)) = false) : swapsWith (.DictComp kx vx gs scope pos) (some (.Name y py)) l env = pure true := by
  have ky : env.kindOf y = some .local := hy
  have hb : env.blockKind = .function := by unfold Env.blockKind; rw [hk]; rfl
  unfold swapsWith
  simp only [hb, ky, ha, Expr.pos, hl]
  rfl
end
end Pf

namespace Pf
open PySem PySem.Spec PyProof.Rows L2
/-! ### what deeds make of a paper -/
inductive Ek where
  | badDeed | badName | taken | badPlan | full | noPaper | unfolded | badWay | noPinch | badSlot | badColour | badLetter | folded | otherRow | badNumber | badStep | noBack | noForth
  deriving DecidableEq
/-- what comes of a call: it tells a value, or it refuses -/
def Out {α : Type} [Rep α] (ad : Ek → Addr) (G H : Hp) (Q : VK) (E : XK) (r : Except Ek α) : Prop :=
  match r with
  | .ok z => ∀ v G' H', Gr M0 G H G' H' → rep G' v z → Q v H'
  | .error k => ∀ G' H', Gr M0 G H G' H' → E (.ref (ad k)) none H'
theorem Out.after {α : Type} [Rep α] {ad : Ek → Addr} {G H G1 H1 : Hp} {Q : VK} {E : XK} {r : Except Ek α} (h : Out ad G H Q E r) (g : Gr M0 G H G1 H1) : Out ad G1 H1 Q E r := by
  cases r with
  | ok z => exact fun v G' H' g' r => h v G' H' (g.trans g') r
  | error k => exact fun G' H' g' => h G' H' (g.trans g')
section
variable {α β γ δ ε : Type} [Rep α] [Rep β] [Rep γ] [Rep δ] [Rep ε]
def spR1 (ad : Ek → Addr) (pre : α → Prop) (f : α → Except Ek δ) : Sp := fun vs H Q E => ∃ v x G, vs = [v] ∧ Same G H ∧ rep G v x ∧ pre x ∧ Out ad G H Q E (f x)
def spR2 (ad : Ek → Addr) (pre : α → β → Prop) (f : α → β → Except Ek δ) : Sp := fun vs H Q E => ∃ v x v2 x2 G, vs = [v, v2] ∧ Same G H ∧ rep G v x ∧ rep G v2 x2 ∧ pre x x2 ∧ Out ad G H Q E (f x x2)
def spR3 (ad : Ek → Addr) (pre : α → β → γ → Prop) (f : α → β → γ → Except Ek δ) : Sp := fun vs H Q E => ∃ v x v2 x2 v3 x3 G, vs = [v, v2, v3] ∧ Same G H ∧ rep G v x ∧ rep G v2 x2 ∧ rep G v3 x3 ∧ pre x x2 x3 ∧ Out ad G H Q E (f x x2 x3)
theorem len_spR1 {ad : Ek → Addr} {pre : α → Prop} {f : α → Except Ek δ} {a : Str} : ∀ vs H Q E, spR1 ad pre f vs H Q E → vs.length = [a].length := fun vs H Q E h => by obtain ⟨v, x, G, rfl, _⟩ := h; rfl
theorem len_spR2 {ad : Ek → Addr} {pre : α → β → Prop} {f : α → β → Except Ek δ} {a b : Str} : ∀ vs H Q E, spR2 ad pre f vs H Q E → vs.length = [a, b].length := fun vs H Q E h => by obtain ⟨v, x, v2, x2, G, rfl, _⟩ := h; rfl
theorem len_spR3 {ad : Ek → Addr} {pre : α → β → γ → Prop} {f : α → β → γ → Except Ek δ} {a b c : Str} : ∀ vs H Q E, spR3 ad pre f vs H Q E → vs.length = [a, b, c].length := fun vs H Q E h => by obtain ⟨v, x, v2, x2, v3, x3, G, rfl, _⟩ := h; rfl
/-- an expression that tells or refuses -/
def EvR (te : TE) (σ : L2.St) (G : Hp) (ad : Ek → Addr) (W : WX) (r : Except Ek α) : Prop := ∀ H, Same G H → ∀ Q : VK, Out ad G H Q (WE W σ) r → te σ H Q
variable {σ : L2.St} {G H : Hp} {te ta tb tc : TE} {ad : Ek → Addr} {W : WX} {D : Ends} {u : TS}
theorem er_call1 {pre : α → Prop} {f : α → Except Ek δ} {x : α} (ha : Ev ta σ G x) (hp : pre x) : EvR (tCallS (spR1 ad pre f) (WE W) (tCons ta tNil)) σ G ad W (f x) := fun H i Q o =>
  ha H i _ fun v G1 H1 g1 r1 => ⟨v, x, G1, rfl, g1.i, r1, hp, o.after g1⟩
theorem er_call2 {pre : α → β → Prop} {f : α → β → Except Ek δ} {x : α} {y : β} (ha : Ev ta σ G x) (hb : Ev tb σ G y) (hp : pre x y) : EvR (tCallS (spR2 ad pre f) (WE W) (tCons ta (tCons tb tNil))) σ G ad W (f x y) := fun H i Q o =>
  ha H i _ fun v G1 H1 g1 r1 => (hb.mono g1.g) H1 g1.i _ fun v2 G2 H2 g2 r2 => ⟨v, x, v2, y, G2, rfl, g2.i, Rep.mono g2.g r1, r2, hp, (o.after g1).after g2⟩
theorem er_call3 {pre : α → β → γ → Prop} {f : α → β → γ → Except Ek δ} {x : α} {y : β} {z : γ} (ha : Ev ta σ G x) (hb : Ev tb σ G y) (hc : Ev tc σ G z) (hp : pre x y z) : EvR (tCallS (spR3 ad pre f) (WE W) (tCons ta (tCons tb (tCons tc tNil)))) σ G ad W (f x y z) := fun H i Q o =>
  ha H i _ fun v G1 H1 g1 r1 => (hb.mono g1.g) H1 g1.i _ fun v2 G2 H2 g2 r2 => (hc.mono (g1.g.trans g2.g)) H2 g2.i _ fun v3 G3 H3 g3 r3 => ⟨v, x, v2, y, v3, z, G3, rfl, g3.i, Rep.mono (g2.g.trans g3.g) r1, Rep.mono g3.g r2, r3, hp, ((o.after g1).after g2).after g3⟩
end
section
variable {α β γ δ ε : Type} [Rep α] [Rep β] [Rep γ] [Rep δ] [Rep ε]
def spR4 (ad : Ek → Addr) (pre : α → β → γ → ε → Prop) (f : α → β → γ → ε → Except Ek δ) : Sp := fun vs H Q E => ∃ v x v2 x2 v3 x3 v4 x4 G, vs = [v, v2, v3, v4] ∧ Same G H ∧ rep G v x ∧ rep G v2 x2 ∧ rep G v3 x3 ∧ rep G v4 x4 ∧ pre x x2 x3 x4 ∧ Out ad G H Q E (f x x2 x3 x4)
theorem len_spR4 {ad : Ek → Addr} {pre : α → β → γ → ε → Prop} {f : α → β → γ → ε → Except Ek δ} {a b c d : Str} : ∀ vs H Q E, spR4 ad pre f vs H Q E → vs.length = [a, b, c, d].length := fun vs H Q E h => by obtain ⟨v, x, v2, x2, v3, x3, v4, x4, G, rfl, _⟩ := h; rfl
variable {σ : L2.St} {G H : Hp} {te ta tb tc td : TE} {ad : Ek → Addr} {W : WX} {D : Ends} {u : TS} {r : Except Ek α}
theorem er_call4 {pre : α → β → γ → ε → Prop} {f : α → β → γ → ε → Except Ek δ} {x : α} {y : β} {z : γ} {t : ε} (ha : Ev ta σ G x) (hb : Ev tb σ G y) (hc : Ev tc σ G z) (hd : Ev td σ G t) (hp : pre x y z t) : EvR (tCallS (spR4 ad pre f) (WE W) (tCons ta (tCons tb (tCons tc (tCons td tNil))))) σ G ad W (f x y z t) := fun H i Q o =>
  ha H i _ fun v G1 H1 g1 r1 => (hb.mono g1.g) H1 g1.i _ fun v2 G2 H2 g2 r2 => (hc.mono (g1.g.trans g2.g)) H2 g2.i _ fun v3 G3 H3 g3 r3 => (hd.mono ((g1.g.trans g2.g).trans g3.g)) H3 g3.i _ fun v4 G4 H4 g4 r4 => ⟨v, x, v2, y, v3, z, v4, t, G4, rfl, g4.i, Rep.mono ((g2.g.trans g3.g).trans g4.g) r1, Rep.mono (g3.g.trans g4.g) r2, Rep.mono g4.g r3, r4, hp, (((o.after g1).after g2).after g3).after g4⟩
theorem EvR.mono {G1 : Hp} (h : EvR te σ G ad W r) (e : Same G G1) : EvR te σ G1 ad W r := fun H i Q o => h H (e.trans i) Q (by
  cases r with
  | ok z => exact fun v G' H' g k => o v (uni G' G1) H' (gr_up e i g) (Rep.mono uni_l k)
  | error k => exact fun G' H' g => o (uni G' G1) H' (gr_up e i g))
theorem sq_setR {i : Nat} (h : EvR te σ G ad W r) (s : Same G H) (k : ∀ x, r = .ok x → ∀ v G' H', Gr M0 G H G' H' → rep G' v x → u D (σ.set i (some v)) H') (ke : ∀ e, r = .error e → ∀ G' H', Gr M0 G H G' H' → WE W σ (.ref (ad e)) none H') : tSeq (tAsg te (gName i)) u D σ H :=
  h H s _ (by
    cases r with
    | ok x => exact fun v G' H' g rr => k x rfl v G' H' g rr
    | error e => exact fun G' H' g => ke e rfl G' H' g)
theorem sq_dropR (h : EvR te σ G ad W r) (s : Same G H) (k : ∀ x, r = .ok x → ∀ G' H', Gr M0 G H G' H' → u D σ H') (ke : ∀ e, r = .error e → ∀ G' H', Gr M0 G H G' H' → WE W σ (.ref (ad e)) none H') : tSeq (tDrop te) u D σ H :=
  h H s _ (by
    cases r with
    | ok x => exact fun v G' H' g rr => k x rfl G' H' g
    | error e => exact fun G' H' g => ke e rfl G' H' g)
theorem st_dropR (h : EvR te σ G ad W r) (s : Same G H) (k : ∀ x, r = .ok x → ∀ G' H', Gr M0 G H G' H' → D.nx σ H') (ke : ∀ e, r = .error e → ∀ G' H', Gr M0 G H G' H' → WE W σ (.ref (ad e)) none H') : tDrop te D σ H :=
  h H s _ (by
    cases r with
    | ok x => exact fun v G' H' g rr => k x rfl G' H' g
    | error e => exact fun G' H' g => ke e rfl G' H' g)
theorem st_retR (h : EvR te σ G ad W r) (s : Same G H) (o : Out ad G H D.rt (WE W σ) r) : tRet te D σ H := h H s _ o
theorem sq_triR {β γ : Type} [Rep β] [Rep γ] {r : Except Ek (Tri α β γ)} {K : Fg} {i j l : Nat} (h : EvR te σ G ad W r) (s : Same G H) (k : ∀ x, r = .ok x → ∀ v w z G' H', Gr M0 G H G' H' → rep G' v x.a → rep G' w x.b → rep G' z x.c → u D (((σ.set i (some v)).set j (some w)).set l (some z)) H') (ke : ∀ e, r = .error e → ∀ G' H', Gr M0 G H G' H' → WE W σ (.ref (ad e)) none H') :
    tSeq (tAsg te (gTup K 3 (gCons (gName i) (gCons (gName j) (gCons (gName l) gNil))))) u D σ H := h H s _ (by
    cases r with
    | ok x =>
      intro v G' H' g rr
      obtain ⟨a, u1, w, z, rfl, h2, h3, h4, h5⟩ := rr
      exact ⟨a, [u1, w, z], rfl, .inl (.inl (g.i _ _ h2)), rfl, u1, [w, z], rfl, w, [z], rfl, z, [], rfl, rfl, k x rfl u1 w z G' H' g h3 h4 h5⟩
    | error e => exact fun G' H' g => ke e rfl G' H' g)
end
/-! ### the functions of papers -/
def mvdM (p : PapM) (f : Plan × T3) (s : Int × Int) : PapM := { p with fold := some (f.1, ⟨s.1, s.2, f.2.c⟩) }
def pinM (word : Str) (p : PapM) (way : Str) : Except Ek PapM := match p.fold with
  | none => .error .unfolded
  | some f => if way ∈ waysL then (if (thW f.1 (f.2.a, f.2.b) way).isSome = true then .ok (mvdM p f (goneM f.1 (f.2.a, f.2.b) word way)) else .error .noPinch) else .error .badWay
def overM (p : PapM) : Except Ek PapM := match p.fold with
  | none => .error .unfolded
  | some f => .ok (mvdM p f (f.2.b, f.2.a))
def aboutM (p : PapM) : Except Ek PapM := match p.fold with
  | none => .error .unfolded
  | some f => .ok { p with fold := some (f.1, ⟨f.2.a, f.2.b, (f.2.c + 1) % 3⟩) }
def ringM (p : Plan) (l : T3) : List (Tri Int Str Int) := (enumI ((heapsM p l).map fun h => ix h 0)).map fun e => if decide (e.1 % 2 = 0) = true then Tri.mk e.2 ("fore" : Str) (middlesM p (l.a, l.b)).1 else Tri.mk e.2 ("back" : Str) (middlesM p (l.a, l.b)).2
theorem ring_len (p : Plan) (l : T3) : (ringM p l).length = 6 := rfl
abbrev BareL : Str × Str := ("", "---")
def onLeafM (l : LvL) (k : Int × Str) : Str × Str := (look l k).getD BareL
def withM (p : PapM) (k : Int × Str) (t : Str × Str) : PapM := { p with lv := put p.lv k t }
instance : Inhabited (Tri Int Str Int) := ⟨⟨0, "", 0⟩⟩
def topM (p : PapM) (slot : Int) : Except Ek (Tri Int Str Int) := match p.fold with
  | none => .error .unfolded
  | some f => if 0 ≤ slot ∧ slot ≤ 5 then .ok (ix (ringM f.1 f.2) slot) else .error .badSlot
def paintM (p : PapM) (slot : Int) (c : Str) : Except Ek PapM := match topM p slot with
  | .error e => .error e
  | .ok t => if c ∈ coloursL then .ok (withM p (t.a, t.b) (c, (onLeafM p.lv (t.a, t.b)).2)) else .error .badColour
def setL (l : Str) (c : Int) (x : Str) : Str := cutS l none (some c) ++ x ++ cutS l (some (c + 1)) none
def markM (p : PapM) (slot : Int) (x : Str) : Except Ek PapM := match topM p slot with
  | .error e => .error e
  | .ok t => if letB x = true then .ok (withM p (t.a, t.b) ((onLeafM p.lv (t.a, t.b)).1, setL (onLeafM p.lv (t.a, t.b)).2 t.c x)) else .error .badLetter
def washM (p : PapM) (slot : Int) : Except Ek PapM := match topM p slot with
  | .error e => .error e
  | .ok t => .ok (withM p (t.a, t.b) BareL)
def unfoldM (p : PapM) : Except Ek PapM := match p.fold with
  | none => .error .unfolded
  | some _ => .ok { p with fold := none }
def refoldM (p : PapM) (q : Plan) : Except Ek PapM := match p.fold with
  | some _ => .error .folded
  | none => if isPlanM q = true then (if rowM q = p.row then .ok { p with fold := some (q, ⟨0, 1, 0⟩) } else .error .otherRow) else .error .badPlan
def newM (q : Plan) : Except Ek PapM := if isPlanM q = true then .ok ⟨rowM q, some (q, ⟨0, 1, 0⟩), []⟩ else .error .badPlan
/-- what a paper keeps to: n deeds at most were done -/
structure GoodP (n : Nat) (p : PapM) : Prop where
  row : 3 ≤ p.row.length ∧ p.row.length ≤ 40
  fold : ∀ f, p.fold = some f → isPlanM f.1 = true ∧ Jn f.1 f.2.a f.2.b ∧ 0 ≤ f.2.c ∧ f.2.c ≤ 2 ∧ rowM f.1 = p.row
  lv : p.lv.length ≤ n
  nd : (p.lv.map (·.1)).Nodup
  let_ : ∀ e ∈ p.lv, e.2.2.length = 3 ∧ e.2.1.length ≤ 10
theorem GoodP.le {n m : Nat} {p : PapM} (g : GoodP n p) (h : n ≤ m) : GoodP m p := ⟨g.row, g.fold, Nat.le_trans g.lv h, g.nd, g.let_⟩

/-! ### deeds -/
inductive Ac where
  | pinch (w : Str) | unpinch (w : Str) | over | about | paint (s : Int) (c : Str) | mark (s : Int) (x : Str) | wash (s : Int) | unfold | refold (q : Plan)
def Ac.word : Ac → Str
  | .pinch _ => "pinch"
  | .unpinch _ => "unpinch"
  | .over => "over"
  | .about => "about"
  | .paint _ _ => "paint"
  | .mark _ _ => "mark"
  | .wash _ => "wash"
  | .unfold => "unfold"
  | .refold _ => "refold"
def Ac.things : Ac → List Th
  | .pinch w => [.s w]
  | .unpinch w => [.s w]
  | .over => []
  | .about => []
  | .paint s c => [.n s, .s c]
  | .mark s x => [.n s, .s x]
  | .wash s => [.n s]
  | .unfold => []
  | .refold q => [.p q]
def actM (p : PapM) : Ac → Except Ek PapM
  | .pinch w => pinM sP p w
  | .unpinch w => pinM "unpinch" p w
  | .over => overM p
  | .about => aboutM p
  | .paint s c => paintM p s c
  | .mark s x => markM p s x
  | .wash s => washM p s
  | .unfold => unfoldM p
  | .refold q => refoldM p q
/-- such an act as the program's promise covers: texts of some length, a refolding by the right row -/
def Ac.ok (p : PapM) : Ac → Prop
  | .mark _ x => x.length ≤ 90000
  | .refold q => refoldM p q ≠ .error .otherRow
  | _ => True
inductive Dd where
  | fold (n : Str) (q : Plan) | drop (n : Str) | act (n : Str) (a : Ac)
def Dd.name : Dd → Str
  | .fold n _ => n
  | .drop n => n
  | .act n _ => n
def Dd.ths : Dd → List Th
  | .fold n q => [.s "fold", .s n, .p q]
  | .drop n => [.s "drop", .s n]
  | .act n a => .s a.word :: .s n :: a.things
/-! ### the text's own errors -/
structure Exs (K : Fg) (mg : Str → Option Value) (ad : Ek → Addr) : Prop where
  badDeed : Ecl K mg "BadDeed" (ad .badDeed)
  badName : Ecl K mg "BadName" (ad .badName)
  taken : Ecl K mg "Taken" (ad .taken)
  badPlan : Ecl K mg "BadPlan" (ad .badPlan)
  full : Ecl K mg "Full" (ad .full)
  noPaper : Ecl K mg "NoPaper" (ad .noPaper)
  unfolded : Ecl K mg "Unfolded" (ad .unfolded)
  badWay : Ecl K mg "BadWay" (ad .badWay)
  noPinch : Ecl K mg "NoPinch" (ad .noPinch)
  badSlot : Ecl K mg "BadSlot" (ad .badSlot)
  badColour : Ecl K mg "BadColour" (ad .badColour)
  badLetter : Ecl K mg "BadLetter" (ad .badLetter)
  folded : Ecl K mg "Folded" (ad .folded)
  badNumber : Ecl K mg "BadNumber" (ad .badNumber)
  badStep : Ecl K mg "BadStep" (ad .badStep)
  noBack : Ecl K mg "NoBack" (ad .noBack)
end Pf

namespace Pf
open PySem PySem.Spec PyProof.Rows L2
/-! ### what is on the leaves -/
section
variable {κ α : Type} [Rep κ] [TK κ] [DecidableEq κ] [Rep α]
theorem valV_at {kvs : List (List Key × V)} (nd : (kvs.map (·.1)).Nodup) {i : Nat} {k : List Key} {v : V} (h : kvs[i]? = some (k, v)) : valV kvs k = some v ∧ valV (kvs.take i) k = none := by
  induction kvs generalizing i with
  | nil => simp at h
  | cons e r ih =>
    rw [List.map_cons, List.nodup_cons] at nd
    cases i with
    | zero =>
      simp only [List.getElem?_cons_zero, Option.some.injEq] at h
      subst h
      exact ⟨valV_pos rfl, rfl⟩
    | succ i =>
      rw [List.getElem?_cons_succ] at h
      have ne : ¬ e.1 = k := fun z => nd.1 (z ▸ List.mem_map.mpr ⟨(k, v), List.mem_of_getElem? h, rfl⟩)
      obtain ⟨h1, h2⟩ := ih nd.2 h
      exact ⟨by rw [valV_neg ne]; exact h1, by rw [List.take_succ_cons, valV_neg ne]; exact h2⟩
theorem keysN_nodup {G : Hp} {kvs : List (List Key × V)} {l : List (κ × α)} (h : Paired (EnR G) kvs l) (nd : (l.map (·.1)).Nodup) : (kvs.map (·.1)).Nodup := by
  have e : kvs.map (·.1) = l.map fun x => TK.ky x.1 := by
    clear nd
    induction h with
    | nil => rfl
    | @cons a b as bs r t ih => rw [List.map_cons, List.map_cons, ih, r.1]
  rw [e, show (l.map fun x => TK.ky x.1) = (l.map (·.1)).map TK.ky by rw [List.map_map]; rfl]
  exact List.Pairwise.map _ (fun _ _ h z => h (TK.inj z)) nd
end
theorem lvK_keys (K : Fg) (l : LvL) : (lvK K l).map (·.1) = l.map (·.1) := by unfold lvK; rw [List.map_map]; rfl
theorem lvK_len (K : Fg) (l : LvL) : (lvK K l).length = l.length := List.length_map _
theorem lvK_look (K : Fg) (k : Int × Str) : ∀ l : LvL, look (lvK K l) k = (look l k).map LeafV.mk
  | [] => rfl
  | (a, t) :: l => by
    have ih := lvK_look K k l
    unfold look lvK at ih ⊢
    rw [List.map_cons, List.find?_cons, List.find?_cons]
    cases decide (a = k) with
    | true => rfl
    | false => exact ih
theorem lvK_put (K : Fg) (k : Int × Str) (t : Str × Str) (l : LvL) : put (lvK K l) k (LeafV.mk t) = lvK K (put l k t) := by
  unfold put lvK
  rw [List.any_map]
  by_cases h : (l.any fun e => decide (e.1 = k)) = true
  · rw [if_pos h, if_pos (by exact h), List.map_map, List.map_map]
    refine List.map_congr_left fun e _ => ?_
    show (if e.1 = k then (e.1, LeafV.mk t) else (e.1, LeafV.mk e.2)) = _
    by_cases z : e.1 = k
    · show _ = ((if e.1 = k then (e.1, t) else e).1, LeafV.mk (if e.1 = k then (e.1, t) else e).2)
      rw [if_pos z, if_pos z]
    · show _ = ((if e.1 = k then (e.1, t) else e).1, LeafV.mk (if e.1 = k then (e.1, t) else e).2)
      rw [if_neg z, if_neg z]
  · rw [if_neg h, if_neg (by exact h), List.map_append]
    rfl
section
variable {σ : L2.St} {G H : Hp} {te ta tb tx : TE} {K : Fg} {D : Ends} {u : TS} {C : Addr} {p : PapM}
/-- d.get(k, z), k a tuple -/
theorem ev_tget2 {κ α : Type} [Rep κ] [TK κ] [DecidableEq κ] [Rep α] {k : κ} {d : Dct κ α} {z : α} (ha : Ev ta σ G d) (hb : Ev tb σ G k) (hz : Ev tx σ G z) : Ev (tDGet2 ta tb tx) σ G ((look d.l k).getD z) := fun H i Q q =>
  ha H i _ fun v G1 H1 g1 k1 => by
    obtain ⟨a, kvs, rfl, e1, e2⟩ := k1
    refine ⟨a, rfl, .inr ⟨kvs, .inl (g1.i _ _ e1)⟩, (hb.mono g1.g) H1 g1.i _ fun y G2 H2 g2 k2 => (hz.mono (g1.g.trans g2.g)) H2 g2.i _ fun w G3 H3 g3 k3 => ?_⟩
    obtain ⟨b, rfl, h2⟩ := TK.of k2
    have e3 := enr_mono (g2.g.trans g3.g) e2
    have h := val_look k e3
    refine ⟨_, DGet.t (g3.i _ _ (g3.g _ _ (g2.g _ _ e1))) (g3.i _ _ (g3.g _ _ h2)), q _ G3 H3 ((g1.trans g2).trans g3) ?_⟩
    cases hm : look d.l k with
    | none => rw [hm] at h; rw [show valV kvs (TK.ky k) = none from h]; exact k3
    | some x => rw [hm] at h; obtain ⟨u, eu, ru⟩ := h; rw [eu]; exact ru
/-- a new dict that the asker may change -/
def EvMt {κ α : Type} [Rep κ] [TK κ] [DecidableEq κ] [Rep α] (te : TE) (σ : L2.St) (G : Hp) (l : List (κ × α)) : Prop := ∀ H, Same G H → ∀ Q : VK, (∀ d G' H', Gr M0 G H G' H' → H d = none → Mt G' H' d l → Q (.ref d) H') → te σ H Q
theorem sq_setML {κ α : Type} [Rep κ] [TK κ] [DecidableEq κ] [Rep α] {i : Nat} {l : List (κ × α)} (h : EvMt (tLockE te) σ G l) (s : Same G H) (k : ∀ d G' H', Gr M0 G H G' H' → H d = none → Mt G' H' d l → u D (σ.set i (some (.ref d))) H') : tSeq (tLock (tAsg te (gName i))) u D σ H := h H s (fun v H' => u D (σ.set i (some v)) H') k
theorem em_copy {v v1 v2 v3 : V} (cp : ClPap K C) (r : rep G v (Pap.mk p : Pap K C)) (hn : p.lv.length ≤ 90000) (nd : (p.lv.map (·.1)).Nodup) :
    EvMt (tLockE (tDcT (iKeys (tFld K (tVar 0) "leaves")) (gName 5) (tVar 5) (tDGet (tFld K (tVar 0) "leaves") (tVar 5)) [5])) [some v, some v1, some v2, some v3, none, none] G (lvK K p.lv) := fun H i Q q => by
  obtain ⟨a, dx, u1, u2, l, rfl, h2, h3, b, kvs, rfl, hb, pr⟩ := r
  have nk := keysN_nodup pr (by rw [lvK_keys]; exact nd)
  have hl : kvs.length = p.lv.length := (Paired.length pr).trans (lvK_len K p.lv)
  have Ha := i _ _ h2
  have Hb := i _ _ hb
  have ab : a ≠ b := fun z => by rw [z, Hb] at Ha; cases Ha
  refine ⟨b, .dT kvs, Hb, trivial, fun od => ?_⟩
  have e1 : upd H b (.frz od (.dT kvs)) a = _ := (upd_ne ab).trans Ha
  have e2 : upd H b (.frz od (.dT kvs)) b = some (.frz od (.dT kvs)) := upd_same
  refine ⟨.ref a, rfl, a, C, dx, _, .ref b, rfl, e1, cp.c, cp.n4, rfl, b, od, rfl, .inr ⟨kvs, e2, fun D nD => ?_⟩⟩
  have nD' : H D = none := by
    by_cases z : D = b
    · rw [z, e2] at nD; cases nD
    · rw [upd_ne z] at nD; exact nD
  have Da : a ≠ D := fun z => by rw [← z, Ha] at nD'; cases nD'
  have Db : b ≠ D := fun z => by rw [← z, Hb] at nD'; cases nD'
  refine ⟨fun k m H' => m = kvs.length - k ∧ k ≤ kvs.length ∧ H' = upd (upd H b (.frz od (.dT kvs))) D (.dT (kvs.take k)), ⟨_, rfl, Nat.zero_le _, rfl⟩, ?_⟩
  rintro k m H' ⟨rfl, hk, rfl⟩
  have f2 : ∀ o, upd (upd H b (.frz od (.dT kvs))) D o b = some (.frz od (.dT kvs)) := fun o => (upd_ne Db).trans e2
  have f1 : ∀ o, upd (upd H b (.frz od (.dT kvs))) D o a = _ := fun o => (upd_ne Da).trans e1
  by_cases hlt : k < kvs.length
  · refine .inr ⟨⟨f2 _, hlt⟩, fun H'' => H'' = upd (upd H b (.frz od (.dT kvs))) D (.dT (kvs.take (k + 1))), fun H'' e => ⟨kvs.length - (k + 1), by omega, rfl, hlt, e⟩, fun x H'' y => ?_⟩
    obtain ⟨rfl, ky, vv, qa, ek, rfl, eq⟩ := y
    obtain ⟨val1, val2⟩ := valV_at nk ek
    refine ⟨rfl, .ref qa, rfl, .ref a, rfl, a, C, dx, _, .ref b, rfl, f1 _, cp.c, cp.n4, rfl, .ref qa, rfl, b, vv, rfl, .inr ⟨kvs, ky, qa, .inr ⟨od, f2 _⟩, rfl, eq, val1.symm⟩, kvs.take k, ky, qa, rfl, eq, upd_same, ?_, ?_⟩
    · exact sl_lt (by rw [List.length_take]; omega)
    · rw [putK_new vv val2]
      funext z
      by_cases e : z = D
      · subst e
        rw [upd_same, upd_same, List.take_add_one, ek]
        rfl
      · rw [upd_ne e, upd_ne e, upd_ne e]
  · have e : k = kvs.length := by omega
    subst e
    refine .inl ⟨⟨f2 _, Nat.le_refl _⟩, f2 _, ?_⟩
    have hH : upd (upd (upd H b (.frz od (.dT kvs))) D (.dT (kvs.take kvs.length))) b (.dT kvs) = upd H D (.dT kvs) := funext fun z => by
      by_cases e3 : z = b
      · subst e3; rw [upd_same, upd_ne Db]; exact Hb.symm
      · rw [upd_ne e3]
        by_cases e4 : z = D
        · subst e4; rw [upd_same, upd_same, List.take_length]
        · rw [upd_ne e4, upd_ne e4, upd_ne e3]
    rw [hH]
    have nG := up_none i nD'
    exact q D G _ ((Gr.refl i).mut (.inl nD') nG) nD' ⟨nG, kvs, upd_same, pr⟩
end
end Pf

namespace Pf
open PySem PySem.Spec PyProof.Rows L2
/-! ### what is seen -/
structure Sight where
  a : Int
  b : Str
  c : Int
  d : Str
  e : Str
instance : Rep Sight := ⟨fun G v s => ∃ p, v = .ref p ∧ G p = some (.tup [.int s.a, .str s.b, .int s.c, .str s.d, .str s.e]), fun e ⟨p, h1, h2⟩ => ⟨p, h1, e _ _ h2⟩⟩
def seenL (l side : Str) (c : Int) : Str :=
  let z := fun n : Nat => (l.cps.toList ++ l.cps.toList).getD (c.toNat + n) 0
  if side = "fore" then tx [z 0, z 1, z 2] else tx [z 0, z 2, z 1]
def sightM (p : PapM) (t : Tri Int Str Int) : Sight := ⟨t.a, t.b, t.c, (onLeafM p.lv (t.a, t.b)).1, seenL (onLeafM p.lv (t.a, t.b)).2 t.b t.c⟩
def seenM (p : PapM) : Except Ek (List Sight) := match p.fold with
  | none => .error .unfolded
  | some f => .ok ((ringM f.1 f.2).map (sightM p))
abbrev GoodT (t : Tri Int Str Int) : Prop := (t.b = "fore" ∨ t.b = "back") ∧ 0 ≤ t.c ∧ t.c ≤ 2
theorem ring_good (p : Plan) (l : T3) : ∀ t ∈ ringM p l, GoodT t := by
  intro t ht
  unfold ringM at ht
  obtain ⟨e, _, rfl⟩ := List.mem_map.mp ht
  have m1 := Int.emod_nonneg (((fanM p l.a).idxOf l.b : Nat) : Int) (show (3 : Int) ≠ 0 by decide)
  have m2 := Int.emod_lt_of_pos (((fanM p l.a).idxOf l.b : Nat) : Int) (show (0 : Int) < 3 by decide)
  have m3 := Int.emod_nonneg (((fanM p l.a).idxOf l.b : Nat) - (((fanM p l.a).length : Nat) - 1 : Int)) (show (3 : Int) ≠ 0 by decide)
  have m4 := Int.emod_lt_of_pos (((fanM p l.a).idxOf l.b : Nat) - (((fanM p l.a).length : Nat) - 1 : Int)) (show (0 : Int) < 3 by decide)
  split
  · exact ⟨.inl rfl, m1, by show (((fanM p l.a).idxOf l.b : Nat) : Int) % 3 ≤ 2; omega⟩
  · exact ⟨.inr rfl, m3, by show (((fanM p l.a).idxOf l.b : Nat) - (((fanM p l.a).length : Nat) - 1 : Int)) % 3 ≤ 2; omega⟩
theorem top_ok {p : PapM} {slot : Int} {t : Tri Int Str Int} (h : topM p slot = .ok t) : ∃ f, p.fold = some f ∧ 0 ≤ slot ∧ slot ≤ 5 ∧ t = ix (ringM f.1 f.2) slot ∧ GoodT t := by
  unfold topM at h
  cases e : p.fold with
  | none => rw [e] at h; cases h
  | some f =>
    rw [e] at h
    by_cases z : 0 ≤ slot ∧ slot ≤ 5
    · have h : (if 0 ≤ slot ∧ slot ≤ 5 then (.ok (ix (ringM f.1 f.2) slot) : Except Ek _) else .error .badSlot) = .ok t := h
      rw [if_pos z] at h
      cases h
      refine ⟨f, rfl, z.1, z.2, rfl, ring_good f.1 f.2 _ ?_⟩
      have hl := ring_len f.1 f.2
      unfold ix
      rw [List.getElem?_eq_getElem (show slot.toNat < (ringM f.1 f.2).length by omega)]
      exact List.getElem_mem _
    · have h : (if 0 ≤ slot ∧ slot ≤ 5 then (.ok (ix (ringM f.1 f.2) slot) : Except Ek _) else .error .badSlot) = .ok t := h
      rw [if_neg z] at h
      cases h
theorem three {l : Str} (h : l.length = 3) : ∃ a b c, l = tx [a, b, c] := by
  obtain ⟨⟨l⟩⟩ := l
  match l, h with
  | [a, b, c], _ => exact ⟨a, b, c, rfl⟩
theorem leaf_good {n : Nat} {p : PapM} (g : GoodP n p) (k : Int × Str) : (onLeafM p.lv k).2.length = 3 ∧ (onLeafM p.lv k).1.length ≤ 10 := by
  unfold onLeafM look
  cases e : p.lv.find? fun x => decide (x.1 = k) with
  | none => exact ⟨by decide +kernel, by decide +kernel⟩
  | some x => exact g.let_ x (List.mem_of_find?_eq_some e)
theorem put_keysA {κ α : Type} [DecidableEq κ] (l : List (κ × α)) (k : κ) (x : α) : (put l k x).length ≤ l.length + 1 ∧ ((l.map (·.1)).Nodup → ((put l k x).map (·.1)).Nodup) ∧ ∀ e ∈ put l k x, e ∈ l ∨ e.2 = x := by
  unfold put
  by_cases h : (l.any fun e => decide (e.1 = k)) = true
  · rw [if_pos h]
    refine ⟨by rw [List.length_map]; omega, fun nd => ?_, fun e he => ?_⟩
    · rw [List.map_map, show ((fun e : κ × α => e.1) ∘ fun e : κ × α => if e.1 = k then (e.1, x) else e) = fun e => e.1 from funext fun e => by
        show (if e.1 = k then (e.1, x) else e).1 = e.1
        split <;> rfl]
      exact nd
    · obtain ⟨e0, h0, rfl⟩ := List.mem_map.mp he
      split
      · exact .inr rfl
      · exact .inl h0
  · rw [if_neg h]
    refine ⟨by rw [List.length_append]; exact Nat.le_refl _, fun nd => ?_, fun e he => ?_⟩
    · rw [List.map_append]
      refine List.nodup_append.mpr ⟨nd, by simp, fun a ha b hb z => ?_⟩
      rw [List.map_cons, List.map_nil, List.mem_singleton] at hb
      obtain ⟨e0, h0, rfl⟩ := List.mem_map.mp ha
      exact h (List.any_eq_true.mpr ⟨e0, h0, decide_eq_true (z.trans hb)⟩)
    · rcases List.mem_append.mp he with z | z
      · exact .inl z
      · rw [List.mem_singleton.mp z]; exact .inr rfl
theorem with_good {n : Nat} {p : PapM} (g : GoodP n p) (k : Int × Str) {t : Str × Str} (ht : t.2.length = 3 ∧ t.1.length ≤ 10) : GoodP (n + 1) (withM p k t) := by
  obtain ⟨h1, h2, h3⟩ := put_keysA p.lv k t
  refine ⟨g.row, g.fold, ?_, h2 g.nd, fun e he => ?_⟩
  · show (put p.lv k t).length ≤ n + 1
    have := g.lv
    omega
  · rcases h3 e he with z | z
    · exact g.let_ e z
    · rw [z]; exact ht
theorem set_len {l x : Str} {c : Int} (hl : l.length = 3) (hx : x.length = 1) (h0 : 0 ≤ c) (h2 : c ≤ 2) : (setL l c x).length = 3 := by
  obtain ⟨a, b, d, rfl⟩ := three hl
  obtain ⟨⟨z⟩⟩ := x
  match z, hx with
  | [y], _ =>
    have : c = 0 ∨ c = 1 ∨ c = 2 := by omega
    rcases this with rfl | rfl | rfl <;> rfl
/-- an act keeps papers good -/
theorem act_good {n : Nat} {p q : PapM} (g : GoodP n p) {a : Ac} (h : actM p a = .ok q) (tj : ∀ f way word, p.fold = some f → way ∈ waysL → (thW f.1 (f.2.a, f.2.b) way).isSome = true → word = sP ∨ word = "unpinch" → Jn f.1 (goneM f.1 (f.2.a, f.2.b) word way).1 (goneM f.1 (f.2.a, f.2.b) word way).2) (j01 : ∀ q : Plan, isPlanM q = true → Jn q 0 1) : GoodP (n + 1) q := by
  have le := Nat.le_succ n
  have pinc : ∀ {word way : Str}, word = sP ∨ word = "unpinch" → pinM word p way = .ok q → GoodP (n + 1) q := fun {word way} hw h => by
    unfold pinM at h
    cases e : p.fold with
    | none => rw [e] at h; cases h
    | some f =>
      rw [e] at h
      have h : (if way ∈ waysL then (if (thW f.1 (f.2.a, f.2.b) way).isSome = true then (.ok (mvdM p f (goneM f.1 (f.2.a, f.2.b) word way)) : Except Ek PapM) else .error .noPinch) else .error .badWay) = .ok q := h
      split at h
      · next m =>
        split at h
        · next t =>
          cases h
          have gf := g.fold f e
          refine ⟨g.row, fun f' hf => ?_, Nat.le_trans g.lv le, g.nd, g.let_⟩
          have hf := Option.some.inj hf
          subst hf
          exact ⟨gf.1, tj f way word e m t hw, gf.2.2.1, gf.2.2.2.1, gf.2.2.2.2⟩
        · cases h
      · cases h
  cases a with
  | pinch way => exact pinc (.inl rfl) h
  | unpinch way => exact pinc (.inr rfl) h
  | over =>
    have h : overM p = .ok q := h
    unfold overM at h
    cases e : p.fold with
    | none => rw [e] at h; cases h
    | some f =>
      rw [e] at h
      cases h
      have gf := g.fold f e
      refine ⟨g.row, fun f' hf => ?_, Nat.le_trans g.lv le, g.nd, g.let_⟩
      have hf := Option.some.inj hf
      subst hf
      exact ⟨gf.1, gf.2.1.sym, gf.2.2.1, gf.2.2.2.1, gf.2.2.2.2⟩
  | about =>
    have h : aboutM p = .ok q := h
    unfold aboutM at h
    cases e : p.fold with
    | none => rw [e] at h; cases h
    | some f =>
      rw [e] at h
      cases h
      have gf := g.fold f e
      refine ⟨g.row, fun f' hf => ?_, Nat.le_trans g.lv le, g.nd, g.let_⟩
      have hf := Option.some.inj hf
      subst hf
      have e1 := Int.emod_nonneg (f.2.c + 1) (show (3 : Int) ≠ 0 by decide)
      have e2 := Int.emod_lt_of_pos (f.2.c + 1) (show (0 : Int) < 3 by decide)
      exact ⟨gf.1, gf.2.1, e1, by show (f.2.c + 1) % 3 ≤ 2; omega, gf.2.2.2.2⟩
  | paint s c =>
    have h : paintM p s c = .ok q := h
    unfold paintM at h
    cases e : topM p s with
    | error k => rw [e] at h; cases h
    | ok t =>
      rw [e] at h
      have h : (if c ∈ coloursL then (.ok (withM p (t.a, t.b) (c, (onLeafM p.lv (t.a, t.b)).2)) : Except Ek PapM) else .error .badColour) = .ok q := h
      split at h
      · next m =>
        cases h
        have : ∀ y ∈ coloursL, y.length ≤ 10 := by decide +kernel
        exact with_good g _ ⟨(leaf_good g _).1, this c m⟩
      · cases h
  | mark s x =>
    have h : markM p s x = .ok q := h
    unfold markM at h
    cases e : topM p s with
    | error k => rw [e] at h; cases h
    | ok t =>
      rw [e] at h
      have h : (if letB x = true then (.ok (withM p (t.a, t.b) ((onLeafM p.lv (t.a, t.b)).1, setL (onLeafM p.lv (t.a, t.b)).2 t.c x)) : Except Ek PapM) else .error .badLetter) = .ok q := h
      split at h
      · next m =>
        cases h
        obtain ⟨_, _, _, _, _, gt⟩ := top_ok e
        exact with_good g _ ⟨set_len (leaf_good g _).1 (let_facts m).1 gt.2.1 gt.2.2, (leaf_good g _).2⟩
      · cases h
  | wash s =>
    have h : washM p s = .ok q := h
    unfold washM at h
    cases e : topM p s with
    | error k => rw [e] at h; cases h
    | ok t =>
      rw [e] at h
      cases h
      exact with_good g _ ⟨by decide +kernel, by decide +kernel⟩
  | unfold =>
    have h : unfoldM p = .ok q := h
    unfold unfoldM at h
    cases e : p.fold with
    | none => rw [e] at h; cases h
    | some f =>
      rw [e] at h
      cases h
      exact ⟨g.row, (fun f' hf => by cases hf), Nat.le_trans g.lv le, g.nd, g.let_⟩
  | refold r =>
    have h : refoldM p r = .ok q := h
    unfold refoldM at h
    cases e : p.fold with
    | some f => rw [e] at h; cases h
    | none =>
      rw [e] at h
      have h : (if isPlanM r = true then (if rowM r = p.row then (.ok { p with fold := some (r, ⟨0, 1, 0⟩) } : Except Ek PapM) else .error .otherRow) else .error .badPlan) = .ok q := h
      split at h
      · next m =>
        split at h
        · next m2 =>
          cases h
          refine ⟨g.row, fun f' hf => ?_, Nat.le_trans g.lv le, g.nd, g.let_⟩
          have hf := Option.some.inj hf
          subst hf
          exact ⟨m, j01 r m, (show (0 : Int) ≤ 0 by decide), (show (0 : Int) ≤ 2 by decide), m2⟩
        · cases h
      · cases h
section
variable {α β γ δ ε : Type} [Rep α] [Rep β] [Rep γ] [Rep δ] [Rep ε] {σ : L2.St} {G H : Hp} {ta tb te : TE} {ad : Ek → Addr} {W : WX}
/-- a def that tells, called with an argument that may refuse -/
theorem er_call2b {pre : α → β → Prop} {f : α → β → γ} {x : α} {r : Except Ek β} (ha : Ev ta σ G x) (hb : EvR tb σ G ad W r) (hp : ∀ y, r = .ok y → pre x y) : EvR (tCall (sp2 pre f) [] E0 (tCons ta (tCons tb tNil))) σ G ad W (r.map (f x)) := fun H i Q o =>
  ha H i _ fun v G1 H1 g1 r1 => (hb.mono g1.g) H1 g1.i _ (by
    cases r with
    | ok y => exact fun v2 G2 H2 g2 r2 => ⟨v, x, v2, y, G2, rfl, g2.i, Rep.mono g2.g r1, r2, hp y rfl, fun w G' H' g k => o w G' H' ((g1.trans g2).trans g) k⟩
    | error k => exact fun G2 H2 g2 => o G2 H2 (g1.trans g2))
end
end Pf

namespace Pf
open PySem PySem.Spec PyProof.Rows L2
/-! ### a house -/
structure OPap (K : Fg) (C : Addr) where
  o : Option PapM
instance {K : Fg} {C : Addr} : Rep (OPap K C) := ⟨fun G v x => match x.o with | none => v = .non | some p => rep G v (Pap.mk p : Pap K C), fun {G G' v x} e h => by
  cases x with | mk o => cases o with
  | none => exact h
  | some p => exact Rep.mono (α := Pap K C) e h⟩
abbrev StE := Dd × Option PapM × Option PapM
structure HM where
  ps : List (Str × PapM)
  st : List StE
  bk : List StE
def psK (K : Fg) (C : Addr) (l : List (Str × PapM)) : List (Str × Pap K C) := l.map fun e => (e.1, Pap.mk e.2)
def stK (K : Fg) (C : Addr) (l : List StE) : List (Tri (Tup Th) (OPap K C) (OPap K C)) := l.map fun e => ⟨Tup.mk e.1.ths, ⟨e.2.1⟩, ⟨e.2.2⟩⟩
structure HA where
  a : Addr
  pp : Addr
  sp : Addr
  tp : Addr
abbrev houF (c : HA) : List (Str × V) := [("papers", .ref c.pp), ("stand", .ref c.sp), ("taken_back", .ref c.tp)]
structure Ho (K : Fg) (C CH : Addr) (G H : Hp) (c : HA) (h : HM) : Prop where
  n : G c.a = none
  e : ∃ dx, H c.a = some (.ins CH dx (houF c))
  p : Mk G H c.pp (psK K C h.ps)
  s : Ml G H c.sp (stK K C h.st)
  t : Ml G H c.tp (stK K C h.bk)
  d : c.sp ≠ c.tp
abbrev MH (c : HA) : Addr → Prop := fun q => q = c.a ∨ q = c.pp ∨ q = c.sp ∨ q = c.tp
structure ClH (K : Fg) (C : Addr) : Prop where
  c : Cls K C
  n1 : NoAttr K C "papers"
  n2 : NoAttr K C "stand"
  n3 : NoAttr K C "taken_back"
section
variable {K : Fg} {C CH : Addr} {G H G' H' : Hp} {c : HA} {h : HM}
theorem Ho.step {M : Addr → Prop} (x : Ho K C CH G H c h) (g : Gr M G H G' H') (m : ∀ q, MH c q → ¬ M q) : Ho K C CH G' H' c h := by
  obtain ⟨dx, e⟩ := x.e
  exact ⟨g.out x.n e, ⟨dx, g.h _ _ (m _ (.inl rfl)) e⟩, x.p.step g (m _ (.inr (.inl rfl))), x.s.step g (m _ (.inr (.inr (.inl rfl)))), x.t.step g (m _ (.inr (.inr (.inr rfl)))), x.d⟩
theorem Ho.step0 (x : Ho K C CH G H c h) (g : Gr M0 G H G' H') : Ho K C CH G' H' c h := x.step g (fun _ _ z => z)
theorem Ho.ap (x : Ho K C CH G H c h) : c.a ≠ c.pp ∧ c.a ≠ c.sp ∧ c.a ≠ c.tp ∧ c.pp ≠ c.sp ∧ c.pp ≠ c.tp := by
  obtain ⟨dx, e⟩ := x.e
  obtain ⟨_, kvs, e1, _⟩ := x.p
  obtain ⟨_, vs, e2, _⟩ := x.s
  obtain ⟨_, ws, e3, _⟩ := x.t
  refine ⟨fun z => ?_, fun z => ?_, fun z => ?_, fun z => ?_, fun z => ?_⟩
  · rw [z, e1] at e; cases e
  · rw [z, e2] at e; cases e
  · rw [z, e3] at e; cases e
  · rw [z, e2] at e1; cases e1
  · rw [z, e3] at e1; cases e1
/-- nothing of a house is a list, a dict .. that stands elsewhere -/
theorem Ho.none (x : Ho K C CH G H c h) {q : Addr} (nq : H q = none) : ¬ MH c q := fun m => by
  obtain ⟨dx, e⟩ := x.e
  obtain ⟨_, kvs, e1, _⟩ := x.p
  obtain ⟨_, vs, e2, _⟩ := x.s
  obtain ⟨_, ws, e3, _⟩ := x.t
  rcases m with z | z | z | z
  · rw [z, e] at nq; cases nq
  · rw [z, e1] at nq; cases nq
  · rw [z, e2] at nq; cases nq
  · rw [z, e3] at nq; cases nq
end
theorem psK_look (K : Fg) (C : Addr) (k : Str) : ∀ l : List (Str × PapM), look (psK K C l) k = (look l k).map Pap.mk
  | [] => rfl
  | (a, t) :: l => by
    have ih := psK_look K C k l
    unfold look psK at ih ⊢
    rw [List.map_cons, List.find?_cons, List.find?_cons]
    cases decide (a = k) with
    | true => rfl
    | false => exact ih
theorem psK_put (K : Fg) (C : Addr) (k : Str) (t : PapM) (l : List (Str × PapM)) : put (psK K C l) k (Pap.mk t) = psK K C (put l k t) := by
  unfold put psK
  rw [List.any_map]
  by_cases h : (l.any fun e => decide (e.1 = k)) = true
  · rw [if_pos h, if_pos (by exact h), List.map_map, List.map_map]
    refine List.map_congr_left fun e _ => ?_
    show (if e.1 = k then (e.1, Pap.mk t) else (e.1, Pap.mk e.2)) = ((if e.1 = k then (e.1, t) else e).1, Pap.mk (if e.1 = k then (e.1, t) else e).2)
    by_cases z : e.1 = k
    · rw [if_pos z, if_pos z]
    · rw [if_neg z, if_neg z]
  · rw [if_neg h, if_neg (by exact h), List.map_append]
    rfl
def dropP (l : List (Str × PapM)) (k : Str) : List (Str × PapM) := l.filter fun e => decide (e.1 ≠ k)
theorem dropk_paired {κ α : Type} [Rep κ] [PK κ] [DecidableEq κ] [Rep α] {G : Hp} (k : κ) : ∀ {kvs : List (Key × V)} {l : List (κ × α)}, Paired (EnK G) kvs l → Paired (EnK G) (dropK kvs (PK.ky k)) (l.filter fun e => decide (e.1 ≠ k))
  | _, _, .nil => .nil
  | (c, v) :: kvs, (x, y) :: l, .cons ⟨h1, h2⟩ t => by
    have ih := dropk_paired k t
    have h1 : c = PK.ky x := h1
    subst h1
    unfold dropK at ih ⊢
    rw [List.filter_cons, List.filter_cons]
    by_cases e : x = k
    · subst e
      rw [if_neg (by simp), if_neg (by simp)]
      exact ih
    · have e' : PK.ky x ≠ PK.ky k := fun z => e (PK.inj z)
      rw [if_pos (decide_eq_true e'), if_pos (decide_eq_true e)]
      exact .cons ⟨rfl, h2⟩ ih
theorem psK_drop (K : Fg) (C : Addr) (k : Str) (l : List (Str × PapM)) : (psK K C l).filter (fun e => decide (e.1 ≠ k)) = psK K C (dropP l k) := by
  unfold psK dropP
  rw [List.filter_map]
  rfl
def putO (l : List (Str × PapM)) (k : Str) : Option PapM → List (Str × PapM)
  | none => dropP l k
  | some p => put l k p
def addM (h : HM) (n : Str) (q : Plan) : Except Ek PapM :=
  if nameB n = true then (if (look h.ps n).isSome = true then .error .taken else match newM q with | .error e => .error e | .ok p => if 12 ≤ h.ps.length then .error .full else .ok p) else .error .badName
def namedM (h : HM) (n : Str) : Except Ek PapM := match look h.ps n with
  | none => .error .noPaper
  | some p => .ok p
def pbM (h : HM) : Dd → Except Ek (Option PapM)
  | .fold n q => (addM h n q).map some
  | .drop n => (namedM h n).map fun _ => none
  | .act n a => match namedM h n with
    | .error e => .error e
    | .ok p => (actM p a).map some
def doneM (h : HM) (d : Dd) (b : Option PapM) : HM := ⟨putO h.ps d.name b, h.st ++ [(d, look h.ps d.name, b)], []⟩
structure GoodH (n : Nat) (h : HM) : Prop where
  m : n ≤ 80000
  p : ∀ e ∈ h.ps, GoodP n e.2
  nd : (h.ps.map (·.1)).Nodup
  l : h.ps.length ≤ 12
  s : h.st.length ≤ n
theorem lookA_mem {κ α : Type} [DecidableEq κ] {l : List (κ × α)} {k : κ} {x : α} (h : look l k = some x) : (k, x) ∈ l := by
  unfold look at h
  obtain ⟨e, he, rfl⟩ := Option.map_eq_some_iff.mp h
  have h0 := List.find?_some he
  have := of_decide_eq_true (p := e.1 = k) h0
  rw [← this]
  exact List.mem_of_find?_eq_some he
theorem GoodH.paper {n : Nat} {h : HM} (g : GoodH n h) {k : Str} {p : PapM} (e : look h.ps k = some p) : GoodP 80000 p := (g.p _ (lookA_mem e)).le g.m
def Dd.ok (h : HM) : Dd → Prop
  | .fold n _ => n.length ≤ 90000
  | .drop _ => True
  | .act n a => ∀ p, look h.ps n = some p → a.ok p
theorem thW_jn {p : Plan} (hp : isPlanM p = true) {s : Int × Int} (j : Jn p s.1 s.2) {word way : Str} (h : (thW p s way).isSome = true) (hw : word = sP ∨ word = "unpinch") : Jn p (goneM p s word way).1 (goneM p s word way).2 := by
  obtain ⟨c, hc⟩ := Option.isSome_iff_exists.mp h
  have tr := (th_some hp j).mp hc
  have e : Jn p c s.1 ∧ Jn p s.2 c := by
    rcases tr with ⟨_, t⟩ | ⟨_, t⟩
    · exact ⟨t.sv.sym, t.ve.sym⟩
    · exact ⟨t.ve, t.sv⟩
  rcases hw with rfl | rfl
  · rw [gone_p hc]; exact e.1
  · rw [gone_u hc]; exact e.2
theorem row_lenM {p : Plan} (hp : isPlanM p = true) : 3 ≤ (rowM p).length ∧ (rowM p).length ≤ 40 := by
  obtain ⟨h3, h40, _⟩ := plan_facts hp
  unfold rowM
  rw [tx_len, row_len hp]
  omega
theorem new_good {q : Plan} {p : PapM} (h : newM q = .ok p) : GoodP 0 p := by
  unfold newM at h
  split at h
  · next hp =>
    cases h
    refine ⟨row_lenM hp, fun f hf => ?_, Nat.le_refl _, .nil, fun e he => by cases he⟩
    have hf := Option.some.inj hf
    subst hf
    obtain ⟨h3, _⟩ := plan_facts hp
    exact ⟨hp, jn_side hp (show (0 : Int) ≤ 0 by decide) (by show (1 : Int) < q.1; omega) rfl, (show (0 : Int) ≤ 0 by decide), (show (0 : Int) ≤ 2 by decide), rfl⟩
  · cases h
theorem act_good' {n : Nat} {p q : PapM} (g : GoodP n p) {a : Ac} (h : actM p a = .ok q) : GoodP (n + 1) q := act_good g h (fun f way word hf _ ht hw => by
  have gf := g.fold f hf
  exact thW_jn (s := (f.2.a, f.2.b)) gf.1 gf.2.1 ht hw) (fun q hq => by
  obtain ⟨h3, _⟩ := plan_facts hq
  exact jn_side hq (show (0 : Int) ≤ 0 by decide) (by show (1 : Int) < q.1; omega) rfl)
theorem putO_good {n : Nat} {h : HM} (g : GoodH n h) (hn : n < 80000) {d : Dd} {b : Option PapM} (e : pbM h d = .ok b) : GoodH (n + 1) (doneM h d b) := by
  have up : ∀ e ∈ h.ps, GoodP (n + 1) e.2 := fun e he => (g.p e he).le (Nat.le_succ n)
  have ls : (doneM h d b).st.length ≤ n + 1 := by
    show (h.st ++ [_]).length ≤ n + 1
    rw [List.length_append]
    exact Nat.succ_le_succ g.s
  have putg : ∀ {k : Str} {p : PapM}, GoodP (n + 1) p → (look h.ps k).isSome = true ∨ h.ps.length < 12 → (∀ e ∈ put h.ps k p, GoodP (n + 1) e.2) ∧ ((put h.ps k p).map (·.1)).Nodup ∧ (put h.ps k p).length ≤ 12 := fun {k p} gp hl => by
    obtain ⟨h1, h2, h3⟩ := put_keysA h.ps k p
    refine ⟨fun e he => (h3 e he).elim (up e) (fun z => z ▸ gp), h2 g.nd, ?_⟩
    rcases hl with hl | hl
    · unfold put
      have : (h.ps.any fun e => decide (e.1 = k)) = true := by
        obtain ⟨x, hx⟩ := Option.isSome_iff_exists.mp hl
        exact List.any_eq_true.mpr ⟨_, lookA_mem hx, decide_eq_true rfl⟩
      rw [if_pos this, List.length_map]
      exact g.l
    · omega
  have mk : ∀ l : List (Str × PapM), (doneM h d b).ps = l → (∀ e ∈ l, GoodP (n + 1) e.2) ∧ (l.map (·.1)).Nodup ∧ l.length ≤ 12 → GoodH (n + 1) (doneM h d b) := fun l hl k => ⟨hn, hl ▸ k.1, hl ▸ k.2.1, hl ▸ k.2.2, ls⟩
  have drp : ∀ k : Str, (∀ e ∈ dropP h.ps k, GoodP (n + 1) e.2) ∧ ((dropP h.ps k).map (·.1)).Nodup ∧ (dropP h.ps k).length ≤ 12 := fun k =>
    ⟨fun e he => up e (List.mem_filter.mp he).1, List.Nodup.sublist (List.Sublist.map _ List.filter_sublist) g.nd, Nat.le_trans (List.length_filter_le _ _) g.l⟩
  cases d with
  | fold m q =>
    have e : (addM h m q).map some = .ok b := e
    unfold addM at e
    split at e
    · split at e
      · cases e
      · cases hq : newM q with
        | error k => rw [hq] at e; cases e
        | ok p =>
          rw [hq] at e
          have e : (if 12 ≤ h.ps.length then (.error .full : Except Ek PapM) else .ok p).map some = .ok b := e
          split at e
          · cases e
          · next hl =>
            cases e
            exact mk _ rfl (putg ((new_good hq).le (Nat.zero_le _)) (.inr (by omega)))
    · cases e
  | drop m =>
    have e : (namedM h m).map (fun _ => none) = .ok b := e
    unfold namedM at e
    cases hm : look h.ps m with
    | none => rw [hm] at e; cases e
    | some p => rw [hm] at e; cases e; exact mk _ rfl (drp m)
  | act m a =>
    have e : (match namedM h m with | .error e => (.error e : Except Ek (Option PapM)) | .ok p => (actM p a).map some) = .ok b := e
    unfold namedM at e
    cases hm : look h.ps m with
    | none => rw [hm] at e; cases e
    | some p =>
      rw [hm] at e
      have e : (actM p a).map some = .ok b := e
      cases ha : actM p a with
      | error k => rw [ha] at e; cases e
      | ok q =>
        rw [ha] at e
        cases e
        exact mk _ rfl (putg (act_good' (g.p _ (lookA_mem hm)) ha) (.inl (by show (look h.ps m).isSome = true; rw [hm]; rfl)))
end Pf

namespace Pf
open PySem PySem.Spec PyProof.Rows L2
/-! ### what a house tells -/
/-- at this very heap -/
def EvRH {α : Type} [Rep α] (te : TE) (σ : L2.St) (G H : Hp) (ad : Ek → Addr) (W : WX) (r : Except Ek α) : Prop := ∀ Q : VK, Out ad G H Q (WE W σ) r → te σ H Q
def bindE {α β : Type} (r : Except Ek α) (f : α → Except Ek β) : Except Ek β := match r with
  | .ok x => f x
  | .error k => .error k
section
variable {α β γ : Type} [Rep α] [Rep β] [Rep γ] {σ : L2.St} {G H : Hp} {te ta tb : TE} {ad : Ek → Addr} {W : WX} {D : Ends} {u : TS} {r : Except Ek α} {K : Fg} {C CH : Addr} {c : HA} {h : HM}
theorem EvR.at (x : EvR te σ G ad W r) (s : Same G H) : EvRH te σ G H ad W r := x H s
theorem sq_setRH {i : Nat} (x : EvRH te σ G H ad W r) (k : ∀ y, r = .ok y → ∀ v G' H', Gr M0 G H G' H' → rep G' v y → u D (σ.set i (some v)) H') (ke : ∀ e, r = .error e → ∀ G' H', Gr M0 G H G' H' → WE W σ (.ref (ad e)) none H') : tSeq (tAsg te (gName i)) u D σ H :=
  x _ (by
    cases r with
    | ok y => exact fun v G' H' g rr => k y rfl v G' H' g rr
    | error e => exact fun G' H' g => ke e rfl G' H' g)
theorem st_retRH (x : EvRH te σ G H ad W r) (o : Out ad G H D.rt (WE W σ) r) : tRet te D σ H := x _ o
theorem erh_call1b {pre : α → Prop} {f : α → Except Ek γ} (ha : EvRH ta σ G H ad W r) (hp : ∀ x, r = .ok x → pre x) : EvRH (tCallS (spR1 ad pre f) (WE W) (tCons ta tNil)) σ G H ad W (bindE r f) := fun Q o => ha _ (by
    cases r with
    | ok x => exact fun v G1 H1 g1 r1 => ⟨v, x, G1, rfl, g1.i, r1, hp x rfl, Out.after (show Out ad G H Q (WE W σ) (f x) from o) g1⟩
    | error k => exact fun G' H' g => o G' H' g)
/-- a question put to a house, with a name -/
def spH1 (ad : Ek → Addr) (K : Fg) (C CH : Addr) (f : HM → Str → Except Ek α) : Sp := fun vs H Q E => ∃ c name h G n, vs = [.ref (HA.a c), .str name] ∧ Same G H ∧ Ho K C CH G H c h ∧ GoodH n h ∧ Out ad G H Q E (f h name)
theorem len_spH1 {f : HM → Str → Except Ek α} {a b : Str} : ∀ vs H Q E, spH1 ad K C CH f vs H Q E → vs.length = [a, b].length := fun vs H Q E h => by obtain ⟨c, name, h, G, n, rfl, _⟩ := h; rfl
theorem erh_m1 {f : HM → Str → Except Ek α} {i n : Nat} {m name : Str} (hv : σ[i]? = some (some (.ref c.a))) (ho : Ho K C CH G H c h) (s : Same G H) (g : GoodH n h) (hb : Ev tb σ G name) (hm : (houF c).lookup m = none) : EvRH (tMo CH m (spH1 ad K C CH f) (WE W) (tVar i) (tCons tb tNil)) σ G H ad W (f h name) := fun Q o => by
  obtain ⟨dx, e⟩ := ho.e
  exact ⟨.ref c.a, hv, c.a, dx, _, rfl, e, hm, hb H s _ fun v G1 H1 g1 r1 => by
    cases r1
    exact ⟨c, name, h, G1, n, rfl, g1.i, ho.step0 g1, g, o.after g1⟩⟩
/-! its fields -/
theorem fld_h {i : Nat} {f : Str} {x : V} {Q : VK} (hv : σ[i]? = some (some (.ref c.a))) (ho : Ho K C CH G H c h) (hc : Cls K CH) (hn : NoAttr K CH f) (hl : (houF c).lookup f = some x) (q : Q x H) : tFld K (tVar i) f σ H Q := by
  obtain ⟨dx, e⟩ := ho.e
  exact ⟨.ref c.a, hv, c.a, CH, dx, _, x, rfl, e, hc, hn, hl, q⟩
theorem eh_pnotin {i : Nat} {name : Str} (cl : ClH K CH) (hv : σ[i]? = some (some (.ref c.a))) (ho : Ho K C CH G H c h) (s : Same G H) (hb : Ev tb σ G name) : EvH (tDNotIn tb (tFld K (tVar i) "papers")) σ G H (!(look h.ps name).isSome) := fun Q q =>
  hb H s _ fun v G1 H1 g1 r1 => by
    have ho := ho.step0 g1
    refine fld_h hv ho cl.c cl.n1 rfl ?_
    obtain ⟨n1, kvs, e1, e3⟩ := ho.p
    have h2 := PK.of r1
    subst h2
    refine ⟨c.pp, valV kvs (PK.ky name), rfl, DGet.k e1, q _ G1 H1 g1 ?_⟩
    rw [opt_some (valk_look name e3), psK_look]
    cases look h.ps name <;> rfl
theorem eh_pin {i : Nat} {name : Str} (cl : ClH K CH) (hv : σ[i]? = some (some (.ref c.a))) (ho : Ho K C CH G H c h) (s : Same G H) (hb : Ev tb σ G name) : EvH (tDIn tb (tFld K (tVar i) "papers")) σ G H ((look h.ps name).isSome) := fun Q q =>
  hb H s _ fun v G1 H1 g1 r1 => by
    have ho := ho.step0 g1
    refine fld_h hv ho cl.c cl.n1 rfl ?_
    obtain ⟨n1, kvs, e1, e3⟩ := ho.p
    have h2 := PK.of r1
    subst h2
    refine ⟨c.pp, valV kvs (PK.ky name), rfl, DGet.k e1, q _ G1 H1 g1 ?_⟩
    rw [opt_some (valk_look name e3), psK_look]
    cases look h.ps name <;> rfl
theorem eh_pget {i : Nat} {name : Str} {p : PapM} (cl : ClH K CH) (hv : σ[i]? = some (some (.ref c.a))) (ho : Ho K C CH G H c h) (s : Same G H) (hb : Ev tb σ G name) (hl : look h.ps name = some p) : EvH (tDGet (tFld K (tVar i) "papers") tb) σ G H (Pap.mk p : Pap K C) := fun Q q => by
  refine fld_h hv ho cl.c cl.n1 rfl ?_
  refine hb H s _ fun v G1 H1 g1 r1 => ?_
  obtain ⟨n1, kvs, e1, e3⟩ := (ho.step0 g1).p
  have h2 := PK.of r1
  subst h2
  have hh := valk_look name e3
  rw [psK_look, hl] at hh
  obtain ⟨w, e4, r⟩ := hh
  exact ⟨c.pp, w, rfl, e4 ▸ DGet.k e1, q w G1 H1 g1 r⟩
theorem eh_pget1 {i : Nat} {name : Str} (cl : ClH K CH) (hv : σ[i]? = some (some (.ref c.a))) (ho : Ho K C CH G H c h) (s : Same G H) (hb : ∀ G1 H1, Gr M0 G H G1 H1 → Ev tb σ G1 name) : EvH (tDGet1 (tFld K (tVar i) "papers") tb) σ G H (OPap.mk (look h.ps name) : OPap K C) := fun Q q => by
  refine fld_h hv ho cl.c cl.n1 rfl ?_
  obtain ⟨n0, kvs0, e0, _⟩ := ho.p
  refine ⟨c.pp, rfl, .inl ⟨kvs0, .inl e0⟩, hb G H (Gr.refl s) H s _ fun v G1 H1 g1 r1 => ?_⟩
  obtain ⟨n1, kvs, e1, e3⟩ := (ho.step0 g1).p
  have h2 := PK.of r1
  subst h2
  have hh := valk_look name e3
  rw [psK_look] at hh
  refine ⟨_, DGet.k e1, q _ G1 H1 g1 ?_⟩
  cases e : look h.ps name with
  | none => rw [e] at hh; rw [show valV kvs (PK.ky name) = none from hh]; rfl
  | some p => rw [e] at hh; obtain ⟨w, e4, r⟩ := hh; rw [e4]; exact r
theorem eh_plen {i : Nat} (cl : ClH K CH) (hv : σ[i]? = some (some (.ref c.a))) (ho : Ho K C CH G H c h) (s : Same G H) : EvH (tCB rLenK (tCons (tFld K (tVar i) "papers") tNil)) σ G H ((h.ps.length : Nat) : Int) := fun Q q => by
  refine fld_h (Q := fun x H1 => rLenK [x] H1 Q) hv ho cl.c cl.n1 rfl ?_
  obtain ⟨n1, kvs, e1, e3⟩ := ho.p
  have hl : kvs.length = h.ps.length := by rw [Paired.length e3]; exact List.length_map _
  exact ⟨c.pp, kvs, rfl, e1, q _ G H (Gr.refl s) (by rw [hl]; rfl)⟩
end
theorem map_ok {α β : Type} {r : Except Ek α} {f : α → β} {y : β} (h : r.map f = .ok y) : ∃ x, r = .ok x ∧ y = f x := by
  cases r with
  | ok x => cases h; exact ⟨x, rfl, rfl⟩
  | error k => cases h
theorem map_err {α β : Type} {r : Except Ek α} {f : α → β} {k : Ek} (h : r.map f = .error k) : r = .error k := by
  cases r with
  | ok x => cases h
  | error k => cases h; rfl
section
variable {α : Type} [Rep α] {σ : L2.St} {G H : Hp} {te ta tb : TE} {tt : TT} {ts u : TS} {D : Ends} {ad : Ek → Addr} {W : WX} {K : Fg} {C CH : Addr} {c : HA} {h : HM}
theorem sq_ifnH {b : Bool} (x : EvTH tt σ G H b) (k1 : b = true → ∀ G' H', Gr M0 G H G' H' → ts { D with nx := u D } σ H') (k2 : b = false → ∀ G' H', Gr M0 G H G' H' → u D σ H') : tSeq (tIfS tt ts tNext) u D σ H := st_ifH (D := { D with nx := u D }) (tr := tNext) x k1 k2
theorem sq_setE {i : Nat} {x : α} (e : EvH te σ G H x) (k : ∀ v G' H', Gr M0 G H G' H' → rep G' v x → u D (σ.set i (some v)) H') : tSeq (tAsg te (gName i)) u D σ H := e _ k
theorem eh_geI {i j : Int} (ha : EvH ta σ G H i) (hb : Ev tb σ G j) : EvH (tOp (rI0 fun i j => .bl (decide (j ≤ i))) ta tb) σ G H (decide (j ≤ i)) := fun Q q =>
  ha _ fun v G1 H1 g1 r1 => (ev_ge (σ := σ) (ta := tC v) (ev_c r1) (hb.mono g1.g)) H1 g1.i Q fun v' G' H' g r => q v' G' H' (g1.trans g) r
theorem st_retE {x : α} (e : EvH te σ G H x) (k : ∀ v G' H', Gr M0 G H G' H' → rep G' v x → D.rt v H') : tRet te D σ H := e _ k
theorem ev_isOP {o : Option PapM} (e : Ev te σ G (OPap.mk o : OPap K C)) : Ev (tOp rIsN te (tC .non)) σ G o.isNone := fun H i Q q => e H i _ fun v G' H' g r => ⟨rfl, q _ G' H' g (by
  cases o with
  | none => rw [show v = .non from r]; rfl
  | some p =>
    obtain ⟨a, dx, u1, u2, l, rfl, _⟩ := r
    rfl)⟩
/-- self.stand.append(e) -/
theorem sq_happ {i : Nat} {x : StE} (cl : ClH K CH) (hv : σ[i]? = some (some (.ref c.a))) (ho : Ho K C CH G H c h) (s : Same G H) (hl : h.st.length < 90000) (e : EvH te σ G H (⟨Tup.mk x.1.ths, ⟨x.2.1⟩, ⟨x.2.2⟩⟩ : Tri (Tup Th) (OPap K C) (OPap K C)))
    (k : ∀ G' H', Gr (Ms c.sp) G H G' H' → Ho K C CH G' H' c ⟨h.ps, h.st ++ [x], h.bk⟩ → u D σ H') : tSeq (tDrop (tBM K "list" rAppend (tFld K (tVar i) "stand") (tCons te tNil))) u D σ H := by
  refine fld_h (Q := fun y H1 => tyV K "list" y H1 ∧ tCons te tNil σ H1 fun xs H2 => rAppend y xs H2 fun _ H' => u D σ H') hv ho cl.c cl.n2 rfl ?_
  refine ⟨.inl ⟨rfl, ho.s.sq⟩, e _ fun v G1 H1 g1 r1 => ?_⟩
  have ho := ho.step0 g1
  obtain ⟨a1, a2, a3, a4, a5⟩ := ho.ap
  obtain ⟨n, acc, e1, pa⟩ := ho.s
  have la : acc.length = h.st.length := by rw [paired_len pa]; exact List.length_map _
  refine ⟨c.sp, acc, v, rfl, rfl, e1, sl_lt (by omega), k G1 _ ((Gr.toMs g1).mut (.inr rfl) n) ?_⟩
  obtain ⟨dx, ed⟩ := ho.e
  refine ⟨ho.n, ⟨dx, (upd_ne a2).trans ed⟩, ho.p.other a4, ⟨n, _, upd_same, ?_⟩, ho.t.other (Ne.symm ho.d), ho.d⟩
  unfold stK
  rw [List.map_append]
  exact paired_app pa (.cons r1 .nil)
/-- self.taken_back = [] -/
theorem sq_hclr {i : Nat} (cl : ClH K CH) (hv : σ[i]? = some (some (.ref c.a))) (ho : Ho K C CH G H c h) (s : Same G H)
    (k : ∀ l H', H l = none → Gr (Ms c.a) G H G H' → Ho K C CH G H' ⟨c.a, c.pp, c.sp, l⟩ ⟨h.ps, h.st, []⟩ → u D σ H') : tSeq (sFld K (tVar i) (tLst tNil) "taken_back") u D σ H := by
  refine ⟨by show 0 ≤ sizeLine; decide, fun l nl => ?_⟩
  obtain ⟨dx, ed⟩ := ho.e
  obtain ⟨a1, a2, a3, a4, a5⟩ := ho.ap
  obtain ⟨np, kvs, ep, pp⟩ := ho.p
  obtain ⟨ns, vs, es, ps⟩ := ho.s
  have na : c.a ≠ l := ne_of_some ed nl
  have npl : c.pp ≠ l := ne_of_some ep nl
  have nsl : c.sp ≠ l := ne_of_some es nl
  have gl : G l = none := up_none s nl
  refine ⟨.ref c.a, hv, c.a, CH, dx, _, rfl, (upd_ne na).trans ed, cl.c, cl.n3, (show 3 < 1000 by decide), k l _ nl (((Gr.refl s).mut (.inl nl) gl).mut (.inr rfl) ho.n) ?_⟩
  refine ⟨ho.n, ⟨dx, upd_same⟩, ⟨np, kvs, ?_, pp⟩, ⟨ns, vs, ?_, ps⟩, ⟨gl, [], ?_, .nil⟩, nsl⟩
  · rw [upd_ne (Ne.symm a1), upd_ne npl]; exact ep
  · rw [upd_ne (Ne.symm a2), upd_ne nsl]; exact es
  · rw [upd_ne (Ne.symm na)]; exact upd_same
/-- del self.papers[name] -/
theorem st_hdel {i : Nat} {name : Str} (cl : ClH K CH) (hv : σ[i]? = some (some (.ref c.a))) (ho : Ho K C CH G H c h) (s : Same G H) (hb : Ev tb σ G name) (hl : (look h.ps name).isSome = true)
    (k : ∀ G' H', Gr (Ms c.pp) G H G' H' → Ho K C CH G' H' c ⟨dropP h.ps name, h.st, h.bk⟩ → D.nx σ H') : sDDel (tFld K (tVar i) "papers") tb D σ H := by
  refine fld_h (Q := fun x H1 => tb σ H1 fun y H2 => ∃ a kvs k, x = .ref a ∧ H2 a = some (.dK kvs) ∧ y = kV k ∧ (valV kvs k).isSome = true ∧ D.nx σ (upd H2 a (.dK (dropK kvs k)))) hv ho cl.c cl.n1 rfl ?_
  refine hb H s _ fun v G1 H1 g1 r1 => ?_
  have ho := ho.step0 g1
  obtain ⟨a1, a2, a3, a4, a5⟩ := ho.ap
  obtain ⟨np, kvs, ep, pp⟩ := ho.p
  have h2 := PK.of r1
  subst h2
  refine ⟨c.pp, kvs, PK.ky name, rfl, ep, rfl, ?_, k G1 _ ((Gr.toMs g1).mut (.inr rfl) np) ?_⟩
  · rw [opt_some (valk_look name pp), psK_look]
    cases e : look h.ps name with
    | none => rw [e] at hl; cases hl
    | some p => rfl
  · obtain ⟨dx, ed⟩ := ho.e
    refine ⟨ho.n, ⟨dx, (upd_ne a1).trans ed⟩, ⟨np, _, upd_same, ?_⟩, ho.s.other (Ne.symm a4), ho.t.other (Ne.symm a5), ho.d⟩
    have := dropk_paired name pp
    rw [psK_drop] at this
    exact this
/-- self.papers[name] = paper -/
theorem st_hput {i : Nat} {name : Str} {p : PapM} (cl : ClH K CH) (hv : σ[i]? = some (some (.ref c.a))) (ho : Ho K C CH G H c h) (s : Same G H) (hx : Ev te σ G (Pap.mk p : Pap K C)) (hb : Ev tb σ G name) (hl : h.ps.length < 1000)
    (k : ∀ G' H', Gr (Ms c.pp) G H G' H' → Ho K C CH G' H' c ⟨put h.ps name p, h.st, h.bk⟩ → D.nx σ H') : sDPut (tFld K (tVar i) "papers") tb te D σ H :=
  hx H s _ fun v G1 H1 g1 r1 => by
    have ho := ho.step0 g1
    refine fld_h (Q := fun x H2 => tb σ H2 fun y H3 => ∃ a H4, x = .ref a ∧ DPut H3 a y v H4 ∧ D.nx σ H4) hv ho cl.c cl.n1 rfl ?_
    refine (hb.mono g1.g) H1 g1.i _ fun y G2 H2 g2 r2 => ?_
    have ho := ho.step0 g2
    obtain ⟨a1, a2, a3, a4, a5⟩ := ho.ap
    obtain ⟨np, kvs, ep, pp⟩ := ho.p
    have h2 := PK.of r2
    subst h2
    have lk : kvs.length = h.ps.length := by rw [Paired.length pp]; exact List.length_map _
    refine ⟨c.pp, upd H2 c.pp (.dK (putK kvs (PK.ky name) v)), rfl, DPut.k ep (sl_lt (by omega)), k G2 _ ((Gr.toMs (g1.trans g2)).mut (.inr rfl) np) ?_⟩
    obtain ⟨dx, ed⟩ := ho.e
    refine ⟨ho.n, ⟨dx, (upd_ne a1).trans ed⟩, ⟨np, _, upd_same, ?_⟩, ho.s.other (Ne.symm a4), ho.t.other (Ne.symm a5), ho.d⟩
    have := putk_paired (k := name) pp (Rep.mono g2.g r1)
    rw [psK_put] at this
    exact this
/-! promises of the methods -/
def spPut (K : Fg) (C CH : Addr) : Sp := fun vs H Q _ => ∃ c name v o h G, vs = [.ref (HA.a c), .str name, v] ∧ Same G H ∧ Ho K C CH G H c h ∧ rep G v (OPap.mk o : OPap K C) ∧ (o = none → (look h.ps name).isSome = true) ∧ h.ps.length < 1000 ∧
  ∀ G' H', Gr (Ms c.pp) G H G' H' → Ho K C CH G' H' c ⟨putO h.ps name o, h.st, h.bk⟩ → Q .non H'
def spAdd (ad : Ek → Addr) (K : Fg) (C CH : Addr) : Sp := fun vs H Q E => ∃ c name v q h G n, vs = [.ref (HA.a c), .str name, v] ∧ Same G H ∧ Ho K C CH G H c h ∧ GoodH n h ∧ rep G v (q : Plan) ∧ name.length ≤ 90000 ∧ Out ad G H Q E ((addM h name q).map (Pap.mk (K := K) (C := C)))
def spPB (ad : Ek → Addr) (K : Fg) (C CH : Addr) : Sp := fun vs H Q E => ∃ c v d h G n, vs = [.ref (HA.a c), v] ∧ Same G H ∧ Ho K C CH G H c h ∧ GoodH n h ∧ rep G v (Tup.mk (Dd.ths d)) ∧ Dd.ok h d ∧ Out ad G H Q E ((pbM h d).map (OPap.mk (K := K) (C := C)))
abbrev MD (c : HA) : Addr → Prop := fun q => q = c.a ∨ q = c.pp ∨ q = c.sp
def spDo (ad : Ek → Addr) (K : Fg) (C CH : Addr) : Sp := fun vs H Q E => ∃ c v d h G n, vs = [.ref (HA.a c), v] ∧ Same G H ∧ Ho K C CH G H c h ∧ GoodH n h ∧ rep G v (Tup.mk (Dd.ths d)) ∧ Dd.ok h d ∧
  match pbM h d with
  | .ok b => ∀ l G' H', Gr (MD c) G H G' H' → H l = none → Ho K C CH G' H' ⟨c.a, c.pp, c.sp, l⟩ (doneM h d b) → Q .non H'
  | .error k => ∀ G' H', Gr M0 G H G' H' → E (.ref (ad k)) none H'
def spHI (K : Fg) (C CH : Addr) : Sp := fun vs H Q _ => ∃ a dx G, vs = [.ref a] ∧ Same G H ∧ G a = none ∧ H a = some (.ins CH dx []) ∧
  ∀ c G' H', HA.a c = a → Gr (Ms a) G H G' H' → H c.pp = none → H c.sp = none → H c.tp = none → Ho K C CH G' H' c ⟨[], [], []⟩ → Q .non H'
/-- House() -/
theorem eh_house {W : L2.St → XK} {Q : VK} (s : Same G H) (k : ∀ c G' H', Gr M0 G H G' H' → H c.a = none → H c.pp = none → H c.sp = none → H c.tp = none → Ho K C CH G' H' c ⟨[], [], []⟩ → Q (.ref c.a) H') : tMa CH (spHI K C CH) [] W tNil σ H Q := by
  intro x dx nx nd ne
  have nGx := up_none s nx
  have g0 : Gr M0 G H G (upd (upd H dx (.own x)) x (.ins CH dx [])) := ((Gr.refl s).mut (.inl nd) (up_none s nd)).mut (.inl nx) nGx
  refine ⟨x, dx, G, rfl, g0.i, nGx, upd_same, fun c G1 H1 ea g1 n1 n2 n3 ho => ⟨rfl, ?_⟩⟩
  subst ea
  have g01 : Gr M0 G H G1 H1 := ((Gr.toMs g0).trans g1 (fun z hz => .inl (by rw [hz]; exact ho.n))).newM (fun b hb => by rw [hb]; exact nx)
  exact k c G1 H1 g01 nx (up_none g0.same n1) (up_none g0.same n2) (up_none g0.same n3) ho
end
theorem Gr.up {M N : Addr → Prop} {G H G' H' : Hp} (g : Gr M G H G' H') (h : ∀ a, M a → N a) : Gr N G H G' H' := ⟨g.g, g.i, fun a o n e => g.h a o (fun m => n (h a m)) e, g.n⟩
section
variable {α β : Type} [Rep α] [Rep β] {σ : L2.St} {G H : Hp} {te ta tb : TE} {ts u : TS} {D : Ends} {ad : Ek → Addr} {W : WX} {K : Fg} {C CH : Addr} {c : HA} {h : HM}
theorem ev_sTh {x : Str} (h : Ev te σ G (Th.s x)) : Ev te σ G x := fun H i Q q => h H i Q q
theorem ev_pTh {x : Plan} (h : Ev te σ G (Th.p x)) : Ev te σ G x := fun H i Q q => h H i Q q
theorem sq_starT {x y : α} {xs : List α} {i j l : Nat} (h : Ev te σ G (Tup.mk (x :: y :: xs))) (s : Same G H) (hl : xs.length ≤ 10000)
    (k : ∀ v w p G' H', Gr M0 G H G' H' → rep G' v x → rep G' w y → rep G' (.ref p) xs → u D (((σ.set i (some v)).set j (some w)).set l (some (.ref p))) H') :
    tSeq (tAsg te (gStarT K (gCons (gName i) (gCons (gName j) (gCons (gName l) gNil))))) u D σ H := h H s _ fun v G1 H1 g1 r => by
  obtain ⟨a, vs, rfl, e, pr⟩ := r
  cases pr with
  | @cons v0 _ vs0 _ r0 pr =>
    cases pr with
    | @cons v1 _ vs1 _ r1 pr =>
      refine ⟨a, v0, v1, vs1, rfl, .inl (.inl (g1.i _ _ e)), by rw [paired_len pr]; exact hl, fun p np => ?_⟩
      have gn := gr_new (o := .lst vs1) g1.i np
      exact ⟨v0, [v1, .ref p], rfl, v1, [.ref p], rfl, .ref p, [], rfl, rfl, k v0 v1 p _ _ (g1.trans gn) (Rep.mono gn.g r0) (Rep.mono gn.g r1) ⟨p, vs1, rfl, upd_same, paired_mono gn.g pr⟩⟩
end
end Pf

namespace Pf
open PySem PySem.Spec PySem.W PyProof.Rows L2 L2H HotX
/-! ### lists walked while an exception is handled -/
section
variable {prog : Program} {w : World} {A : Around} {E : Value → Shared → Prop} {s : Shared}
theorem listEnd_hot {x1 it l : Addr} {i : Nat} {items : Array Value} {Q : Option Value → Shared → Prop} (hot : HotAt A x1 s.heap) (st : s.heap.IsListIter it l i) (hl : s.heap.IsList l items) (out : items[i]? = none)
    (q : ∀ h', Heap.ExtBut it s.heap h' → Q none { s with heap := h' }) : wpAny (model prog w) A (pyNext (.ref it)) Q E s := by
  obtain ⟨oi, hi, ci, di⟩ := id st
  obtain ⟨ol, hol, _, nl, dl⟩ := hl
  obtain ⟨hh, o1, v1, e1, d1, c1⟩ := hot
  unfold pyNext
  refine wpAny_bind (wpAny_attempt (wpAny_callSpecial?_slot (name := Str.ofString "__next__") st.typeIs slot_listiter_next (wpAny_call_entry slot_listiter_next st.typeIs entry_listiter_next ?_ (args_listiter_next _))))
  have ne1 : x1 ≠ it := fun z => by
    rw [z, hi] at e1; cases e1
    rw [di] at d1
    have : v1.size = 2 := by injection d1 with d1; rw [← d1]; rfl
    have := (Array.getElem?_eq_some_iff.mp c1).1
    omega
  show wpAny _ _ (field (.ref it) 0 >>= _) _ _ s
  refine wpAny_bind (wpAny_field hi di (x := .ref l) rfl ?_)
  show wpAny _ _ (if (Value.ref l == Value.none) = true then _ else _) _ _ s
  rw [if_neg (show ¬ ((Value.ref l == Value.none) = true) from Bool.false_ne_true)]
  show wpAny _ _ (field (.ref it) 1 >>= _) _ _ s
  refine wpAny_bind (wpAny_field hi di (x := .int i 0) rfl ?_)
  show wpAny _ _ (seqItems? (.ref l) >>= _) _ _ s
  refine wpAny_bind (wpAny_seqItems hol dl ?_)
  simp only [Int.toNat_natCast, out]
  refine wpAny_bind (wpAny_rule (wpAny_bind (wpAny_setField hi di (by simp) ?_)))
  show wpAny _ _ (newExc (.type "StopIteration") [] >>= _) _ _ _
  refine wpAny_bind ?_
  simp only [newExc, newTuple]
  refine wpAny_bind (wpAny_newObj_type ?_ (by size_fits))
  refine wpAny_bind (m := firstArgMember _ _) (wpAny_of_eq (a := Value.none) (by first | rfl | (simp only [firstArgMember]; rfl)) ?_)
  refine wpAny_newObj_type ?_ (by size_fits)
  have e1' := (Heap.get?_update_other s.heap (Obj.mapFields (·.setIfInBounds 0 Value.none)) (Ne.symm ne1)).trans e1
  refine raiseNew_hot ⟨hh, o1, v1, Heap.get?_push_of_some _ (Heap.get?_push_of_some _ e1'), d1, c1⟩ (Nat.ne_of_lt (Heap.lt_size (Heap.get?_push_of_some _ e1'))) (Heap.get?_push_size _ rfl) rfl (by first | (simp; done) | (simp; omega)) ?_
  refine wpAny_bind (wpAny_isInstance (T := "StopIteration") (b := true) ⟨_, Heap.get?_update_self _ (Heap.get?_push_size _ rfl) rfl, rfl⟩ isSubtype_stop ?_)
  refine wpAny_pure (q _ fun b o nb e => ?_)
  have e2 := (Heap.get?_update_other s.heap (Obj.mapFields (·.setIfInBounds 0 Value.none)) (Ne.symm nb)).trans e
  rw [Heap.get?_update_other _ _ (Nat.ne_of_gt (Heap.lt_size (Heap.get?_push_of_some _ e2)))]
  exact Heap.get?_push_of_some _ (Heap.get?_push_of_some _ e2)
end
section
variable {prog : Program} {w : World} {A : Around} {E : Value → Shared → Prop} {s : Shared}
theorem tupEnd_hot {x1 it t : Addr} {i : Nat} {items : Array Value} {Q : Option Value → Shared → Prop} (hot : HotAt A x1 s.heap) (st : IsTupIter s.heap it t i) (ht : IsTup s.heap t items) (out : items[i]? = none)
    (q : ∀ h', Heap.ExtBut it s.heap h' → Q none { s with heap := h' }) : wpAny (model prog w) A (pyNext (.ref it)) Q E s := by
  obtain ⟨oi, hi, ci, di⟩ := id st
  obtain ⟨ol, hol, _, nl, dl⟩ := ht
  obtain ⟨hh, o1, v1, e1, d1, c1⟩ := hot
  have tyI : s.TypeIs (.ref it) "tuple_iterator" := ⟨oi, hi, ci⟩
  unfold pyNext
  refine wpAny_bind (wpAny_attempt (wpAny_callSpecial?_slot (name := Str.ofString "__next__") tyI F.slot_tuple_iterator_next (wpAny_call_entry F.slot_tuple_iterator_next tyI F.entry_tuple_iterator_next ?_ (F.args_tuple_iterator_next_1 _))))
  have ne1 : x1 ≠ it := fun z => by
    rw [z, hi] at e1; cases e1
    rw [di] at d1
    have : v1.size = 2 := by injection d1 with d1; rw [← d1]; rfl
    have := (Array.getElem?_eq_some_iff.mp c1).1
    omega
  show wpAny _ _ (field (.ref it) 0 >>= _) _ _ s
  refine wpAny_bind (wpAny_field hi di (x := .ref t) rfl ?_)
  show wpAny _ _ (if (Value.ref t == Value.none) = true then _ else _) _ _ s
  rw [if_neg (show ¬ ((Value.ref t == Value.none) = true) from Bool.false_ne_true)]
  show wpAny _ _ (field (.ref it) 1 >>= _) _ _ s
  refine wpAny_bind (wpAny_field hi di (x := .int i 0) rfl ?_)
  show wpAny _ _ (seqItems? (.ref t) >>= _) _ _ s
  refine wpAny_bind (wpAny_seqItems hol dl ?_)
  simp only [Int.toNat_natCast, out]
  refine wpAny_bind (wpAny_rule (wpAny_bind (wpAny_setField hi di (by simp) ?_)))
  show wpAny _ _ (newExc (.type "StopIteration") [] >>= _) _ _ _
  refine wpAny_bind ?_
  simp only [newExc, newTuple]
  refine wpAny_bind (wpAny_newObj_type ?_ (by size_fits))
  refine wpAny_bind (m := firstArgMember _ _) (wpAny_of_eq (a := Value.none) (by first | rfl | (simp only [firstArgMember]; rfl)) ?_)
  refine wpAny_newObj_type ?_ (by size_fits)
  have e1' := (Heap.get?_update_other s.heap (Obj.mapFields (·.setIfInBounds 0 Value.none)) (Ne.symm ne1)).trans e1
  refine raiseNew_hot ⟨hh, o1, v1, Heap.get?_push_of_some _ (Heap.get?_push_of_some _ e1'), d1, c1⟩ (Nat.ne_of_lt (Heap.lt_size (Heap.get?_push_of_some _ e1'))) (Heap.get?_push_size _ rfl) rfl (by first | (simp; done) | (simp; omega)) ?_
  refine wpAny_bind (wpAny_isInstance (T := "StopIteration") (b := true) ⟨_, Heap.get?_update_self _ (Heap.get?_push_size _ rfl) rfl, rfl⟩ isSubtype_stop ?_)
  refine wpAny_pure (q _ fun b o nb e => ?_)
  have e2 := (Heap.get?_update_other s.heap (Obj.mapFields (·.setIfInBounds 0 Value.none)) (Ne.symm nb)).trans e
  rw [Heap.get?_update_other _ _ (Nat.ne_of_gt (Heap.lt_size (Heap.get?_push_of_some _ e2)))]
  exact Heap.get?_push_of_some _ (Heap.get?_push_of_some _ e2)
theorem unpack_hot {x1 t : Addr} {items : Array Value} {targets : List (Bool × (Value → Sem Unit))} {Q : Unit → Shared → Prop} (hot : HotAt A x1 s.heap) (ht : IsTup s.heap t items) (hn : targets.length = items.size) (nostar : targets.findIdx? (·.1) = none)
    (fin : ∀ h', Heap.ExtBut s.heap.objs.size s.heap h' → wpAny (model prog w) A (assignInOrder (targets.map (·.2)) items.toList) Q E { s with heap := h' }) : wpAny (model prog w) A (unpack (.ref t) targets) Q E s := by
  have lt : t < s.heap.objs.size := by obtain ⟨o, ho, _⟩ := ht; exact Heap.lt_size ho
  have ne := Nat.ne_of_lt lt
  have tyT : s.TypeIs (.ref t) "tuple" := ht.typeIs
  unfold unpack
  rw [hn, nostar]
  refine wpAny_bind (wpAny_holding ?_)
  unfold unpackItems
  refine wpAny_bind (wpAny_mono (Q := fun b s1 => b = false ∧ s1 = s) (by unfold notIterableAtAll; exact wpAny_bind (wpAny_specialOf tyT slot_tuple_iter.lookup (wpAny_pure ⟨rfl, rfl⟩))) (fun b s1 hb => ?_) fun _ _ e => e)
  obtain ⟨rfl, rfl⟩ := hb
  simp only [Bool.false_eq_true, if_false]
  refine wpAny_bind (wpAny_holding (iter_tuple ht (wpAny_bind (wpAny_holding (draw_tuple ne items.size 0 _ _ ⟨_, Heap.get?_push_size _ rfl, rfl, rfl⟩ (ht.push _) (by omega) fun ha ita sba => ?_)))))
  have all : List.take items.size (List.drop 0 items.toList) = items.toList := by
    rw [List.drop_zero]
    exact List.take_of_length_le (by simp)
  rw [all, if_neg (by simp)]
  obtain ⟨hh, o1, v1, e1, d1, c1⟩ := hot
  have hot2 : HotAt A x1 ha := ⟨hh, o1, v1, sba.extBut x1 o1 (Nat.ne_of_lt (Heap.lt_size e1)) (Heap.get?_push_of_some _ e1), d1, c1⟩
  refine wpAny_bind (wpAny_holding (tupEnd_hot (s := { s1 with heap := ha }) hot2 ita ((ht.push _).extBut sba.extBut ne) (by simp) fun hb eb => ?_))
  simp only [Option.isSome_none, Bool.false_eq_true, if_false]
  exact wpAny_pure (fin hb fun b o nb e => eb b o nb (sba.extBut b o nb (Heap.get?_push_of_some _ e)))
end
section
variable {X : Cx} {pos : Pos}
/-- x, y = .., while an exception is handled -/
theorem pg_tupH {es : List Expr} {k : Nat} {t : TGs} {n : Nat} (hot : HotC X) (h : PGs X es t) (hn : (assignEach es X.env).length = n := by rfl) (nostar : (assignEach es X.env).findIdx? (·.1) = none := by rfl) : PG X (.Tuple es k pos) (gTup X.K n t) := by
  refine ⟨fun pins s σ H v u Q I r hw => ?_⟩
  obtain ⟨a, xs, rfl, hq, hl, hw⟩ := hw
  cases r
  obtain ⟨its, rv, ht, hz⟩ := I.tuple hq
  obtain ⟨x1, hat⟩ := hot.at I
  rw [assign_Tuple]
  refine wpAny_bind (wpAny_standAt (unpack_hot hat ht (by simp [hn, ← hl, rv.length]) nostar fun h' hx => ?_))
  exact h.run pins _ σ H xs _ Q (I.kept (t' := s.toks) fun b o e => hx b o (Nat.ne_of_lt (Heap.lt_size e)) e) (by simpa using rv) hw
end
section
variable {X : Cx} {pins : List (Addr × Obj)} {σ : L2.St} {H : Hp} {s : Shared}
/-- a further object that stands -/
theorem pin_more {p : Addr × Obj} (I : Inv X [] σ H s) (h : s.heap.get? p.1 = some p.2 ∧ H p.1 = none ∧ p.1 ≠ X.env.locals ∧ p.1 ∉ X.fs ∧ ∀ v, p.2.data ≠ .cell v) : Inv X [p] σ H s :=
  ⟨I.ok, I.os, I.bare, I.base, I.loc, I.cell, I.free, I.freeC, fun q hq => by
    rcases List.mem_append.mp hq with z | z
    · exact I.pin q (List.mem_append_left _ z)
    · rw [List.mem_singleton.mp z]; exact h, I.hok, I.len⟩
theorem lcH_core {Q : VK} {elt tg iter : Expr} {ifs : List Expr} {scope : Scope} {own : List (Str × Nat)} {pos pos' : Pos} {tl : TE} {g : TG} {tt : TT} {te : TE} {use : Option (Value → Sem Unit)} {Qf : Value → Shared → Prop} (hot : HotC X) (hN : X.N.Nodup) (I0 : Inv X pins σ H s) (src : PE X iter tl) (ok : BlkOk X.N X.env.scope scope own)
    (aim : ∀ (s : Shared) (H : Hp) (C : Addr) (cl : List (Str × Addr)) (fp : List Addr) (p : Addr × Obj), Hot1 X.A p → PG ((X.blk s H scope (compEnvC scope cl C X.env) fp).tr [p] fun _ _ => False) tg g)
    (test : ∀ (s : Shared) (H : Hp) (C : Addr) (cl : List (Str × Addr)) (fp : List Addr) (p : Addr × Obj), Hot1 X.A p → PTs ((X.blk s H scope (compEnvC scope cl C X.env) fp).tr [p] fun _ _ => False) ifs tt)
    (valE : ∀ (s : Shared) (H : Hp) (C : Addr) (cl : List (Str × Addr)) (fp : List Addr) (p : Addr × Obj), Hot1 X.A p → PE ((X.blk s H scope (compEnvC scope cl C X.env) fp).tr [p] fun _ _ => False) elt te) (hs : ∀ x, foldedSetIterable iter X.env x = pure x)
    (want : tLc (iList X.K tl) g tt te (own.map (·.2)) σ H Q)
    (home : ∀ D C s' m H', Inv X pins σ H' s' → Q (.ref D) H' → s'.heap.Ns C m → FpOk X pins H' C → compPost (model X.prog X.w) X.A X.xe use Qf (.ref D) C (.ok .next) s') :
    wpAny (model X.prog X.w) X.A (comprehension (.ListComp elt [⟨tg, iter, ifs, 0⟩] scope pos) scope X.env pos' (newList []) false (eval iter X.env) use) Qf X.xe s := by
  obtain ⟨⟨x1, ox⟩, ⟨hh, hv⟩, hmem⟩ := hot
  obtain ⟨v1, d1, c1⟩ := hv
  have frees : ∀ y ∈ scope.names, y.2 = .free → ∃ c, X.env.cells.lookup y.1 = some c := fun y hy e => (ok.free y hy e).elim (fun z => I0.ok.has _ (.inl z)) (fun z => I0.ok.has _ (.inr z))
  refine wpAny_comprehension_free (use := use) rfl hs (closure_ok frees) ok.kind (fun y hy e => by rw [ok.uniq y hy, e]) (thn (src.run pins s σ H _ I0 want) fun _ sA ⟨_, HA, IA, rA, la, hla, ⟨xs0, hq0⟩, asked⟩ => ?_)
  subst hla
  cases rA
  obtain ⟨its0, rv0, pl0, hz0⟩ := IA.list hq0
  refine wpAny_pyIter_list pl0.isList ?_
  generalize eI : sA.heap.objs.size = it
  generalize eB : ({ sA with heap := _ } : Shared) = sB
  have hB : sB.heap = sA.heap.push { cls := .type "list_iterator", data := .fields #[.ref la, .int 0 0] } := by rw [← eB]
  have IB : Inv X pins σ HA sB := by
    rw [← eB]
    exact IA.kept (t' := sA.toks) fun b o e => Heap.get?_push_of_some _ e
  have fI : FpOk X pins HA it := eI ▸ IA.fpOk (Nat.le_refl _) (IA.hok.fresh (Nat.le_refl _))
  have iB : sB.heap.IsListIter it la 0 := by
    rw [hB, ← eI]
    exact ⟨_, Heap.get?_push_size _ rfl, rfl, rfl⟩
  have neX : x1 ≠ it := fun z => fI.2.2.2.2.2 (x1, ox) (List.mem_append_left _ hmem) z
  refine wpAny_newObj_type (newEnv_comp ?_) (by show 0 ≤ sizeLine; decide)
  generalize eD : sB.heap.objs.size = D
  obtain ⟨W, ⟨m0, wStart⟩, turn⟩ := asked D (IB.hok.fresh (Nat.le_of_eq eD))
  generalize eC : ({ sB with heap := sB.heap.push { cls := .type "list", data := .seq ([] : List Value).toArray } } : Shared) = sC
  have hC : sC.heap = sB.heap.push { cls := .type "list", data := .seq ([] : List Value).toArray } := by rw [← eC]
  have IC : Inv X pins σ (upd HA D (.lst [])) sC := by
    rw [← eC]
    exact IB.laid (t' := sB.toks) (fun b o e => Heap.get?_push_of_some _ e) (Nat.le_of_eq eD) ⟨Nat.zero_le _, [], 0, .nil, by rw [← eD]; exact Heap.get?_push_size _ rfl⟩
  have fC : ∀ b ∈ [it], FpOk X pins (upd HA D (.lst [])) b ∧ b < sC.heap.objs.size := fun b hb => by
    obtain rfl := List.mem_singleton.mp hb
    obtain ⟨_, ei, _⟩ := id iB
    have lt := Heap.lt_size ei
    refine ⟨⟨?_, fI.2⟩, by rw [hC, Heap.size_push]; exact Nat.lt_succ_of_lt lt⟩
    rw [upd_ne (eD ▸ Nat.ne_of_lt lt)]
    exact fI.1
  have iC : sC.heap.IsListIter it la 0 := iB.at fun o e => by rw [hC]; exact Heap.get?_push_of_some _ e
  have pinC := IC.pin (x1, ox) (List.mem_append_left _ hmem)
  have frB := pinC
  have IV := block_start IC ok hN fC
  have pg := aim sC (upd HA D (.lst [])) sC.heap.objs.size (cellsFrom (sC.heap.objs.size + 1) scope.names (cloFrom X.env.cells scope.names [])) [it] (x1, ox) ⟨hh, v1, d1, c1⟩
  have pt := test sC (upd HA D (.lst [])) sC.heap.objs.size (cellsFrom (sC.heap.objs.size + 1) scope.names (cloFrom X.env.cells scope.names [])) [it] (x1, ox) ⟨hh, v1, d1, c1⟩
  have pv := valE sC (upd HA D (.lst [])) sC.heap.objs.size (cellsFrom (sC.heap.objs.size + 1) scope.names (cloFrom X.env.cells scope.names [])) [it] (x1, ox) ⟨hh, v1, d1, c1⟩
  show codeAny _ _ (.compStart (.ListComp elt [⟨tg, iter, ifs, 0⟩] scope pos) 0 (.ref it) (.ref D) (compEnvC scope (cellsFrom (sC.heap.objs.size + 1) scope.names (cloFrom X.env.cells scope.names [])) sC.heap.objs.size X.env)) _ { sC with heap := pushCells (sC.heap.push { cls := .type "dict", data := .dict #[] }) scope.names }
  have noFp : (upd HA D (.lst [])) it = none := (fC it List.mem_cons_self).1.1
  generalize eE : compEnvC scope (cellsFrom (sC.heap.objs.size + 1) scope.names (cloFrom X.env.cells scope.names [])) sC.heap.objs.size X.env = ce at IV pg pt pv ⊢
  have cL : ce.locals = sC.heap.objs.size := by subst eE; rfl
  generalize eH : upd HA D (.lst []) = HC at IC IV pg pt pv wStart noFp fC pinC frB
  generalize eS : ({ sC with heap := pushCells (sC.heap.push { cls := .type "dict", data := .dict #[] }) scope.names } : Shared) = sE at IV ⊢
  have keepE : ∀ b o, sC.heap.get? b = some o → sE.heap.get? b = some o := fun b o e => by rw [← eS]; exact pushCells_keeps _ _ _ _ (Heap.get?_push_of_some _ e)
  have iE : sE.heap.IsListIter it la 0 := iC.at fun o e => keepE _ _ e
  have IW : Inv (X.blk sC HC scope ce [it]) [(x1, ox)] (wipe σ (own.map (·.2))) HC sE := by
    refine pin_more IV ⟨keepE _ _ pinC.1, pinC.2.1, ?_, ?_, pinC.2.2.2.2⟩
    · show x1 ≠ ce.locals
      rw [cL]
      exact Nat.ne_of_lt (Heap.lt_size pinC.1)
    · show x1 ∉ frs X.stack
      exact fun z => (List.mem_cons.mp (IC.stkSub x1 z)).elim pinC.2.2.1 pinC.2.2.2.1
  have IT : Inv ((X.blk sC HC scope ce [it]).tr [(x1, ox)] fun _ _ => False) [] (wipe σ (own.map (·.2))) HC sE := IW.toTry (fun _ _ => False)
  have held : ∀ {σ' : L2.St} {H' : Hp} {s' : Shared}, Inv ((X.blk sC HC scope ce [it]).tr [(x1, ox)] fun _ _ => False) [] σ' H' s' → H' it = none → FpOk ((X.blk sC HC scope ce [it]).tr [(x1, ox)] fun _ _ => False) [] H' it := fun {σ' H' s'} I' nn =>
    ⟨nn, (I'.ok.exf it List.mem_cons_self).1, I'.ok.exfs it List.mem_cons_self, .inl List.mem_cons_self, fun x c e => (I'.ok.exf it List.mem_cons_self).2 x c e, fun p hp => by
      have e : p = (x1, ox) := by simpa using (show p ∈ [(x1, ox)] ++ ([] : List (Addr × Obj)) from hp)
      rw [e]; exact neX⟩
  have hotAt : ∀ {σ' : L2.St} {H' : Hp} {s' : Shared} {r : List (Addr × Obj)}, Inv ((X.blk sC HC scope ce [it]).tr [(x1, ox)] fun _ _ => False) r σ' H' s' → HotAt X.A x1 s'.heap := fun {σ' H' s' r} I' => ⟨hh, ox, v1, (I'.pin (x1, ox) (List.mem_append_left _ List.mem_cons_self)).1, d1, c1⟩
  have fullLoop : codeAny (model X.prog X.w) X.A (.compLoop (.ListComp elt [⟨tg, iter, ifs, 0⟩] scope pos) 0 (.ref it) (.ref D) ce) (compPost (model X.prog X.w) X.A X.xe use Qf (.ref D) sC.heap.objs.size) sE := by
    refine compLoop_any (fun n s' => ∃ i H', Inv ((X.blk sC HC scope ce [it]).tr [(x1, ox)] fun _ _ => False) [] (wipe σ (own.map (·.2))) H' s' ∧ s'.heap.IsListIter it la i ∧ H' it = none ∧ W i n H') ?_ m0 ⟨0, HC, IT, iE, noFp, wStart⟩
    rintro n s5 ⟨i, H5, I5, st5, n5, w5⟩
    obtain ⟨f0, f1, f2, f3, f4, f5⟩ := held I5 n5
    rcases turn i n H5 w5 with ⟨⟨ys, hy, hle⟩, qq⟩ | ⟨⟨ys, y, hy, hyi⟩, Nx, onward, step⟩
    · obtain ⟨its, rv, pl, hz⟩ := I5.list hy
      have hl := rv.length
      refine thnF (listEnd_hot (hotAt I5) st5 pl.isList (by simp; omega) (Q := fun r s6 => r = none ∧ Inv ((X.blk sC HC scope ce [it]).tr [(x1, ox)] fun _ _ => False) [] (wipe σ (own.map (·.2))) H5 s6) fun h' eb => ⟨rfl, I5.turned (t' := s5.toks) (fun b o hb e => eb b o hb e) f0 f1 f3 f4 f5⟩) fun r s6 ⟨hr, I6⟩ => ?_
      subst hr
      have I7 : Inv X pins σ H5 s6 := IC.call' (ch := [it]) I6.os I6.base I6.hok I6.bare fun b hb => ⟨(fC b hb).1.2.2.2.1, (fC b hb).1.2.1, (fC b hb).1.2.2.2.2.1, (fC b hb).1.2.2.2.2.2⟩
      have nC : H5 sC.heap.objs.size = none := by
        have z : H5 ce.locals = none := I6.free
        rw [cL] at z
        exact z
      obtain ⟨m, hn, _⟩ := I6.loc
      have hn : s6.heap.Ns ce.locals m := hn
      rw [cL] at hn
      exact home D sC.heap.objs.size s6 m H5 I7 qq hn (IC.fpOk (Nat.le_refl _) nC)
    · obtain ⟨its, rv, pl, hz⟩ := I5.list hy
      obtain ⟨u, hu, ru⟩ := rv.get hyi
      refine thnF (wpAny_pyNext_list_item st5 pl.isList (x := u) (by simpa using hu) (Q := fun r s6 => r = some u ∧ Inv ((X.blk sC HC scope ce [it]).tr [(x1, ox)] fun _ _ => False) [] (wipe σ (own.map (·.2))) H5 s6 ∧ s6.heap.IsListIter it la (i + 1)) fun h' st' sb => ⟨rfl, I5.turned (t' := s5.toks) (fun b o hb e => (sb.2 b hb).trans e) f0 f1 f3 f4 f5, st'⟩) fun r s6 ⟨hr, I6, st6⟩ => ?_
      subst hr
      obtain ⟨oi, ei, ci, di⟩ := id st6
      have pinI : True ∧ ∀ v, oi.data ≠ .cell v := ⟨trivial, fun v z => (by rw [di] at z; cases z)⟩
      refine thnF (go_of (n := "list_iterator") ei ci di (by decide) (Q := fun _ s7 => s7 = s6) rfl) fun _ s7 e7 => ?_
      subst e7
      have I7 : Inv ((X.blk sC HC scope ce [it]).tr [(x1, ox)] fun _ _ => False) [(it, oi)] (wipe σ (own.map (·.2))) H5 s7 :=
        ⟨I6.ok, I6.os, I6.bare, I6.base, I6.loc, I6.cell, I6.free, I6.freeC, fun q hq => by
          rcases List.mem_append.mp hq with z | z
          · exact I6.pin q (List.mem_append_left _ z)
          · rw [List.mem_singleton.mp z]
            exact ⟨ei, f0, f1, f2, pinI.2⟩, I6.hok, I6.len⟩
      refine thnF (pg.run _ s7 _ H5 y u _ I7 ru (step y H5 ⟨rfl, fun zs hzs => by rw [I6.list_inj hzs hy]; exact hyi⟩)) fun _ s8 ⟨σ8, H8, I8, hw8, q8⟩ => ?_
      refine thnF (pt.run _ s8 σ8 H8 _ I8 q8) fun bb s9 ⟨H9, I9, q9⟩ => ?_
      have atEnd : ∀ {s' : Shared} {H' : Hp}, Inv ((X.blk sC HC scope ce [it]).tr [(x1, ox)] fun _ _ => False) [(it, oi)] σ8 H' s' → Nx H' → ∃ m, m < n ∧ ∃ i H', Inv ((X.blk sC HC scope ce [it]).tr [(x1, ox)] fun _ _ => False) [] (wipe σ (own.map (·.2))) H' s' ∧ s'.heap.IsListIter it la i ∧ H' it = none ∧ W i m H' := fun {s' H'} I' nx => by
        obtain ⟨m', hm, w'⟩ := onward H' nx
        have p' := I'.pin (it, oi) (List.mem_append_right _ List.mem_cons_self)
        have hl : (wipe σ (own.map (·.2))).length = σ8.length := by rw [← hw8, wipe_length]
        have I2 : Inv ((X.blk sC HC scope ce [it]).tr [(x1, ox)] fun _ _ => False) [] σ8 H' s' :=
          ⟨I'.ok, I'.os, I'.bare, I'.base, I'.loc, I'.cell, I'.free, I'.freeC, fun q hq => I'.pin q (by
            rcases List.mem_append.mp hq with z | z
            · exact List.mem_append_left _ z
            · cases z), I'.hok, I'.len⟩
        exact ⟨m', hm, i + 1, H', I2.weak hl (fun j v e => (wipe_some (hw8 ▸ e)).1), ⟨oi, p'.1, ci, di⟩, p'.2.1, w'⟩
      cases bb with
      | false =>
        simp only [Bool.false_eq_true, if_false] at q9 ⊢
        exact atEnd I9 q9
      | true =>
        simp only [if_true] at q9 ⊢
        refine thnF (pv.run _ s9 σ8 H9 _ I9 q9) fun z s10 ⟨yv, H10, I10, r10, acc, hD10, hz10, nx⟩ => ?_
        exact app_ok (X := (X.blk sC HC scope ce [it]).tr [(x1, ox)] fun _ _ => False) I10 hD10 hz10 r10 fun s11 I11 => atEnd I11 nx
  exact codeAny_compStart_list fullLoop (wpAny_pyIter_listiter iE fullLoop)
theorem pe_lcH {elt tg iter : Expr} {ifs : List Expr} {scope : Scope} {own : List (Str × Nat)} {pos : Pos} {tl : TE} {g : TG} {tt : TT} {te : TE} (hot : HotC X) (hN : X.N.Nodup) (src : PE X iter tl) (ok : BlkOk X.N X.env.scope scope own)
    (aim : ∀ (s : Shared) (H : Hp) (C : Addr) (cl : List (Str × Addr)) (fp : List Addr) (p : Addr × Obj), Hot1 X.A p → PG ((X.blk s H scope (compEnvC scope cl C X.env) fp).tr [p] fun _ _ => False) tg g)
    (test : ∀ (s : Shared) (H : Hp) (C : Addr) (cl : List (Str × Addr)) (fp : List Addr) (p : Addr × Obj), Hot1 X.A p → PTs ((X.blk s H scope (compEnvC scope cl C X.env) fp).tr [p] fun _ _ => False) ifs tt)
    (valE : ∀ (s : Shared) (H : Hp) (C : Addr) (cl : List (Str × Addr)) (fp : List Addr) (p : Addr × Obj), Hot1 X.A p → PE ((X.blk s H scope (compEnvC scope cl C X.env) fp).tr [p] fun _ _ => False) elt te) (hs : ∀ x, foldedSetIterable iter X.env x = pure x := by intro _; rfl) :
    PE X (.ListComp elt [⟨tg, iter, ifs, 0⟩] scope pos) (tLc (iList X.K tl) g tt te (own.map (·.2))) := by
  refine ⟨fun pins s σ H Q I0 want => ?_⟩
  rw [arm_eval_ListComp]
  refine lcH_core hot hN I0 src ok aim test valE hs want fun D C s' m H' I' q hn f => ⟨m, hn, fun h'' sb => ?_⟩
  obtain ⟨f0, f1, f2, f3, f4, f5⟩ := f
  exact ⟨.ref D, H', I'.turned (t' := s'.toks) (fun b o hb e => (sb.2 b hb).trans e) f0 f1 f3 f4 f5, rfl, q⟩
end
end Pf

namespace Pf
open PySem PySem.Spec PyProof.Rows L2 L2H
/-! ### a def that is handed the exception that is handled -/
structure FnE (P : Program) (w : World) (K : Fg) (mg : Str → Option Value) (base : Heap) (k : Nat) (f : Addr) (fd : FuncData) (ps : List Str) (sp : Sp) (p : Addr × Obj) : Prop where
  len : ∀ vs H Q E, sp vs H Q E → vs.length = ps.length
  run : ∀ (A : Around) (outer : List Env) (s : Shared) (H : Hp) (args : Args) (us : List Value) (vs : List V) (Q : VK) (E : XK), RoomH k A → Hot1 A p → PinOk outer H s p → Env0 P w K mg base A outer s H → BindsTo s fd args (ps.zip us) → Vals vs us → sp vs H Q E →
    codeAny (model P w) A (.call (.ref f) args) (CR CX0 outer P w H s Q E) s
structure DfE (P : Program) (w : World) (K : Fg) (mg : Str → Option Value) (base : Heap) (k : Nat) (x : Str) (ps : List Str) (sp : Sp) (p : Addr × Obj) : Prop where
  ex : ∃ f fd, FnE P w K mg base k f fd ps sp p ∧ Binds K fd ps [] ∧ PySem.W.keepIn K (.ref f) = true ∧ mg x = some (.ref f)
section
variable {P : Program} {w : World} {K : Fg} {mg : Str → Option Value} {base : Heap} {p : Addr × Obj}
theorem fnE_of {k : Nat} {f : Addr} {name qual : Str} {params : Arguments} {body : List Stmt} {scope : Scope} {dV kV doc pm cdv ct oc : Value} {an od : Option Addr} {osl : Array (Option Value)} {N ps : List Str} {sp : Sp}
    (lk : K.lookup f = some ⟨oc, od, .func (PySem.W.fnOf name qual params body scope dV kV doc pm an cdv ct), osl⟩) (code : PySem.W.codeIn K cdv qual = true) (S : FnScope N ps scope) (len : ∀ vs H Q E, sp vs H Q E → vs.length = ps.length)
    (runs : ∀ (A : Around) (outer : List Env) (s : Shared) (H : Hp) (vs : List V) (Q : VK) (E : XK), Hot1 A p → RoomH k (A.deeper (envOfC qual scope s.heap.objs.size f cdv)) → sp vs H Q E →
      ∃ t, PSs (cxH CX0 P w K mg base N qual scope f cdv A outer s H E p) body t ∧ t { nx := fun _ H' => Q .non H', rt := Q } (L2.start N vs) H) :
    FnE P w K mg base (k + 1) f (PySem.W.fnOf name qual params body scope dV kV doc pm an cdv ct) ps sp p := by
  refine ⟨len, fun A outer s H args us vs Q E room hot pin e0 bind vals want => ?_⟩
  have inK : K.In s.heap := e0.mod.kin.keeps fun b o e => (e0.bs b o e).1
  have parK : ∀ y ∈ ps.zip us, scope.names.lookup y.1 = some .local ∨ (scope.names.lookup y.1 = some .cell ∧ ((cellsFrom (s.heap.objs.size + 1) scope.names []).lookup y.1).isSome = true) := fun ⟨n, v⟩ hy =>
    (S.par n (List.of_mem_zip hy).1).elim .inl fun q => .inr ⟨q, PySem.W.cellsFrom_some _ _ _ (.inl q)⟩
  refine codeAny_call_function room.depth (inK _ _ lk) rfl S.co S.gen rfl (PySem.W.codeRec_of inK code) (bind _ _ _ _ (wpAny_newFunctionEnv_cells S.kind parK fun env he s1 x => ?_))
  subst he
  have noLim : s.heap.NoLimit := e0.mod.nolimit.keeps fun b o e => (e0.bs b o e).1
  refine ⟨noLim.keeps x.toInCall.keep, codeAny_func ?_⟩
  obtain ⟨t, ht, hq⟩ := runs A outer s H vs Q E hot (room.deeper _) want
  refine wpAny_mono (ht.run [] s1 (L2.start N vs) H _ (inv_startH S pin e0 (len _ _ _ _ want) vals x) hq) (fun fl s' hs => ?_) fun _ _ z => z
  match fl, hs with
  | .ret _, ⟨v, _, H', J, rv, q⟩ => exact ⟨v, H', J.os, J.bare, J.base, J.hok, rv, q⟩
  | .next, ⟨_, H', J, q⟩ => exact ⟨V.non, H', J.os, J.bare, J.base, J.hok, rfl, q⟩
  | .brk, ⟨_, _, _, z⟩ => exact z.elim
  | .cont, ⟨_, _, _, z⟩ => exact z.elim
theorem Tx.okE {x : Str} {st : Stmt} {N ps : List Str} {k : Nat} {sp : Sp} (T : Tx K mg x ps st) (S : FnScope N ps (defScope st)) (len : ∀ vs H Q E, sp vs H Q E → vs.length = ps.length)
    (runs : ∀ (cdv : Value) (f : Addr) (A : Around) (outer : List Env) (s : Shared) (H : Hp) (vs : List V) (Q : VK) (E : XK), Hot1 A p → RoomH k (A.deeper (envOfC x (defScope st) s.heap.objs.size f cdv)) → sp vs H Q E →
      ∃ t, PSs (cxH CX0 P w K mg base N x (defScope st) f cdv A outer s H E p) (defBody st) t ∧ t { nx := fun _ H' => Q .non H', rt := Q } (start N vs) H) : DfE P w K mg base (k + 1) x ps sp p := by
  obtain ⟨f, fd, F, b, m⟩ := T.ex
  have kp := F.kp
  obtain ⟨oc, od, kV, doc, pm, an, cdv, ct, osl, rfl, lk, hcd⟩ := F.ex
  exact ⟨f, _, fnE_of lk hcd S len fun A outer s H vs Q E hot hr h => runs cdv f A outer s H vs Q E hot hr h, b, kp, m⟩
end
section
variable {X : Cx} {j k : Nat} {x : Str} {ps : List Str} {sp : Sp} {q pos : Pos} {e : Expr} {es : List Expr} {t : TA} {p : Addr × Obj}
theorem pe_dfE (D : DfE X.prog X.w X.K X.mg X.base j x ps sp p) (hr : RoomH k X.A) (le : j ≤ k) (hot : Hot1 X.A p) (hp : p ∈ X.pn) (hg : Gl X x) (ha : PA X (e :: es) t)
    (hdb : (x == ("__debug__" : Str)) = false := by decide) (he : starEach (e :: es) X.env = (false, eval e X.env) :: starEach es X.env := by rfl) (hpl : (backTo pos (starEach es X.env)).any (·.1) = false := by rfl) :
    PE X (.Call (.Name x q) (e :: es) [] pos) (tCall sp [] E0 t) := by
  obtain ⟨f, fd, F, hb, kp, hm⟩ := D.ex
  refine ⟨fun pins s σ H Q I h => wpAny_Call_Name_kw (ld_glob I hg hm (PySem.W.callWith_K (h₀ := X.base) I.ok.mod.kin kp (thn (ha.run pos pins s σ H _ I h) fun us s1 ⟨vs, H1, I1, r, want⟩ => ⟨I1.kIn, ?_⟩) he hpl) hdb)⟩
  have want : sp (vs ++ []) H1 Q E0 := want
  rw [List.append_nil] at want
  have hl : us.length = ps.length := by rw [← r.length]; exact F.len _ _ _ _ want
  have bnd := hb s1 us I1.kIn (by rw [List.append_nil]; exact hl)
  rw [List.append_nil] at bnd
  have P1 := I1.pin p (List.mem_append_left _ hp)
  refine wpAny_call (codeAny_mono (F.run X.A X.stack s1 H1 ⟨us, []⟩ us vs Q E0 (hr.mono le) hot ⟨P1.1, P1.2.1, fun hm => (List.mem_cons.mp (I1.stkSub p.1 hm)).elim P1.2.2.1 P1.2.2.2.1, P1.2.2.2.2⟩ I1.env0 bnd r want) fun rr s' hq => ?_)
  match rr, hq with
  | .ok (.ret _), hq => exact I1.after hq
  | .ok .next, hq => exact False.elim hq
  | .ok .brk, hq => exact False.elim hq
  | .ok .cont, hq => exact False.elim hq
  | .error _, hq => exact False.elim hq
end
theorem roomHm {k : Nat} {A : Around} (r : Room k A) (h : Option Value) : RoomH k (A.mark h) := ⟨r.dp, r.un⟩
/-! ### isinstance of the exception -/
def rIsX (K : Fg) (cls : Value) (d : Option Addr) (a : Addr) : List V → Hp → VK → Prop := fun xs H Q => ∃ (D : Addr) (c : V) (cv : Value) (b : Bool), cls = .ref D ∧ d = none ∧ ExcC K D ∧ xs = [.ref a, c] ∧ (∀ u, RelV c u → u = cv) ∧ PySem.W.kitOne K (.ref D) cv = some b ∧ Q (.bl b) H
theorem call_isX {X : Cx} {K : Fg} {a : Addr} {oe : Obj} {cls : Value} {d : Option Addr} (hK : X.K = K) (hp : (a, oe) ∈ X.pn) (hz : L2N.Zn cls d oe) (hf : ∃ vs, oe.data = .fields vs) : CallR X (.builtin "isinstance") (rIsX K cls d a) := by
  subst hK
  intro pins s σ H xs us Q I r h
  obtain ⟨D, c, cv, b, rfl, rfl, C, rfl, hcv, e, q⟩ := h
  match us, r with
  | [_, _], .cons rx (.cons rt .nil) =>
    cases rx
    obtain rfl := hcv _ rt
    have at0 := (I.pin (a, oe) (List.mem_append_left _ hp)).1
    have J : PySem.W.InstAt s.heap a oe D none := by
      obtain ⟨vs, hv⟩ := hf
      obtain ⟨oc, od, oda, osl⟩ := oe
      obtain ⟨h1, h2, _⟩ := hz
      dsimp only at h1 h2 hv
      subst h1 h2 hv
      exact ⟨at0, rfl, rfl, trivial⟩
    exact PySem.W.kia_one (PySem.W.handS_kitx_exc C.hg C.hk C.hs C.hd C.ha C.hn C.ht C.hm) I.kIn J e (fun z => nomatch z) fun tk => ⟨.bl b, H, I.kept (t' := tk) fun _ _ z => z, rfl, q⟩
/-! ### the classes of the text -/
/-- what the written part says of an own class under PinchError -/
structure ExmC (K : Fg) (CP D : Addr) : Prop where
  mro : (PySem.W.clsIn K D).map (·.mro) = some [.ref D, .ref CP, .type "ValueError", .type "Exception", .type "BaseException", .type "object"]
  hg : PySem.W.findIn K (.ref D) "__getattribute__" = some (some (.builtin "BaseException.__getattribute__"))
  hk : PySem.W.findIn K (.ref D) "__getattr__" = some none
  hd : PySem.W.hasDictIn K D = true
  ha : PySem.W.findIn K (.ref D) "__class__" = some (some (.builtin "object.__class__"))
structure ClsG (K : Fg) : Prop where
  hn : PySem.W.specialIn K (.builtin "object.__class__") "__get__" = some (some (.builtin "getset_descriptor.__get__"))
  ht : PySem.W.takesIn K (.builtin "object.__class__") = some true
theorem ExmC.sub {K : Fg} {CP D : Addr} (m : ExmC K CP D) {c : Value} : PySem.W.subIn K (.ref D) c = some (([.ref D, .ref CP, .type "ValueError", .type "Exception", .type "BaseException", .type "object"] : List Value).contains c) := by
  obtain ⟨cd, h1, h2⟩ := Option.map_eq_some_iff.mp m.mro
  show PySem.W.mroIn K D c = _
  unfold PySem.W.mroIn
  rw [h1, Option.bind_some, h2]
  rfl
theorem ExmC.exc {K : Fg} {CP D : Addr} (m : ExmC K CP D) (g : ClsG K) : ExcC K D := ⟨m.hg, m.hk, m.sub, m.hd, m.ha, g.hn, g.ht, m.sub⟩
/-- a class that is asked for -/
structure AskC (K : Fg) (C : Addr) : Prop where
  t : PySem.W.typeIn K (.ref C) = some (.type "type")
  i : PySem.W.isClsIn K C = true
theorem ExmC.kit {K : Fg} {CP D C : Addr} (m : ExmC K CP D) (a : AskC K C) (n : C ≠ CP) : PySem.W.kitOne K (.ref D) (.ref C) = some (decide (D = C)) := by
  unfold PySem.W.kitOne
  by_cases e : D = C
  · subst e
    rw [if_pos (beq_self_eq_true _), decide_eq_true rfl]
  · rw [if_neg (fun z => e (Value.ref.inj (beq_iff_eq.mp z))), decide_eq_false e]
    have h2 : (PySem.W.clsIn K C).isSome = true := a.i
    unfold PySem.W.kitCls
    simp only
    rw [h2, a.t, if_pos (by rfl), m.sub]
    congr 1
    have ne : (Value.ref C == Value.ref D) = false := Bool.eq_false_iff.mpr fun z => e (Value.ref.inj (beq_iff_eq.mp z)).symm
    have ne2 : (Value.ref C == Value.ref CP) = false := Bool.eq_false_iff.mpr fun z => n (Value.ref.inj (beq_iff_eq.mp z))
    simp only [List.contains_cons, ne, ne2, Bool.false_or]
    rfl
theorem ExmC.kitVE {K : Fg} {CP D : Addr} (m : ExmC K CP D) : PySem.W.kitOne K (.ref D) (.type "ValueError") = some true := by
  unfold PySem.W.kitOne
  rw [if_neg (fun z => by have z := beq_iff_eq.mp z; cases z)]
  unfold PySem.W.kitCls
  simp only
  rw [if_pos (by rfl), m.sub]
  rfl
end Pf

namespace Pf
open PySem PySem.Spec PyProof.Rows L2
/-! ### the law's own book of what is on the leaves -/
instance : TK (Tri Int Str Int) where
  ky := fun x => [Sum.inl x.a, Sum.inr x.b, Sum.inl x.c]
  inj := fun {x y} h => by
    injection h with h1 h; injection h with h2 h; injection h with h3 h
    cases x; cases y
    cases Sum.inl.inj h1; cases Sum.inr.inj h2; cases Sum.inl.inj h3; rfl
  to := fun {G b x} h => ⟨b, .int x.a, .str x.b, .int x.c, rfl, h, rfl, rfl, rfl⟩
  of := fun {G v x} ⟨b, u, w, z, e, h, h1, h2, h3⟩ => ⟨b, e, by rw [rep_int h1, rep_str h2, rep_int h3] at h; exact h⟩
instance : Dat Sight := ⟨fun s => .tuple [.int s.a, .str s.b, .int s.c, .str s.d, .str s.e], fun {G v x} ⟨p, h1, h2⟩ => ⟨p, _, h1, h2, _, _, rfl, rfl, _, _, rfl, rfl, _, _, rfl, rfl, _, _, rfl, rfl, _, _, rfl, rfl, rfl⟩, fun {x y} h => by
  injection h with h
  injection h with h1 h; injection h with h2 h; injection h with h3 h; injection h with h4 h; injection h with h5 h
  cases x; cases y
  cases h1; cases h2; cases h3; cases h4; cases h5
  rfl⟩
abbrev HuL := List ((Int × Str) × Str)
abbrev NoL := List ((Tri Int Str Int) × Str)
def Tie (lv : LvL) (hu : HuL) (no : NoL) : Prop := ∀ (a : Int) (b : Str), ∃ x0 x1 x2 : Nat, onLeafM lv (a, b) = ((look hu (a, b)).getD "", tx [x0, x1, x2]) ∧ (look no ⟨a, b, 0⟩).getD "-" = tx [x0] ∧ (look no ⟨a, b, 1⟩).getD "-" = tx [x1] ∧ (look no ⟨a, b, 2⟩).getD "-" = tx [x2]
theorem onLeaf_put (lv : LvL) (k j : Int × Str) (t : Str × Str) : onLeafM (put lv k t) j = if j = k then t else onLeafM lv j := by
  unfold onLeafM
  rw [look_put]
  split <;> rfl
/-- all notes are single signs -/
def OneN (no : NoL) : Prop := ∀ e ∈ no, e.2.length = 1
/-! the dict in which the law keeps a paper -/
structure PDict (K : Fg) where
  pl : Plan
  hu : HuL
  no : NoL
instance {K : Fg} : Rep (PDict K) := ⟨fun G v x => ∃ d kvs vp vh vn, v = .ref d ∧ G d = some (.dK kvs) ∧ valV kvs (Sum.inr "plan") = some vp ∧ rep G vp x.pl ∧ valV kvs (Sum.inr "hues") = some vh ∧ rep G vh (Dct.mk x.hu : Dct (Int × Str) Str) ∧ valV kvs (Sum.inr "notes") = some vn ∧ rep G vn (Dct.mk x.no : Dct (Tri Int Str Int) Str),
  fun e ⟨d, kvs, vp, vh, vn, h1, h2, h3, h4, h5, h6, h7, h8⟩ => ⟨d, kvs, vp, vh, vn, h1, e _ _ h2, h3, Rep.mono e h4, h5, Rep.mono e h6, h7, Rep.mono e h8⟩⟩
section
variable {K : Fg} {σ : L2.St} {G H : Hp} {te : TE} {x : PDict K}
end
end Pf

namespace Pf
open PySem PySem.Spec PyProof.Rows L2
/-! ### a house with one paper -/
structure OneP (n : Nat) (h : HM) (pl : Plan) (p : PapM) (l : T3) : Prop where
  g : GoodH n h
  ps : h.ps = [(("p" : Str), p)]
  f : p.fold = some (pl, l)
theorem OneP.look {n : Nat} {h : HM} {pl : Plan} {p : PapM} {l : T3} (o : OneP n h pl p l) : Pf.look h.ps "p" = some p := by rw [o.ps]; rfl
theorem OneP.named {n : Nat} {h : HM} {pl : Plan} {p : PapM} {l : T3} (o : OneP n h pl p l) : namedM h "p" = .ok p := by unfold namedM; rw [o.look]
theorem OneP.good {n : Nat} {h : HM} {pl : Plan} {p : PapM} {l : T3} (o : OneP n h pl p l) : isPlanM pl = true ∧ Jn pl l.a l.b ∧ 0 ≤ l.c ∧ l.c ≤ 2 ∧ GoodP 80000 p := by
  have g := o.g.paper o.look
  have gf := g.fold _ o.f
  exact ⟨gf.1, gf.2.1, gf.2.2.1, gf.2.2.2.1, g⟩
theorem OneP.act {n : Nat} {h : HM} {pl : Plan} {p q : PapM} {l l' : T3} (o : OneP n h pl p l) (hn : n < 80000) {a : Ac} (e : actM p a = .ok q) (f : q.fold = some (pl, l')) : pbM h (.act "p" a) = .ok (some q) ∧ OneP (n + 1) (doneM h (.act "p" a) (some q)) pl q l' := by
  have e1 : pbM h (.act "p" a) = .ok (some q) := by
    show (match namedM h "p" with | .error e => (.error e : Except Ek (Option PapM)) | .ok p => (actM p a).map some) = _
    rw [o.named]
    show (actM p a).map some = _
    rw [e]
    rfl
  refine ⟨e1, putO_good o.g hn e1, ?_, f⟩
  show put h.ps "p" q = _
  rw [o.ps]
  rfl
theorem OneP.fold {pl : Plan} {q : PapM} (e : newM pl = .ok q) : pbM ⟨[], [], []⟩ (.fold "p" pl) = .ok (some q) ∧ OneP 1 (doneM ⟨[], [], []⟩ (.fold "p" pl) (some q)) pl q ⟨0, 1, 0⟩ ∧ q.lv = [] := by
  have e1 : pbM ⟨[], [], []⟩ (.fold "p" pl) = .ok (some q) := by
    show (addM ⟨[], [], []⟩ "p" pl).map some = _
    unfold addM
    rw [if_pos (by decide +kernel), if_neg (by decide +kernel), e]
    rfl
  have g0 : GoodH 0 ⟨[], [], []⟩ := ⟨Nat.zero_le _, fun e he => (by cases he), .nil, Nat.zero_le _, Nat.le_refl _⟩
  unfold newM at e
  split at e
  · next hp =>
    cases e
    exact ⟨e1, ⟨putO_good g0 (by decide) e1, rfl, rfl⟩, rfl⟩
  · cases e
section
variable {σ : L2.St} {G H : Hp} {te ta tb : TE} {u : TS} {D : Ends} {ad : Ek → Addr} {W : WX} {K : Fg} {C CH : Addr} {c : HA} {h : HM} {n : Nat} {pl : Plan} {p : PapM} {l : T3}
theorem ev_thS {x : Str} (e : Ev te σ G x) : Ev te σ G (Th.s x) := fun H i Q q => e H i Q q
theorem ev_thN {x : Int} (e : Ev te σ G x) : Ev te σ G (Th.n x) := fun H i Q q => e H i Q q
theorem ev_thP {x : Plan} (e : Ev te σ G x) : Ev te σ G (Th.p x) := fun H i Q q => e H i Q q
/-- house.do(deed), a deed that is done -/
theorem st_do {i : Nat} {d : Dd} {b : Option PapM} {Q : Hp → Prop} (hv : σ[i]? = some (some (.ref c.a))) (ho : Ho K C CH G H c h) (s : Same G H) (g : GoodH n h) (ht : Ev te σ G (Tup.mk d.ths)) (ok : d.ok h) (e : pbM h d = .ok b)
    (k : ∀ l G' H', Gr (MD c) G H G' H' → H l = none → Ho K C CH G' H' ⟨c.a, c.pp, c.sp, l⟩ (doneM h d b) → Q H') : tMo CH "do" (spDo ad K C CH) (WE W) (tVar i) (tCons te tNil) σ H (fun _ H' => Q H') := by
  obtain ⟨dx, ed⟩ := ho.e
  refine ⟨.ref c.a, hv, c.a, dx, _, rfl, ed, rfl, ht H s _ fun v G1 H1 g1 r1 => ⟨c, v, d, h, G1, n, rfl, g1.i, ho.step0 g1, g, r1, ok, ?_⟩⟩
  rw [e]
  intro l G' H' g' nl ho'
  exact k l G' H' ((Gr.toMs g1).trans g' fun a z => .inl (z.elim (fun e => e ▸ ho'.n) fun z => z.elim (fun e => e ▸ ho'.p.1) fun e => e ▸ ho'.s.1)) (up_none g1.same nl) ho'
end
end Pf

namespace Pf
open PySem PySem.Spec PyProof.Rows L2 L2H
/-! ### refusals by their names -/
def kinW : Ek → Str
  | .badPlan => "BadPlan" | .badWay => "BadWay" | .full => "Full" | .badName => "BadName" | .taken => "Taken" | .noPaper => "NoPaper" | .badSlot => "BadSlot" | .badColour => "BadColour" | .badLetter => "BadLetter"
  | .unfolded => "Unfolded" | .folded => "Folded" | .otherRow => "OtherRow" | .badDeed => "BadDeed" | .noPinch => "NoPinch" | _ => ""
def usedK : List Ek := [.badDeed, .badName, .taken, .badPlan, .full, .noPaper, .unfolded, .badWay, .noPinch, .badSlot, .badColour, .badLetter, .folded, .otherRow, .badNumber, .badStep, .noBack]
structure ExsK (K : Fg) (mg : Str → Option Value) (ad : Ek → Addr) (CP : Addr) : Prop where
  x : Exs K mg ad
  e : ∀ k ∈ usedK, k ≠ .otherRow → ExmC K CP (ad k)
  a : ∀ k ∈ usedK, AskC K (ad k)
  p : Ecl K mg "PinchError" CP
  o : mg "OtherRow" = some (.ref (ad .otherRow))
  inj : ∀ j ∈ usedK, ∀ k ∈ usedK, ad j = ad k → j = k
  np : ∀ j ∈ usedK, ad j ≠ CP
  g : ClsG K
  ve : mg "ValueError" = none
theorem ExsK.kit {K : Fg} {mg : Str → Option Value} {ad : Ek → Addr} {CP : Addr} (X : ExsK K mg ad CP) {k j : Ek} (hk : k ∈ usedK) (ho : k ≠ .otherRow) (hj : j ∈ usedK) : PySem.W.kitOne K (.ref (ad k)) (.ref (ad j)) = some (decide (k = j)) := by
  rw [(X.e k hk ho).kit (X.a j hj) (X.np j hj)]
  congr 1
  by_cases e : k = j
  · rw [e, decide_eq_true rfl, decide_eq_true rfl]
  · rw [decide_eq_false e, decide_eq_false (fun z => e (X.inj _ hk _ hj z))]
/-- the exception that is handed on -/
def KnownE (ad : Ek → Addr) (cls : Value) (d : Option Addr) (k : Ek) : Prop := cls = .ref (ad k) ∧ d = none ∧ k ∈ usedK ∧ k ≠ .otherRow
def spKin (ad : Ek → Addr) (a : Addr) (cls : Value) (d : Option Addr) : Sp := fun vs H Q _ => ∃ k G, KnownE ad cls d k ∧ vs = [.ref a] ∧ Same G H ∧ ∀ G' H', Gr M0 G H G' H' → Q (.str (kinW k)) H'
section
variable {σ : L2.St} {G H : Hp} {ta tb : TE} {K : Fg} {mg : Str → Option Value} {ad : Ek → Addr} {CP a : Addr} {cls : Value} {d : Option Addr} {k j : Ek} {D : Ends} {u : TS}
theorem ev_isK (X : ExsK K mg ad CP) (ke : KnownE ad cls d k) {i : Nat} (hv : σ[i]? = some (some (.ref a))) (hj : j ∈ usedK) : Ev (tCB (rIsX K cls d a) (tCons (tVar i) (tCons (tC (.ref (ad j))) tNil))) σ G (decide (k = j)) := fun H i Q q => by
  obtain ⟨rfl, rfl, hk, ho⟩ := ke
  exact ⟨.ref a, hv, ad k, .ref (ad j), .ref (ad j), _, rfl, rfl, (X.e k hk ho).exc X.g, rfl, fun u h => h, X.kit hk ho hj, q _ G H (Gr.refl i) rfl⟩
theorem ev_isVE (X : ExsK K mg ad CP) (ke : KnownE ad cls d k) {i : Nat} (hv : σ[i]? = some (some (.ref a))) : Ev (tCB (rIsX K cls d a) (tCons (tVar i) (tCons (tC (.ty "ValueError")) tNil))) σ G true := fun H i Q q => by
  obtain ⟨rfl, rfl, hk, ho⟩ := ke
  exact ⟨.ref a, hv, ad k, .ty "ValueError", .type "ValueError", _, rfl, rfl, (X.e k hk ho).exc X.g, rfl, fun u h => h, (X.e k hk ho).kitVE, q _ G H (Gr.refl i) rfl⟩
/-- x = xs + ys, a list that may be changed -/
theorem sq_catN {α : Type} [Rep α] {i : Nat} {xs ys : List α} (ha : Ev ta σ G xs) (hb : Ev tb σ G ys) (s : Same G H) (hl : xs.length + ys.length ≤ 100000)
    (k : ∀ p G' H' o, Gr M0 G H G' H' → H' p = none → Ml G' (upd H' p o) p (xs ++ ys) → Same G' (upd H' p o) → u D (σ.set i (some (.ref p))) (upd H' p o)) : tSeq (tAsg (tOp rCat ta tb) (gName i)) u D σ H :=
  ha H s _ fun v G1 H1 g1 r1 => (hb.mono g1.g) H1 g1.i _ fun w G2 H2 g2 r2 => by
    obtain ⟨a1, vs, rfl, e1, p1⟩ := Rep.mono g2.g r1
    obtain ⟨a2, us, rfl, e2, p2⟩ := r2
    refine ⟨a1, a2, vs, us, rfl, rfl, g2.i _ _ e1, g2.i _ _ e2, by rw [paired_len p1, paired_len p2]; exact sl_small hl, fun p np => ?_⟩
    have nG := up_none g2.i np
    exact k p G2 H2 _ (g1.trans g2) np ⟨nG, _, upd_same, paired_app p1 p2⟩ (same_mut g2.i nG)
end
/-- what a deed can be refused by -/
theorem pb_used {h : HM} {d : Dd} {k : Ek} (e : pbM h d = .error k) : k ∈ usedK := by
  have named : ∀ {n k}, namedM h n = .error k → k ∈ usedK := fun {n k} e => by
    unfold namedM at e
    split at e
    · cases e; decide
    · cases e
  have new : ∀ {q k}, newM q = .error k → k ∈ usedK := fun {q k} e => by
    unfold newM at e
    split at e
    · cases e
    · cases e; decide
  cases d with
  | fold n q =>
    have e := map_err (show (addM h n q).map some = .error k from e)
    unfold addM at e
    split at e
    · split at e
      · cases e; decide
      · split at e
        · next e2 => cases e; exact new e2
        · split at e
          · cases e; decide
          · cases e
    · cases e; decide
  | drop n => exact named (map_err (show (namedM h n).map (fun _ => (none : Option PapM)) = .error k from e))
  | act n a =>
    have e : (match namedM h n with | .error e => (.error e : Except Ek (Option PapM)) | .ok p => (actM p a).map some) = .error k := e
    split at e
    · next e2 => cases e; exact named e2
    · next p _ =>
      have e := map_err e
      have top : ∀ {s k}, topM p s = .error k → k ∈ usedK := fun {s k} e => by
        unfold topM at e
        split at e
        · cases e; decide
        · split at e
          · cases e
          · cases e; decide
      have pin : ∀ {w y k}, pinM w p y = .error k → k ∈ usedK := fun {w y k} e => by
        unfold pinM at e
        split at e
        · cases e; decide
        · split at e
          · split at e
            · cases e
            · cases e; decide
          · cases e; decide
      cases a with
      | pinch w => exact pin e
      | unpinch w => exact pin e
      | over =>
        have e : overM p = .error k := e
        unfold overM at e
        split at e
        · cases e; decide
        · cases e
      | about =>
        have e : aboutM p = .error k := e
        unfold aboutM at e
        split at e
        · cases e; decide
        · cases e
      | paint s c =>
        have e : paintM p s c = .error k := e
        unfold paintM at e
        split at e
        · next e2 => cases e; exact top e2
        · split at e
          · cases e
          · cases e; decide
      | mark s x =>
        have e : markM p s x = .error k := e
        unfold markM at e
        split at e
        · next e2 => cases e; exact top e2
        · split at e
          · cases e
          · cases e; decide
      | wash s =>
        have e : washM p s = .error k := e
        unfold washM at e
        split at e
        · next e2 => cases e; exact top e2
        · cases e
      | unfold =>
        have e : unfoldM p = .error k := e
        unfold unfoldM at e
        split at e
        · cases e; decide
        · cases e
      | refold q =>
        have e : refoldM p q = .error k := e
        unfold refoldM at e
        split at e
        · cases e; decide
        · split at e
          · split at e
            · cases e
            · cases e; decide
          · cases e; decide
theorem pb_other {h : HM} {d : Dd} (ok : d.ok h) : pbM h d ≠ .error .otherRow := fun e => by
  have named : ∀ {n}, namedM h n ≠ .error .otherRow := fun {n} e => by
    unfold namedM at e
    split at e <;> cases e
  have new : ∀ {q}, newM q ≠ .error .otherRow := fun {q} e => by
    unfold newM at e
    split at e <;> cases e
  cases d with
  | fold n q =>
    have e := map_err (show (addM h n q).map some = .error .otherRow from e)
    unfold addM at e
    split at e
    · split at e
      · cases e
      · split at e
        · next e2 => cases e; exact new e2
        · split at e <;> cases e
    · cases e
  | drop n => exact named (map_err (show (namedM h n).map (fun _ => (none : Option PapM)) = .error .otherRow from e))
  | act n a =>
    have e : (match namedM h n with | .error e => (.error e : Except Ek (Option PapM)) | .ok p => (actM p a).map some) = .error .otherRow := e
    split at e
    · next e2 => cases e; exact named e2
    · next p hp =>
      have e := map_err e
      have hl : look h.ps n = some p := by
        unfold namedM at hp
        split at hp
        · cases hp
        · next h2 => cases hp; exact h2
      have top : ∀ {s}, topM p s ≠ .error .otherRow := fun {s} e => by
        unfold topM at e
        split at e
        · cases e
        · split at e <;> cases e
      have pin : ∀ {w y}, pinM w p y ≠ .error .otherRow := fun {w y} e => by
        unfold pinM at e
        split at e
        · cases e
        · split at e
          · split at e <;> cases e
          · cases e
      cases a with
      | pinch w => exact pin e
      | unpinch w => exact pin e
      | over =>
        have e : overM p = .error .otherRow := e
        unfold overM at e
        split at e <;> cases e
      | about =>
        have e : aboutM p = .error .otherRow := e
        unfold aboutM at e
        split at e <;> cases e
      | paint s c =>
        have e : paintM p s c = .error .otherRow := e
        unfold paintM at e
        split at e
        · next e2 => cases e; exact top e2
        · split at e <;> cases e
      | mark s x =>
        have e : markM p s x = .error .otherRow := e
        unfold markM at e
        split at e
        · next e2 => cases e; exact top e2
        · split at e <;> cases e
      | wash s =>
        have e : washM p s = .error .otherRow := e
        unfold washM at e
        split at e
        · next e2 => cases e; exact top e2
        · cases e
      | unfold =>
        have e : unfoldM p = .error .otherRow := e
        unfold unfoldM at e
        split at e <;> cases e
      | refold q => exact ok p hl e
/-- a deed done in a try: "" or the name of what refused it -/
def spDoW (ad : Ek → Addr) (K : Fg) (C CH : Addr) : Sp := fun vs H Q _ => ∃ c v d h G n, vs = [.ref (HA.a c), v] ∧ Same G H ∧ Ho K C CH G H c h ∧ GoodH n h ∧ rep G v (Tup.mk (Dd.ths d)) ∧ Dd.ok h d ∧
  match pbM h d with
  | .ok b => ∀ l G' H', Gr (MD c) G H G' H' → H l = none → Ho K C CH G' H' ⟨c.a, c.pp, c.sp, l⟩ (doneM h d b) → Q (.str "") H'
  | .error k => ∀ G' H', Gr M0 G H G' H' → Q (.str (kinW k)) H'
end Pf

namespace Pf
open PySem PySem.Spec PyProof.Rows L2
/-! ### texts in order -/
theorem ltC_irr : ∀ a : List Nat, ltCps a a = false
  | [] => rfl
  | a :: r => by unfold ltCps; rw [ltC_irr r]; simp
theorem ltC_tr : ∀ {a b c : List Nat}, ltCps a b = true → ltCps b c = true → ltCps a c = true
  | [], [], _, h, _ => by cases h
  | [], _ :: _, [], _, h => by cases h
  | [], _ :: _, _ :: _, _, _ => rfl
  | _ :: _, [], _, h, _ => by cases h
  | _ :: _, _ :: _, [], _, h => by cases h
  | x :: a, y :: b, z :: c, h1, h2 => by
    unfold ltCps at h1 h2 ⊢
    simp only [Bool.or_eq_true, decide_eq_true_eq, Bool.and_eq_true, beq_iff_eq] at h1 h2 ⊢
    rcases h1 with h1 | ⟨rfl, h1⟩ <;> rcases h2 with h2 | ⟨rfl, h2⟩
    · exact .inl (by omega)
    · exact .inl h1
    · exact .inl h2
    · exact .inr ⟨rfl, ltC_tr h1 h2⟩
theorem ltC_tot : ∀ {a b : List Nat}, ltCps a b = false → ltCps b a = false → a = b
  | [], [], _, _ => rfl
  | [], _ :: _, h, _ => by cases h
  | _ :: _, [], _, h => by cases h
  | x :: a, y :: b, h1, h2 => by
    unfold ltCps at h1 h2
    simp only [Bool.or_eq_false_iff, decide_eq_false_iff_not, Bool.and_eq_false_imp, beq_iff_eq] at h1 h2
    have e : x = y := by omega
    subst e
    rw [ltC_tot (h1.2 rfl) (h2.2 rfl)]
def leS (a b : Str) : Bool := !ltCps b.cps.toList a.cps.toList
theorem leS_tot (a b : Str) : (leS a b || leS b a) = true := by
  unfold leS
  cases h : ltCps b.cps.toList a.cps.toList with
  | false => rfl
  | true =>
    cases h2 : ltCps a.cps.toList b.cps.toList with
    | false => rfl
    | true => have := ltC_tr h h2; rw [ltC_irr] at this; cases this
theorem leS_tr (a b c : Str) (h1 : leS a b = true) (h2 : leS b c = true) : leS a c = true := by
  unfold leS at *
  simp only [Bool.not_eq_true'] at *
  cases h : ltCps c.cps.toList a.cps.toList with
  | false => rfl
  | true =>
    by_cases e : ltCps b.cps.toList c.cps.toList = true
    · have := ltC_tr e h; rw [h1] at this; cases this
    · have e := Bool.eq_false_iff.mpr e
      have := ltC_tot e h2
      rw [this] at h1; rw [h1] at h; cases h
theorem leS_anti {a b : Str} (h1 : leS a b = true) (h2 : leS b a = true) : a = b := by
  unfold leS at h1 h2
  simp only [Bool.not_eq_true'] at h1 h2
  have e := ltC_tot h1 h2
  cases a; cases b
  exact congrArg _ (Array.toList_inj.mp e.symm)
def sortS (l : List Str) : List Str := l.mergeSort leS
theorem sortS_perm (l : List Str) : (sortS l).Perm l := List.mergeSort_perm l leS
theorem sortS_pw (l : List Str) : (sortS l).Pairwise fun a b => leS a b = true := List.pairwise_mergeSort leS_tr leS_tot l
theorem pw_uniq : ∀ {l m : List Str}, l.Perm m → (l.Pairwise fun a b => leS a b = true) → (m.Pairwise fun a b => leS a b = true) → l = m := fun {l m} p h1 h2 => p.eq_of_pairwise (fun a b _ _ x y => leS_anti x y) h1 h2
theorem risingS_pw : ∀ (p : Str) (l : List Str), risingS p l = true → (p :: l).Pairwise fun a b => leS a b = true
  | p, [], _ => List.pairwise_singleton _ _
  | p, x :: r, h => by
    unfold risingS at h
    obtain ⟨h1, h2⟩ := Bool.and_eq_true_iff.mp h
    have ih := risingS_pw x r h2
    refine List.pairwise_cons.mpr ⟨fun y hy => ?_, ih⟩
    rcases List.mem_cons.mp hy with rfl | hy
    · exact h1
    · exact leS_tr p x y h1 ((List.pairwise_cons.mp ih).1 y hy)
theorem sortS_of {l m : List Str} (p : m.Perm l) (h : sortedS m = true) : m = sortS l := by
  refine pw_uniq (p.trans (sortS_perm l).symm) ?_ (sortS_pw l)
  cases m with
  | nil => exact .nil
  | cons x r => exact risingS_pw x r h
section
variable {σ : L2.St} {G H : Hp} {te ta tb : TE} {K : Fg} {C CH : Addr} {c : HA} {h : HM}
theorem paired_of_strs {G : Hp} : ∀ (xs : List Str), Paired (rep G) (xs.map V.str) xs
  | [] => .nil
  | _ :: xs => .cons rfl (paired_of_strs xs)
/-- sorted(xs), xs a list of texts -/
theorem ev_sortS {xs : List Str} (ha : Ev ta σ G xs) (hl : xs.length < 64) : Ev (tCB (rSortedS K) (tCons ta tNil)) σ G (sortS xs) := fun H i Q q =>
  ha H i _ fun v G1 H1 g1 r1 => by
    obtain ⟨a, vs, rfl, e, pa⟩ := r1
    have ev := paired_strs pa
    subst ev
    refine ⟨a, xs, rfl, .inl (.inl (g1.i _ _ e)), hl, fun ys p hp hs np => ?_⟩
    rw [sortS_of hp hs]
    have gn := gr_new (o := .lst ((sortS xs).map V.str)) g1.i np
    exact q _ _ _ (g1.trans gn) ⟨p, _, rfl, upd_same, paired_of_strs _⟩
abbrev rSortedKs : List V → Hp → VK → Prop := fun xs H Q => ∃ (a : Addr) (kvs : List (Key × V)) (ks : List Str), xs = [.ref a] ∧ Rd H a (.dK kvs) ∧ kvs.map (·.1) = ks.map Sum.inr ∧ ks.length < 64 ∧
    ∀ ys p, ys.Perm ks → sortedS ys = true → H p = none → Q (.ref p) (upd H p (.lst (ys.map V.str)))
theorem keysK_map {κ α : Type} [Rep κ] [PK κ] [DecidableEq κ] [Rep α] {G : Hp} : ∀ {kvs : List (Key × V)} {l : List (κ × α)}, Paired (EnK G) kvs l → kvs.map (·.1) = l.map fun e => PK.ky e.1
  | _, _, .nil => rfl
  | _, _, .cons r t => by rw [List.map_cons, List.map_cons, r.1, keysK_map t]
/-- sorted(self.papers) -/
theorem eh_names {i : Nat} (cl : ClH K CH) (hv : σ[i]? = some (some (.ref c.a))) (ho : Ho K C CH G H c h) (s : Same G H) (hl : h.ps.length < 64) : EvH (tCB rSortedKs (tCons (tFld K (tVar i) "papers") tNil)) σ G H (sortS (h.ps.map (·.1))) := fun Q q => by
  refine fld_h (Q := fun x H1 => rSortedKs [x] H1 Q) hv ho cl.c cl.n1 rfl ?_
  obtain ⟨n1, kvs, e1, e3⟩ := ho.p
  have ek := keysK_map e3
  refine ⟨c.pp, kvs, h.ps.map (·.1), rfl, .inl e1, ?_, by rw [List.length_map]; exact hl, fun ys p hp hs np => ?_⟩
  · rw [ek]; unfold psK; rw [List.map_map, List.map_map]; rfl
  · rw [sortS_of hp hs]
    have gn := gr_new (o := .lst ((sortS (h.ps.map (·.1))).map V.str)) s np
    exact q _ _ _ gn ⟨p, _, rfl, upd_same, paired_of_strs _⟩
end
end Pf

namespace Pf
open PySem PySem.Spec PyProof.Rows L2
/-! ### steps of a road as deeds -/
section
variable {K : Fg} {σ : L2.St} {G H : Hp} {ta tb : TE}
theorem eh_dat {α : Type} [Rep α] [Dat α] {x : α} (h : EvH ta σ G H x) : EvH ta σ G H (dat x) := fun Q q => h Q fun v G' H' g r => q v G' H' g (Dat.rd r)
theorem Ho.up {C CH : Addr} {c : HA} {h : HM} {G' : Hp} (x : Ho K C CH G H c h) (e : Same G G') (n : ∀ q, MH c q → G' q = Option.none) : Ho K C CH G' H c h := by
  obtain ⟨_, kvs, e1, pp⟩ := x.p
  obtain ⟨_, vs, e2, ps⟩ := x.s
  obtain ⟨_, ws, e3, pt⟩ := x.t
  exact ⟨n _ (.inl rfl), x.e, ⟨n _ (.inr (.inl rfl)), kvs, e1, enk_mono e pp⟩, ⟨n _ (.inr (.inr (.inl rfl))), vs, e2, paired_mono e ps⟩, ⟨n _ (.inr (.inr (.inr rfl))), ws, e3, paired_mono e pt⟩, x.d⟩
end
end Pf

namespace Pf
open PySem PySem.Spec PyProof.Rows L2
/-! ### a house with one paper, and the law's own book beside it -/
structure Bk40 (K : Fg) (C CH : Addr) (G H : Hp) (b hu no : Addr) (c : HA) (n m : Nat) (pl : Plan) (h : HM) (p : PapM) (l : T3) (hul : HuL) (nol : NoL) : Prop where
  bg : Bag G H b
  ho : Ho K C CH G H c h
  o : OneP n h pl p l
  mh : Mt G H hu hul
  mn : Mt G H no nol
  ti : Tie p.lv hul nol
  on : OneN nol
  lh : hul.length ≤ m
  ln : nol.length ≤ m
  d1 : b ≠ c.sp
  d2 : b ≠ c.tp
  d3 : hu ≠ no
theorem mt_neH {κ α : Type} [Rep κ] [TK κ] [DecidableEq κ] [Rep α] {K : Fg} {C CH : Addr} {G H : Hp} {d : Addr} {l : List (κ × α)} {c : HA} {h : HM} (md : Mt G H d l) (ho : Ho K C CH G H c h) : ∀ q, MH c q → d ≠ q := by
  obtain ⟨_, kvs, ed, _⟩ := md
  obtain ⟨dx, e⟩ := ho.e
  obtain ⟨_, kv1, e1, _⟩ := ho.p
  obtain ⟨_, vs, e2, _⟩ := ho.s
  obtain ⟨_, ws, e3, _⟩ := ho.t
  rintro q (rfl | rfl | rfl | rfl) z
  · rw [z, e] at ed; cases ed
  · rw [z, e1] at ed; cases ed
  · rw [z, e2] at ed; cases ed
  · rw [z, e3] at ed; cases ed
theorem mt_neB {κ α : Type} [Rep κ] [TK κ] [DecidableEq κ] [Rep α] {G H : Hp} {d b : Addr} {l : List (κ × α)} (md : Mt G H d l) (bg : Bag G H b) : d ≠ b := by
  obtain ⟨_, kvs, ed, _⟩ := md
  obtain ⟨_, _, _, _, _, _, eb, _⟩ := bg
  intro z
  rw [z, eb] at ed; cases ed
theorem bag_neMH {K : Fg} {C CH : Addr} {G H : Hp} {b : Addr} {c : HA} {h : HM} (bg : Bag G H b) (ho : Ho K C CH G H c h) (h1 : b ≠ c.sp) (h2 : b ≠ c.tp) : ∀ q, MH c q → q ≠ b := by
  obtain ⟨_, _, _, _, _, _, eb, _⟩ := bg
  obtain ⟨dx, e⟩ := ho.e
  obtain ⟨_, kvs, e1, _⟩ := ho.p
  rintro q (rfl | rfl | rfl | rfl) z
  · rw [z, eb] at e; cases e
  · rw [z, eb] at e1; cases e1
  · exact h1 z.symm
  · exact h2 z.symm
section
variable {K : Fg} {C CH : Addr} {G H G' H' : Hp} {b hu no : Addr} {c : HA} {n m : Nat} {pl : Plan} {h : HM} {p : PapM} {l : T3} {hul : HuL} {nol : NoL}
theorem Bk40.step0 (x : Bk40 K C CH G H b hu no c n m pl h p l hul nol) (g : Gr M0 G H G' H') : Bk40 K C CH G' H' b hu no c n m pl h p l hul nol :=
  ⟨x.bg.step0 g, x.ho.step0 g, x.o, x.mh.step0 g, x.mn.step0 g, x.ti, x.on, x.lh, x.ln, x.d1, x.d2, x.d3⟩
theorem Bk40.stepB (x : Bk40 K C CH G H b hu no c n m pl h p l hul nol) (g : Gr (Mb b) G H G' H') (bg : Bag G' H' b) : Bk40 K C CH G' H' b hu no c n m pl h p l hul nol :=
  ⟨bg, x.ho.step g (fun q hq z => bag_neMH x.bg x.ho x.d1 x.d2 q hq z), x.o, x.mh.step g (mt_neB x.mh x.bg), x.mn.step g (mt_neB x.mn x.bg), x.ti, x.on, x.lh, x.ln, x.d1, x.d2, x.d3⟩
theorem Bk40.le {m' : Nat} (x : Bk40 K C CH G H b hu no c n m pl h p l hul nol) (hm : m ≤ m') : Bk40 K C CH G H b hu no c n m' pl h p l hul nol :=
  ⟨x.bg, x.ho, x.o, x.mh, x.mn, x.ti, x.on, Nat.le_trans x.lh hm, Nat.le_trans x.ln hm, x.d1, x.d2, x.d3⟩
theorem bag_some {G H : Hp} {b : Addr} (bg : Bag G H b) : H b ≠ none := by
  obtain ⟨_, _, _, _, _, _, eb, _⟩ := bg
  rw [eb]; intro z; cases z
/-- behind a deed that leaves the bag -/
theorem Bk40.did {lq : Addr} {h' : HM} {p' : PapM} {l' : T3} (x : Bk40 K C CH G H b hu no c n m pl h p l hul nol) (g : Gr (MD c) G H G' H') (nl : H lq = none) (ho : Ho K C CH G' H' ⟨c.a, c.pp, c.sp, lq⟩ h') (o : OneP (n + 1) h' pl p' l') :
    Bag G' H' b ∧ Ho K C CH G' H' ⟨c.a, c.pp, c.sp, lq⟩ h' ∧ Mt G' H' hu hul ∧ Mt G' H' no nol ∧ b ≠ lq := by
  have k1 : ∀ {d : Addr}, (∀ q, MH c q → d ≠ q) → ¬ (MD c d) := fun {d} h1 z => z.elim (fun z => h1 _ (.inl rfl) z) fun z => z.elim (fun z => h1 _ (.inr (.inl rfl)) z) fun z => h1 _ (.inr (.inr (.inl rfl))) z
  refine ⟨x.bg.step g (k1 fun q hq z => bag_neMH x.bg x.ho x.d1 x.d2 q hq z.symm), ho, x.mh.step g (k1 (mt_neH x.mh x.ho)), x.mn.step g (k1 (mt_neH x.mn x.ho)), fun z => bag_some x.bg (z ▸ nl)⟩
theorem Bk40.painted {m' : Nat} {lq : Addr} {h' : HM} {p' : PapM} {l' : T3} (x : Bk40 K C CH G H b hu no c n m pl h p l hul nol) (g : Gr (MD c) G H G' H') (nl : H lq = none) (ho : Ho K C CH G' H' ⟨c.a, c.pp, c.sp, lq⟩ h') (o : OneP (n + 1) h' pl p' l')
    {G2 H2 : Hp} {ob : HO} {hul' : HuL} (g2 : Gr M0 G' H' G2 H2) (mh : Mt G2 (upd H2 hu ob) hu hul') (ti : Tie p'.lv hul' nol) (on : OneN nol) (lh : hul'.length ≤ m') (hm : m ≤ m') : Bk40 K C CH G2 (upd H2 hu ob) b hu no ⟨c.a, c.pp, c.sp, lq⟩ (n + 1) m' pl h' p' l' hul' nol := by
  obtain ⟨bg, ho, mh1, mn1, nb⟩ := x.did g nl ho o
  have gM : Gr (fun q => q = hu) G' H' G2 (upd H2 hu ob) := (Gr.toMs g2).mut (.inr rfl) mh.1
  exact ⟨bg.step gM (fun z => mt_neB mh1 bg z.symm), ho.step gM (fun q hq z => mt_neH mh1 ho q hq z.symm), o, mh, mn1.step gM (Ne.symm x.d3), ti, on, lh, Nat.le_trans x.ln hm, x.d1, nb, x.d3⟩
theorem Bk40.marked {m' : Nat} {lq : Addr} {h' : HM} {p' : PapM} {l' : T3} (x : Bk40 K C CH G H b hu no c n m pl h p l hul nol) (g : Gr (MD c) G H G' H') (nl : H lq = none) (ho : Ho K C CH G' H' ⟨c.a, c.pp, c.sp, lq⟩ h') (o : OneP (n + 1) h' pl p' l')
    {G2 H2 : Hp} {ob : HO} {nol' : NoL} (g2 : Gr M0 G' H' G2 H2) (mn : Mt G2 (upd H2 no ob) no nol') (ti : Tie p'.lv hul nol') (on : OneN nol') (ln : nol'.length ≤ m') (hm : m ≤ m') : Bk40 K C CH G2 (upd H2 no ob) b hu no ⟨c.a, c.pp, c.sp, lq⟩ (n + 1) m' pl h' p' l' hul nol' := by
  obtain ⟨bg, ho, mh1, mn1, nb⟩ := x.did g nl ho o
  have gM : Gr (fun q => q = no) G' H' G2 (upd H2 no ob) := (Gr.toMs g2).mut (.inr rfl) mn.1
  exact ⟨bg.step gM (fun z => mt_neB mn1 bg z.symm), ho.step gM (fun q hq z => mt_neH mn1 ho q hq z.symm), o, mh1.step gM x.d3, mn, ti, on, Nat.le_trans x.lh hm, ln, x.d1, nb, x.d3⟩
/-- the law's book taken as still -/
theorem Bk40.frz (x : Bk40 K C CH G H b hu no c n m pl h p l hul nol) (s : Same G H) : ∃ Gz, Same G Gz ∧ Same Gz H ∧ rep Gz (.ref hu) (Dct.mk hul : Dct (Int × Str) Str) ∧ rep Gz (.ref no) (Dct.mk nol : Dct (Tri Int Str Int) Str) ∧ Ho K C CH Gz H c h := by
  obtain ⟨o1, e1, a1, a2, a3⟩ := x.mh.rep s
  have mn' : Mt (upd G hu o1) H no nol := by
    obtain ⟨n1, kvs, e, pr⟩ := x.mn
    exact ⟨(upd_ne (Ne.symm x.d3)).trans n1, kvs, e, enr_mono a1 pr⟩
  obtain ⟨o2, e2, b1, b2, b3⟩ := mn'.rep a2
  refine ⟨_, a1.trans b1, b2, Rep.mono b1 a3, b3, x.ho.up (a1.trans b1) fun q hq => ?_⟩
  have hn : G q = none := by
    rcases hq with rfl | rfl | rfl | rfl
    · exact x.ho.n
    · exact x.ho.p.1
    · exact x.ho.s.1
    · exact x.ho.t.1
  rw [upd_ne (Ne.symm (mt_neH x.mn x.ho q hq)), upd_ne (Ne.symm (mt_neH x.mh x.ho q hq))]
  exact hn
end
/-- what was done with more taken as still, seen from before -/
theorem Gr.down {G Gz H G' H' : Hp} (g : Gr M0 Gz H G' H') (s : Same G Gz) : Gr M0 G H G H' := ⟨Same.refl G, (s.trans g.g).trans g.i, g.h, fun _ _ e => .inl e⟩
section
variable {α β γ : Type} [Rep α] [Rep β] [Rep γ] {σ : L2.St} {G H : Hp} {te ta tb tc : TE} {K : Fg} {D : Ends} {u : TS} {tt tu : TT}
theorem EvTH.cast {b b' : Bool} (h : EvTH tt σ G H b) (e : b = b') : EvTH tt σ G H b' := e ▸ h
theorem eth_B {b : Bool} (h : EvH te σ G H b) : EvTH (tB te) σ G H b := fun Q q => h _ fun v G' H' g k => ⟨b, k, q G' H' g⟩
theorem eth_not {b : Bool} (h : EvTH tt σ G H b) : EvTH (tNot tt) σ G H (!b) := fun Q q => h _ fun G' H' g => q G' H' g
theorem eh_call2a {pre : α → β → Prop} {f : α → β → γ} {x : α} {y : β} (ha : EvH ta σ G H x) (hb : Ev tb σ G y) (hp : pre x y) : EvH (tCall (sp2 pre f) [] E0 (tCons ta (tCons tb tNil))) σ G H (f x y) := eh_call2 ha hb hp
end
section
variable {σ : L2.St} {G H : Hp} {tt : TT} {D : Ends} {ts u : TS}
end
end Pf

namespace Pf
open PySem PySem.Spec PyProof.Rows L2
/-! ### a bag, a house and a list beside one another -/
structure Bhl {α : Type} [Rep α] (K : Fg) (C CH : Addr) (G H : Hp) (b nl : Addr) (c : HA) (h : HM) (xs : List α) : Prop where
  bg : Bag G H b
  ho : Ho K C CH G H c h
  ml : Ml G H nl xs
  d1 : b ≠ c.sp
  d2 : b ≠ c.tp
  d3 : nl ≠ b
  d4 : nl ≠ c.sp
  d5 : nl ≠ c.tp
section
variable {α : Type} [Rep α] {K : Fg} {C CH : Addr} {G H G' H' : Hp} {b nl : Addr} {c : HA} {h : HM} {xs : List α}
theorem ml_neMH {β : Type} [Rep β] {p : Addr} {ys : List β} (m : Ml G H p ys) (ho : Ho K C CH G H c h) (h1 : p ≠ c.sp) (h2 : p ≠ c.tp) : ∀ q, MH c q → q ≠ p := by
  obtain ⟨_, vs, e, _⟩ := m
  obtain ⟨dx, ea⟩ := ho.e
  obtain ⟨_, kvs, e1, _⟩ := ho.p
  rintro q (rfl | rfl | rfl | rfl) z
  · rw [z, e] at ea; cases ea
  · rw [z, e] at e1; cases e1
  · exact h1 z.symm
  · exact h2 z.symm
theorem Bhl.step0 (x : Bhl K C CH G H b nl c h xs) (g : Gr M0 G H G' H') : Bhl K C CH G' H' b nl c h xs := ⟨x.bg.step0 g, x.ho.step0 g, x.ml.step0 g, x.d1, x.d2, x.d3, x.d4, x.d5⟩
theorem Bhl.stepB (x : Bhl K C CH G H b nl c h xs) (g : Gr (Mb b) G H G' H') (bg : Bag G' H' b) : Bhl K C CH G' H' b nl c h xs :=
  ⟨bg, x.ho.step g (fun q hq z => bag_neMH x.bg x.ho x.d1 x.d2 q hq z), x.ml.step g x.d3, x.d1, x.d2, x.d3, x.d4, x.d5⟩
theorem ml_some {β : Type} [Rep β] {p : Addr} {ys : List β} (m : Ml G H p ys) : H p ≠ none := by
  obtain ⟨_, vs, e, _⟩ := m
  rw [e]; intro z; cases z
theorem Bhl.did {lq : Addr} {h' : HM} (x : Bhl K C CH G H b nl c h xs) (g : Gr (MD c) G H G' H') (n : H lq = none) (ho : Ho K C CH G' H' ⟨c.a, c.pp, c.sp, lq⟩ h') : Bhl K C CH G' H' b nl ⟨c.a, c.pp, c.sp, lq⟩ h' xs := by
  have k1 : ∀ {d : Addr}, (∀ q, MH c q → q ≠ d) → ¬ (MD c d) := fun {d} h1 z => z.elim (fun z => h1 _ (.inl rfl) z.symm) fun z => z.elim (fun z => h1 _ (.inr (.inl rfl)) z.symm) fun z => h1 _ (.inr (.inr (.inl rfl))) z.symm
  exact ⟨x.bg.step g (k1 (bag_neMH x.bg x.ho x.d1 x.d2)), ho, x.ml.step g (k1 (ml_neMH x.ml x.ho x.d4 x.d5)), x.d1, fun z => bag_some x.bg (z ▸ n), x.d3, x.d4, fun z => ml_some x.ml (z ▸ n)⟩
theorem Bhl.put {ob : HO} {ys : List α} (x : Bhl K C CH G H b nl c h xs) (g : Gr M0 G H G' H') (m : Ml G' (upd H' nl ob) nl ys) : Bhl K C CH G' (upd H' nl ob) b nl c h ys := by
  have gM : Gr (fun q => q = nl) G H G' (upd H' nl ob) := (Gr.toMs g).mut (.inr rfl) m.1
  exact ⟨x.bg.step gM (Ne.symm x.d3), x.ho.step gM (fun q hq z => ml_neMH x.ml x.ho x.d4 x.d5 q hq z), m, x.d1, x.d2, x.d3, x.d4, x.d5⟩
end
/-! ### lists that are changed in place -/
section
variable {α : Type} [Rep α] {σ : L2.St} {G H : Hp} {te ta tb ti : TE} {K : Fg} {D : Ends} {u : TS}
theorem paired_set {α β : Type} {R : α → β → Prop} : ∀ {vs : List α} {xs : List β} (n : Nat) {v : α} {x : β}, Paired R vs xs → R v x → Paired R (vs.set n v) (xs.set n x)
  | _, _, _, _, _, .nil, _ => .nil
  | _, _, 0, _, _, .cons _ t, r => .cons r t
  | _, _, n + 1, _, _, .cons h t, r => .cons h (paired_set n t r)
/-- x = xs * n, a list that may be changed -/
theorem sq_repN {i : Nat} {xs : List α} {n : Int} (ha : Ev ta σ G xs) (hb : Ev tb σ G n) (s : Same G H) (h0 : 0 ≤ n) (hm : n < 2 ^ 63) (hl : xs.length * n.toNat ≤ 100000)
    (k : ∀ p G' H' o, Gr M0 G H G' H' → H' p = none → Ml G' (upd H' p o) p (List.replicate n.toNat xs).flatten → Same G' (upd H' p o) → u D (σ.set i (some (.ref p))) (upd H' p o)) : tSeq (tAsg (tOp rRep ta tb) (gName i)) u D σ H := by
  refine ha H s _ fun v G1 H1 g1 r1 => (hb.mono g1.g) H1 g1.i _ fun w G2 H2 g2 r2 => ?_
  obtain ⟨a, vs, rfl, h2, h3⟩ := Rep.mono g2.g r1
  cases r2
  have pf : ∀ m : Nat, Paired (rep G2) (List.replicate m vs).flatten (List.replicate m xs).flatten := fun m => by
    induction m with
    | zero => exact .nil
    | succ m ih => rw [List.replicate_succ, List.replicate_succ, List.flatten_cons, List.flatten_cons]; exact paired_app h3 ih
  exact ⟨a, n, vs, rfl, rfl, g2.i _ _ h2, by omega, hm, by rw [paired_len h3]; exact sl_small hl, fun p np => k p G2 H2 _ (g1.trans g2) np ⟨up_none g2.i np, _, upd_same, pf n.toNat⟩ (same_mut g2.i (up_none g2.i np))⟩
/-- xs[n] = x -/
theorem sq_putI {i : Nat} {p : Addr} {xs : List α} {x : α} {n : Int} (hv : σ[i]? = some (some (.ref p))) (m : Ml G H p xs) (hx : Ev te σ G x) (hi : Ev ti σ G n) (s : Same G H) (h0 : 0 ≤ n) (hn : n < xs.length)
    (k : ∀ G' H' o, Gr M0 G H G' H' → Ml G' (upd H' p o) p (xs.set n.toNat x) → Same G' (upd H' p o) → u D σ (upd H' p o)) : tSeq (tAsg te (gSub (tVar i) ti rSetL)) u D σ H :=
  hx H s _ fun v G1 H1 g1 r1 => ⟨.ref p, hv, (hi.mono g1.g) H1 g1.i _ fun w G2 H2 g2 r2 => by
    cases r2
    have m2 := (m.step0 g1).step0 g2
    obtain ⟨n2, vs, e, pa⟩ := m2
    have hl := paired_len pa
    refine ⟨p, vs, n, n.toNat, rfl, rfl, e, ?_, k G2 H2 _ (g1.trans g2) ⟨n2, _, upd_same, paired_set n.toNat pa (Rep.mono g2.g r1)⟩ (same_mut g2.i n2)⟩
    unfold ixN
    rw [if_pos h0, if_pos (by omega)]⟩
end
/-! ### the six leaves that are seen are six -/
theorem heads_nodup : ∀ {l : List (List Int)}, l.flatten.Nodup → (∀ h ∈ l, 0 < h.length) → (l.map fun h => ix h 0).Nodup
  | [], _, _ => .nil
  | h :: l, nd, ne => by
    rw [List.flatten_cons, List.nodup_append] at nd
    obtain ⟨_, n2, n3⟩ := nd
    have head : ∀ {x : List Int}, 0 < x.length → ix x 0 ∈ x := fun {x} hx => by
      unfold ix
      rw [List.getElem?_eq_getElem (show (0 : Int).toNat < x.length from hx)]
      exact List.getElem_mem _
    rw [List.map_cons, List.nodup_cons]
    refine ⟨fun z => ?_, heads_nodup n2 fun x hx => ne x (List.mem_cons_of_mem _ hx)⟩
    obtain ⟨x, hx, e⟩ := List.mem_map.mp z
    have m1 := head (ne h List.mem_cons_self)
    have m2 := head (ne x (List.mem_cons_of_mem _ hx))
    exact n3 _ m1 _ (List.mem_flatten.mpr ⟨x, hx, m2⟩) e.symm
theorem ring_a (p : Plan) (l : T3) : (ringM p l).map (fun t => t.a) = (heapsM p l).map fun h => ix h 0 := by
  unfold ringM
  rw [List.map_map]
  have : (fun t : Tri Int Str Int => t.a) ∘ (fun e : Int × Int => if decide (e.1 % 2 = 0) = true then Tri.mk e.2 ("fore" : Str) (middlesM p (l.a, l.b)).1 else Tri.mk e.2 ("back" : Str) (middlesM p (l.a, l.b)).2) = fun e => e.2 := by
    funext e
    show (if decide (e.1 % 2 = 0) = true then _ else _ : Tri Int Str Int).a = e.2
    split <;> rfl
  rw [this]
  rfl
theorem colours_ok {p : Plan} {l : T3} (nd : ((ringM p l).map fun t => t.a).Nodup) {s : Int} (h0 : 0 ≤ s) (h5 : s < 6) (x y : Str) :
    (ringM p l).map (fun r => (onLeafM (put [] ((ix (ringM p l) s).a, (ix (ringM p l) s).b) (x, y)) (r.a, r.b)).1) = (List.replicate 6 ("" : Str)).set s.toNat x := by
  have hl := ring_len p l
  have hs : s.toNat < (ringM p l).length := by omega
  have es : ix (ringM p l) s = (ringM p l)[s.toNat] := by unfold ix; rw [List.getElem?_eq_getElem hs]; rfl
  rw [es]
  refine List.ext_getElem (by simp [hl]) fun k h1 h2 => ?_
  rw [List.length_map] at h1
  rw [List.getElem_map, onLeaf_put, List.getElem_set]
  by_cases e : s.toNat = k
  · subst e
    rw [if_pos rfl, if_pos rfl]
  · have ne : ¬ (((ringM p l)[k].a, (ringM p l)[k].b) = ((ringM p l)[s.toNat].a, (ringM p l)[s.toNat].b)) := fun z => by
      have z1 := (Prod.mk.inj z).1
      have := (List.getElem_inj (xs := (ringM p l).map fun t => t.a) (h₀ := by rw [List.length_map]; exact h1) (h₁ := by rw [List.length_map]; exact hs) nd).mp (by rw [List.getElem_map, List.getElem_map]; exact z1)
      omega
    rw [if_neg ne, if_neg e, List.getElem_replicate]
    rfl
end Pf

namespace Pf
open PySem PySem.Spec PyProof.Rows L2
theorem cr_sortedSK {X : Cx} {K : Fg} (h : X.K = K) : CallR X (.builtin "sorted") (rSortedS K) := h ▸ cr_sortedS
/-! ### houses of more papers -/
theorem fold_ok {h : HM} {x : Str} {q : Plan} (hx : nameB x = true) (nl : look h.ps x = none) (hp : isPlanM q = true) (h12 : h.ps.length < 12) : pbM h (.fold x q) = .ok (some ⟨rowM q, some (q, ⟨0, 1, 0⟩), []⟩) := by
  show (addM h x q).map some = _
  unfold addM newM
  rw [if_pos hx, nl, if_neg (by decide), if_pos hp]
  show (if 12 ≤ h.ps.length then (.error .full : Except Ek PapM) else .ok _).map some = _
  rw [if_neg (by omega)]
  rfl
theorem fold_full {h : HM} {x : Str} {q : Plan} (hx : nameB x = true) (nl : look h.ps x = none) (hp : isPlanM q = true) (h12 : 12 ≤ h.ps.length) : pbM h (.fold x q) = .error .full := by
  show (addM h x q).map some = _
  unfold addM newM
  rw [if_pos hx, nl, if_neg (by decide), if_pos hp]
  show (if 12 ≤ h.ps.length then (.error .full : Except Ek PapM) else .ok _).map some = _
  rw [if_pos h12]
  rfl
theorem fold_taken {h : HM} {x : Str} {q : Plan} {p : PapM} (hx : nameB x = true) (hl : look h.ps x = some p) : pbM h (.fold x q) = .error .taken := by
  show (addM h x q).map some = _
  unfold addM
  rw [if_pos hx, hl, if_pos (by rfl)]
  rfl
theorem fold_name {h : HM} {x : Str} {q : Plan} (hx : nameB x = false) : pbM h (.fold x q) = .error .badName := by
  show (addM h x q).map some = _
  unfold addM
  rw [if_neg (by rw [hx]; decide)]
  rfl
theorem fold_plan {h : HM} {x : Str} {q : Plan} (hx : nameB x = true) (nl : look h.ps x = none) (hp : isPlanM q = false) : pbM h (.fold x q) = .error .badPlan := by
  show (addM h x q).map some = _
  unfold addM newM
  rw [if_pos hx, nl, if_neg (by decide), if_neg (by rw [hp]; decide)]
  rfl
theorem drop_ok {h : HM} {x : Str} {p : PapM} (hl : look h.ps x = some p) : pbM h (.drop x) = .ok none := by
  show (namedM h x).map _ = _
  unfold namedM
  rw [hl]
  rfl
theorem act_ok {h : HM} {x : Str} {p q : PapM} {a : Ac} (hl : look h.ps x = some p) (e : actM p a = .ok q) : pbM h (.act x a) = .ok (some q) := by
  show (match namedM h x with | .error e => (.error e : Except Ek (Option PapM)) | .ok p => (actM p a).map some) = _
  unfold namedM
  rw [hl]
  show (actM p a).map some = _
  rw [e]
  rfl
theorem paint_ok {p : PapM} {pl : Plan} {l : T3} (hf : p.fold = some (pl, l)) {i : Int} (h0 : 0 ≤ i) (h5 : i < 6) {x : Str} (hx : x ∈ coloursL) : actM p (.paint i x) = .ok (withM p ((ix (ringM pl l) i).a, (ix (ringM pl l) i).b) (x, (onLeafM p.lv ((ix (ringM pl l) i).a, (ix (ringM pl l) i).b)).2)) := by
  show paintM p i x = _
  unfold paintM topM
  rw [hf]
  show (match (if 0 ≤ i ∧ i ≤ 5 then (.ok (ix (ringM pl l) i) : Except Ek (Tri Int Str Int)) else .error .badSlot) with | .error e => (.error e : Except Ek PapM) | .ok t => if x ∈ coloursL then .ok (withM p (t.a, t.b) (x, (onLeafM p.lv (t.a, t.b)).2)) else .error .badColour) = _
  rw [if_pos ⟨h0, by omega⟩]
  exact if_pos hx
theorem unfold_ok {p : PapM} {f : Plan × T3} (hf : p.fold = some f) : actM p .unfold = .ok { p with fold := none } := by
  show unfoldM p = _
  unfold unfoldM
  rw [hf]
theorem colours_data : ∀ a < 6, ∀ b < 3, SeqAt.shaped (dat ((List.replicate 6 ("" : Str)).set a (((["red", "blue", "gold"] : List Str)[b]?).getD ""))) = true ∧ PyData.eqv (dat ((List.replicate 6 ("" : Str)).set a (((["red", "blue", "gold"] : List Str)[b]?).getD ""))) (dat ((List.replicate 6 ("" : Str)).set a (((["red", "blue", "gold"] : List Str)[b]?).getD ""))) = true := by decide +kernel
theorem ring_nodup {p : Plan} (h : isPlanM p = true) {l : T3} (j : Jn p l.a l.b) (ne : ∀ x ∈ heapsM p l, 0 < x.length) : ((ringM p l).map fun t => t.a).Nodup := by
  rw [ring_a]
  exact heads_nodup ((heaps_perm h j).nodup_iff.mp (rng_nodup _ _)) ne
/-- the paper is folded, and its one colour is in its slot -/
def Shown (h : HM) (k : Nat) (x : Str) : Prop := ∃ p q l, look h.ps x = some p ∧ p.fold = some (q, l) ∧ (ringM q l).map (fun r => (onLeafM p.lv (r.a, r.b)).1) = (List.replicate 6 ("" : Str)).set (k % 6) (((["red", "blue", "gold"] : List Str)[k % 3]?).getD "")
theorem done_keys {h : HM} {d : Dd} {b : PapM} : (doneM h d (some b)).ps.map (·.1) = if d.name ∈ h.ps.map (·.1) then h.ps.map (·.1) else h.ps.map (·.1) ++ [d.name] := put_keys _ _ _
theorem done_look {h : HM} {d : Dd} {b : PapM} (y : Str) : look (doneM h d (some b)).ps y = if y = d.name then some b else look h.ps y := look_put _ _ _ _
theorem done_drop {h : HM} {x : Str} : (doneM h (.drop x) none).ps.map (·.1) = (h.ps.map (·.1)).filter fun y => decide (y ≠ x) := by
  show (dropP h.ps x).map (·.1) = _
  unfold dropP
  rw [List.filter_map]
  rfl
theorem look_not {h : HM} {x : Str} (n : x ∉ h.ps.map (·.1)) : look h.ps x = none := by
  cases e : look h.ps x with
  | none => rfl
  | some p => exact absurd (look_mem.mp (by rw [e]; rfl)) n
theorem look_in {h : HM} {x : Str} (n : x ∈ h.ps.map (·.1)) : ∃ p, look h.ps x = some p := Option.isSome_iff_exists.mp (look_mem.mpr n)
/-! ### twelve names -/
def nameOf (j : Nat) (e : Nat) : Str := (⟨#[97 + j + 3 * e]⟩ : Str) ++ cutS "xyz" none (some ((j % 4 : Nat) : Int))
theorem name_ok : ∀ j < 12, ∀ e < 2, nameB (nameOf j e) = true ∧ nameOf j e ≠ "zebra" ∧ (nameOf j e).length ≤ 90000 := by decide +kernel
theorem name_inj : ∀ j < 12, ∀ e < 2, ∀ j' < 12, ∀ e' < 2, nameOf j e = nameOf j' e' → j = j' := by decide +kernel
theorem name_at : ∀ k : Nat, k < 12 → ∀ e : Nat, e < 2 → atI ("abcdefghijklmnopqrst" : Str).cps.toList (0 + (k : Int) + (e : Int) * 3) = some (97 + k + 3 * e) := by decide +kernel
theorem cut_short (k : Nat) : (⟨#[97]⟩ : Str).length + (cutS "xyz" none (some ((k % 4 : Nat) : Int))).length ≤ 100000 := by
  have : k % 4 = 0 ∨ k % 4 = 1 ∨ k % 4 = 2 ∨ k % 4 = 3 := by omega
  rcases this with e | e | e | e <;> rw [e] <;> decide +kernel
/-- the names of the first papers -/
def NamesOk (xs : List Str) : Prop := ∀ j x, xs[j]? = some x → ∃ e, e < 2 ∧ x = nameOf j e
theorem names_in {xs : List Str} (h : NamesOk xs) {x : Str} (hx : x ∈ xs) : ∃ j e, xs[j]? = some x ∧ j < xs.length ∧ e < 2 ∧ x = nameOf j e := by
  obtain ⟨j, hj⟩ := List.mem_iff_getElem?.mp hx
  obtain ⟨e, he, rfl⟩ := h j x hj
  exact ⟨j, e, hj, (List.getElem?_eq_some_iff.mp hj).1, he, rfl⟩
theorem names_snoc {xs : List Str} (h : NamesOk xs) {e : Nat} (he : e < 2) : NamesOk (xs ++ [nameOf xs.length e]) := fun j x hj => by
  by_cases hl : j < xs.length
  · rw [List.getElem?_append_left hl] at hj
    exact h j x hj
  · rw [List.getElem?_append_right (by omega)] at hj
    obtain ⟨h1, h2⟩ := List.getElem?_eq_some_iff.mp hj
    have : j - xs.length = 0 := by simpa using h1
    have ej : j = xs.length := by omega
    subst ej
    simp at h2
    exact ⟨e, he, h2.symm⟩
theorem names_new {xs : List Str} (h : NamesOk xs) (hl : xs.length < 12) {e : Nat} (he : e < 2) : nameOf xs.length e ∉ xs := fun hx => by
  obtain ⟨j, e', hj, hjl, he', eq⟩ := names_in h hx
  have := name_inj xs.length hl e he j (by omega) e' he' eq
  omega
theorem names_zebra {xs : List Str} (h : NamesOk xs) (hl : xs.length ≤ 12) : ("zebra" : Str) ∉ xs := fun hx => by
  obtain ⟨j, e', hj, hjl, he', eq⟩ := names_in h hx
  exact (name_ok j (by omega) e' he').2.1 eq.symm
theorem col_of (k : Nat) : ((["red", "blue", "gold"] : List Str)[k % 3]?).getD "" ∈ coloursL := by
  have : k % 3 = 0 ∨ k % 3 = 1 ∨ k % 3 = 2 := by omega
  rcases this with e | e | e <;> rw [e] <;> decide +kernel
/-- one more paper folded and painted -/
theorem twelve_step {n : Nat} {h : HM} {xs : List Str} {q : Plan} (g : GoodH n h) (hn : n + 2 ≤ 80000) (ks : h.ps.map (·.1) = xs) (ok : NamesOk xs) (hl : xs.length < 12) (sh : ∀ j x, xs[j]? = some x → Shown h j x) (hp : isPlanM q = true)
    (ne : ∀ x ∈ heapsM q ⟨0, 1, 0⟩, 0 < x.length) {e : Nat} (he : e < 2) :
    ∃ p1, let x := nameOf xs.length e; let h1 := doneM h (.fold x q) (some ⟨rowM q, some (q, ⟨0, 1, 0⟩), []⟩); let a := Ac.paint ((xs.length : Int) % 6) (((["red", "blue", "gold"] : List Str)[xs.length % 3]?).getD ""); let h2 := doneM h1 (.act x a) (some p1)
      pbM h (.fold x q) = .ok (some ⟨rowM q, some (q, ⟨0, 1, 0⟩), []⟩) ∧ GoodH (n + 1) h1 ∧ pbM h1 (.act x a) = .ok (some p1) ∧ GoodH (n + 2) h2 ∧ h2.ps.map (·.1) = xs ++ [x] ∧ NamesOk (xs ++ [x]) ∧ ∀ j y, (xs ++ [x])[j]? = some y → Shown h2 j y := by
  have nx := names_new ok hl he
  have nx' : nameOf xs.length e ∉ h.ps.map (·.1) := by rw [ks]; exact nx
  have nl := look_not nx'
  have hlen : h.ps.length = xs.length := by rw [← ks, List.length_map]
  have e1 := fold_ok (name_ok _ hl e he).1 nl hp (by omega : h.ps.length < 12)
  have g1 := putO_good g (by omega) e1
  have l1 : look (doneM h (.fold (nameOf xs.length e) q) (some ⟨rowM q, some (q, ⟨0, 1, 0⟩), []⟩)).ps (nameOf xs.length e) = some ⟨rowM q, some (q, ⟨0, 1, 0⟩), []⟩ := by rw [done_look]; exact if_pos rfl
  have h60 : (0 : Int) ≤ (xs.length : Int) % 6 := by omega
  have h66 : (xs.length : Int) % 6 < 6 := by omega
  have a1 := paint_ok (p := ⟨rowM q, some (q, ⟨0, 1, 0⟩), []⟩) rfl h60 h66 (col_of xs.length)
  have e2 := act_ok l1 a1
  have g2 := putO_good g1 (by omega) e2
  have k1 : (doneM h (.fold (nameOf xs.length e) q) (some ⟨rowM q, some (q, ⟨0, 1, 0⟩), []⟩)).ps.map (·.1) = xs ++ [nameOf xs.length e] := by
    exact done_keys.trans ((if_neg nx').trans (by rw [ks]; rfl))
  refine ⟨_, e1, g1, e2, g2, ?_, names_snoc ok he, fun j y hj => ?_⟩
  · rw [done_keys, if_pos (by rw [k1]; exact List.mem_append_right _ List.mem_cons_self), k1]
  · unfold Shown
    rw [done_look, done_look]
    show ∃ p q l, (if y = nameOf xs.length e then _ else if y = nameOf xs.length e then _ else _) = some p ∧ _
    by_cases hy : y = nameOf xs.length e
    · rw [if_pos hy]
      have hj2 : j = xs.length := by
        by_cases hl2 : j < xs.length
        · rw [List.getElem?_append_left hl2] at hj
          exact absurd (hy ▸ List.mem_of_getElem? hj) nx
        · rw [List.getElem?_append_right (by omega)] at hj
          have h1 := (List.getElem?_eq_some_iff.mp hj).1
          have : j - xs.length = 0 := by simpa using h1
          omega
      subst hj2
      have j01 : Jn q 0 1 := jn_side hp (show (0 : Int) ≤ 0 by decide) (by have := (plan_facts hp).1; omega) rfl
      refine ⟨_, q, ⟨0, 1, 0⟩, rfl, rfl, ?_⟩
      have := colours_ok (p := q) (l := ⟨0, 1, 0⟩) (ring_nodup hp j01 ne) h60 h66 (((["red", "blue", "gold"] : List Str)[xs.length % 3]?).getD "") (onLeafM [] ((ix (ringM q ⟨0, 1, 0⟩) ((xs.length : Int) % 6)).a, (ix (ringM q ⟨0, 1, 0⟩) ((xs.length : Int) % 6)).b)).2
      rw [show ((xs.length : Int) % 6).toNat = xs.length % 6 by omega] at this
      exact this
    · rw [if_neg hy, if_neg hy]
      have hl2 : j < xs.length := by
        by_cases hl2 : j < xs.length
        · exact hl2
        · rw [List.getElem?_append_right (by omega)] at hj
          obtain ⟨h1, h2⟩ := List.getElem?_eq_some_iff.mp hj
          simp at h2
          exact absurd h2.symm hy
      rw [List.getElem?_append_left hl2] at hj
      exact sh j y hj
theorem filter_erase {xs : List Str} (nd : xs.Nodup) {i : Nat} {x : Str} (hx : xs[i]? = some x) : xs.filter (fun y => decide (y ≠ x)) = xs.eraseIdx i := by
  induction xs generalizing i with
  | nil => rfl
  | cons a l ih =>
    rw [List.nodup_cons] at nd
    cases i with
    | zero =>
      rw [List.getElem?_cons_zero] at hx
      cases hx
      rw [List.filter_cons_of_neg (by simp), List.eraseIdx_cons_zero]
      exact List.filter_eq_self.mpr fun y hy => by simp; exact fun z => nd.1 (z ▸ hy)
    | succ i =>
      rw [List.getElem?_cons_succ] at hx
      rw [List.filter_cons_of_pos (by simp; exact fun z => nd.1 (z ▸ List.mem_of_getElem? hx)), List.eraseIdx_cons_succ, ih nd.2 hx]
theorem twelve_nodup {h : HM} {n : Nat} {xs : List Str} (g : GoodH n h) (ks : h.ps.map (·.1) = xs) : xs.Nodup := ks ▸ g.nd
/-- what _law_names gives back: the names rising -/
def spNames (K : Fg) (C CH : Addr) : Sp := fun vs H Q _ => ∃ c h G n, vs = [.ref (HA.a c)] ∧ Same G H ∧ Ho K C CH G H c h ∧ GoodH n h ∧ ∀ v G' H', Gr M0 G H G' H' → rep G' v (sortS (h.ps.map (·.1))) → Q v H'
/-- the colours of the papers: all stand -/
def spStand (K : Fg) (C CH : Addr) : Sp := fun vs H Q _ => ∃ c h G n nv xs, vs = [.ref (HA.a c), nv] ∧ Same G H ∧ Ho K C CH G H c h ∧ GoodH n h ∧ rep G nv (xs : List Str) ∧ xs.length ≤ 12 ∧ (∀ j x, xs[j]? = some x → Shown h j x) ∧ ∀ G' H', Gr M0 G H G' H' → Q (.bl true) H'
section
variable {σ : L2.St} {G H : Hp} {te ta tb : TE} {u : TS} {D : Ends} {ad : Ek → Addr} {W : WX} {K : Fg} {C CH b nl : Addr} {c : HA} {h : HM} {n : Nat} {E : XK}
/-- house.seen(x) -/
theorem eh_seenN {i : Nat} {x : Str} {p : PapM} {f : Plan × T3} (hv : σ[i]? = some (some (.ref c.a))) (ho : Ho K C CH G H c h) (s : Same G H) (g : GoodH n h) (ht : Ev te σ G x) (hl : look h.ps x = some p) (hf : p.fold = some f) : EvH (tMo CH "seen" (spH1 ad K C CH (fun h n => bindE (namedM h n) seenM)) (WE W) (tVar i) (tCons te tNil)) σ G H ((ringM f.1 f.2).map (sightM p)) := fun Q q => by
  refine erh_m1 (ad := ad) (W := W) (f := fun h n => bindE (namedM h n) seenM) hv ho s g ht rfl Q ?_
  show Out ad G H Q (WE W σ) (bindE (namedM h x) _)
  have : namedM h x = .ok p := by unfold namedM; rw [hl]
  rw [this]
  show Out ad G H Q (WE W σ) (seenM p)
  unfold seenM
  rw [hf]
  exact q
/-- house.names() -/
theorem eh_cnames {i : Nat} (hv : σ[i]? = some (some (.ref c.a))) (ho : Ho K C CH G H c h) (s : Same G H) (g : GoodH n h) : EvH (tMo CH "names" (spNames K C CH) (WE W) (tVar i) tNil) σ G H (sortS (h.ps.map (·.1))) := fun Q q => by
  obtain ⟨dx, ed⟩ := ho.e
  exact ⟨.ref c.a, hv, c.a, dx, _, rfl, ed, rfl, c, h, G, n, rfl, s, ho, g, q⟩
/-- _law_do(house, deed), a deed that is done -/
theorem rdw_ok {i : Nat} {d : Dd} {b : Option PapM} {Q : VK} (hv : σ[i]? = some (some (.ref c.a))) (ho : Ho K C CH G H c h) (s : Same G H) (g : GoodH n h) (ht : Ev te σ G (Tup.mk d.ths)) (ok : d.ok h) (e : pbM h d = .ok b)
    (k : ∀ l G' H', Gr (MD c) G H G' H' → H l = none → Ho K C CH G' H' ⟨c.a, c.pp, c.sp, l⟩ (doneM h d b) → Q (.str "") H') : tCall (spDoW ad K C CH) [] E (tCons (tVar i) (tCons te tNil)) σ H Q := by
  refine ⟨.ref c.a, hv, ht H s _ fun v G1 H1 g1 r1 => ⟨c, v, d, h, G1, n, rfl, g1.i, ho.step0 g1, g, r1, ok, ?_⟩⟩
  rw [e]
  intro l G' H' g' nl ho'
  exact k l G' H' ((Gr.toMs g1).trans g' fun a z => .inl (z.elim (fun e => e ▸ ho'.n) fun z => z.elim (fun e => e ▸ ho'.p.1) fun e => e ▸ ho'.s.1)) (up_none g1.same nl) ho'
/-- _law_do(house, deed), a deed that is refused -/
theorem eh_dow {i : Nat} {d : Dd} {x : Ek} (hv : σ[i]? = some (some (.ref c.a))) (ho : Ho K C CH G H c h) (s : Same G H) (g : GoodH n h) (ht : Ev te σ G (Tup.mk d.ths)) (ok : d.ok h) (e : pbM h d = .error x) : EvH (tCall (spDoW ad K C CH) [] E (tCons (tVar i) (tCons te tNil))) σ G H (kinW x) := fun Q q => by
  refine ⟨.ref c.a, hv, ht H s _ fun v G1 H1 g1 r1 => ⟨c, v, d, h, G1, n, rfl, g1.i, ho.step0 g1, g, r1, ok, ?_⟩⟩
  rw [e]
  intro G' H' g'
  exact q _ G' H' (g1.trans g') rfl
/-- a comprehension over what a method gives back -/
theorem eh_lc {α β : Type} [Rep α] [Rep β] {g : TG} {wi : TI} {vs : List Nat} {xs : List α} {f : α → β} (hx : EvIH wi σ G H xs) (hl : xs.length ≤ 100000)
    (hb : ∀ x ∈ xs, ∀ v G1, Same G G1 → rep G1 v x → GB g v (wipe σ vs) G1 fun σ2 => wipe σ2 vs = wipe σ vs ∧ Ev te σ2 G1 (f x)) : EvH (tLc wi g tYes te vs) σ G H (xs.map f) := fun Q q =>
  hx _ fun J G1 H1 g1 ok => (ev_lc (σ := σ) (G := G1) (g := g) (te := te) (vs := vs) (wi := fun _ H R => R J H) (f := f) (xs := xs) (fun H i R q => q J G1 H (Gr.refl i) ok) hl fun x hx v G2 s r => hb x hx v G2 (g1.g.trans s) r) H1 g1.i Q fun v G' H' g r => q v G' H' (g1.trans g) r
theorem ev_sight3 {x : Sight} (ha : Ev ta σ G x) (hb : Ev tb σ G (3 : Int)) : Ev (tOp (rIxT K) ta tb) σ G x.d :=
  ev2 ha hb fun v u G' _ k1 k2 H hh Q q => by
    obtain ⟨a, rfl, h2⟩ := k1
    cases k2
    exact ⟨a, _, 3, _, rfl, rfl, .inl (.inl (hh _ _ h2)), rfl, q _ G' H (Gr.refl hh) rfl⟩
theorem Bhl.frz {α : Type} [Rep α] {xs : List α} (x : Bhl K C CH G H b nl c h xs) (s : Same G H) : ∃ Gz, Same G Gz ∧ Same Gz H ∧ rep Gz (.ref nl) xs ∧ Ho K C CH Gz H c h := by
  obtain ⟨n, vs, e, pa⟩ := x.ml
  have nn := ml_neMH x.ml x.ho x.d4 x.d5
  refine ⟨upd G nl (.lst vs), same_new n, ?_, ⟨nl, vs, rfl, upd_same, paired_mono (same_new n) pa⟩, x.ho.up (same_new n) fun q hq => ?_⟩
  · intro a y ha
    by_cases z : a = nl
    · rw [z, upd_same] at ha; rw [z, e, ha]
    · rw [upd_ne z] at ha; exact s _ _ ha
  · rw [upd_ne (nn q hq)]
    rcases hq with rfl | rfl | rfl | rfl
    · exact x.ho.n
    · exact x.ho.p.1
    · exact x.ho.s.1
    · exact x.ho.t.1
end
end Pf

namespace Pf
open PySem PySem.Spec PyProof.Rows L2
section
variable {σ : L2.St} {G H : Hp} {te ta tb t1 t2 : TE} {tt tu : TT} {u : TS} {D : Ends} {ad : Ek → Addr} {W : WX} {K : Fg} {C CH b nl : Addr} {c : HA} {h : HM} {n : Nat} {E : XK}
theorem eh_stand {i j : Nat} {nv : V} {xs : List Str} (hv : σ[i]? = some (some (.ref c.a))) (hj : σ[j]? = some (some nv)) (ho : Ho K C CH G H c h) (s : Same G H) (g : GoodH n h) (r : rep G nv xs) (hl : xs.length ≤ 12) (sh : ∀ j x, xs[j]? = some x → Shown h j x) :
    EvH (tCall (spStand K C CH) [] E (tCons (tVar i) (tCons (tVar j) tNil))) σ G H true := fun Q q => ⟨.ref c.a, hv, nv, hj, c, h, G, n, nv, xs, rfl, s, ho, g, r, hl, sh, fun G' H' g' => q _ G' H' g' rfl⟩
theorem eh_andV {x y : Bool} (h1 : EvH ta σ G H x) (h2 : ∀ G1 H1, Gr M0 G H G1 H1 → EvH tb σ G1 H1 y) : EvH (tAndV ta tb) σ G H (x && y) := fun Q q => h1 _ fun v G1 H1 g1 k1 => ⟨x, k1, by
  cases x with
  | true => exact h2 G1 H1 g1 _ fun v G2 H2 g2 r2 => q v G2 H2 (g1.trans g2) r2
  | false =>
    show Q (.bl false) H1
    exact q _ G1 H1 g1 rfl⟩
theorem EvT.atH {x : Bool} (h : EvT tt σ G x) (s : Same G H) : EvTH tt σ G H x := fun Q q => h H s Q q
theorem EvH.cast {α : Type} [Rep α] {x y : α} (h : EvH te σ G H x) (e : x = y) : EvH te σ G H y := e ▸ h
/-- x = [e], a list that may be changed -/
theorem sq_new1H {α : Type} [Rep α] {x : α} {i : Nat} (h : EvH te σ G H x) (k : ∀ p G' H' o, Gr M0 G H G' H' → H' p = none → Ml G' (upd H' p o) p [x] → Same G' (upd H' p o) → u D (σ.set i (some (.ref p))) (upd H' p o)) : tSeq (tAsg (tLst (tCons te tNil)) (gName i)) u D σ H :=
  h _ fun v G1 H1 g1 r1 => ⟨sl_small (n := 1) (by decide), fun p np => k p G1 H1 _ g1 np ⟨up_none g1.i np, [v], upd_same, .cons r1 .nil⟩ (same_mut g1.i (up_none g1.i np))⟩
theorem sq_appendH {α : Type} [Rep α] {x : α} {i : Nat} {p : Addr} {xs : List α} (hv : σ[i]? = some (some (.ref p))) (m : Ml G H p xs) (h : EvH te σ G H x) (hl : xs.length < 100000)
    (k : ∀ G' H' o, Gr M0 G H G' H' → Ml G' (upd H' p o) p (xs ++ [x]) → Same G' (upd H' p o) → u D σ (upd H' p o)) : tSeq (tDrop (tBM K "list" rAppend (tVar i) (tCons te tNil))) u D σ H := by
  refine ⟨.ref p, hv, .inl ⟨rfl, m.sq⟩, h _ fun v G' H' g r => ?_⟩
  obtain ⟨n, acc, e, pa⟩ := m.step0 g
  exact ⟨p, acc, v, rfl, rfl, e, sl_lt (by rw [paired_len pa]; exact hl), k G' H' _ g ⟨n, _, upd_same, paired_app pa (.cons r .nil)⟩ (same_mut g.i n)⟩
theorem sq_new2 {i : Nat} (h : t1 σ H fun v H1 => t2 σ H1 fun w H2 => ∀ p, H2 p = none → u D (σ.set i (some (.ref p))) (upd H2 p (.lst [v, w]))) : tSeq (tAsg (tLst (tCons t1 (tCons t2 tNil))) (gName i)) u D σ H := by
  show t1 σ H fun v H1 => t2 σ H1 fun w H2 => 2 ≤ sizeLine ∧ ∀ p, H2 p = none → u D (σ.set i (some (.ref p))) (upd H2 p (.lst [v, w]))
  have e : (2 ≤ sizeLine) = True := eq_true (sl_small (by decide))
  simpa only [e, true_and] using h
/-- house.do, the deed made on the spot -/
theorem do_hole {i : Nat} (hv : σ[i]? = some (some (.ref c.a))) (ho : ∃ dx, H c.a = some (.ins CH dx (houF c))) (h : te σ H fun v H1 => spDo ad K C CH [.ref c.a, v] H1 (fun _ H' => u D σ H') (WE W σ)) : tSeq (tDrop (tMo CH "do" (spDo ad K C CH) (WE W) (tVar i) (tCons te tNil))) u D σ H := by
  obtain ⟨dx, ed⟩ := ho
  exact ⟨.ref c.a, hv, c.a, dx, _, rfl, ed, rfl, h⟩
theorem do_in {d : Dd} {bb : Option PapM} {Q : VK} {X : XK} (ho : Ho K C CH G H c h) (s : Same G H) (g : GoodH n h) (ht : Ev te σ G (Tup.mk d.ths)) (ok : d.ok h) (e : pbM h d = .ok bb)
    (k : ∀ l G' H', Gr (MD c) G H G' H' → H l = none → Ho K C CH G' H' ⟨c.a, c.pp, c.sp, l⟩ (doneM h d bb) → Q .non H') : te σ H fun v H1 => spDo ad K C CH [.ref c.a, v] H1 Q X :=
  ht H s _ fun v G1 H1 g1 r1 => ⟨c, v, d, h, G1, n, rfl, g1.i, ho.step0 g1, g, r1, ok, by
    rw [e]
    exact fun l G' H' g' nl ho' => k l G' H' ((Gr.toMs g1).trans g' fun a z => .inl (z.elim (fun e => e ▸ ho'.n) fun z => z.elim (fun e => e ▸ ho'.p.1) fun e => e ▸ ho'.s.1)) (up_none g1.same nl) ho'⟩
/-- (word, xs[_law_pull(bag, many)]), xs a list that may be changed -/
theorem tup_ix_pull {α : Type} [Rep α] [Inhabited α] {i j : Nat} {s : V} {xs : List Str} {many : Int} {Q : VK} (hj : σ[j]? = some (some (.ref nl))) (hi : σ[i]? = some (some (.ref b))) (x : Bhl K C CH G H b nl c h xs) (sm : Same G H) (h0 : 0 < many) (hm : many ≤ xs.length) (hl : many.natAbs.log2 < 9000)
    (k : ∀ r H', 0 ≤ r → r < many → Gr (Mb b) G H G H' → Bag G H' b → tTup (tCons (tC s) (tCons (tC (.str (ix xs r))) tNil)) σ H' Q) : tTup (tCons (tC s) (tCons (tOp (rIxL K) (tVar j) (tCall spPull [] E0 (tCons (tVar i) (tCons (tC (.int many)) tNil)))) tNil)) σ H Q := by
  refine ⟨.ref nl, hj, rd_pull (E := E0) hi sm x.bg ev_int h0 hl fun r H' r0 r1 g bg => ?_⟩
  obtain ⟨n, vs, e, pa⟩ := (x.stepB g bg).ml
  obtain ⟨w, e1, e2⟩ := at_ix pa (i := r) ⟨r0, by omega⟩
  cases e2
  exact ⟨nl, vs, r, _, rfl, rfl, .inl (.inl e), e1, k r H' r0 r1 g bg⟩
theorem paired_erase {α β : Type} {R : α → β → Prop} : ∀ {vs : List α} {xs : List β} (n : Nat), Paired R vs xs → Paired R (vs.eraseIdx n) (xs.eraseIdx n)
  | _, _, _, .nil => .nil
  | _, _, 0, .cons _ t => t
  | _, _, n + 1, .cons h t => .cons h (paired_erase n t)
/-- x = xs.pop(_law_pull(bag, many)) -/
theorem sq_popPull {i j m : Nat} {xs : List Str} {many : Int} (hj : σ[j]? = some (some (.ref nl))) (hi : σ[i]? = some (some (.ref b))) (x : Bhl K C CH G H b nl c h xs) (sm : Same G H) (h0 : 0 < many) (hm : many ≤ xs.length) (hs : many ≤ 1000) (hl : many.natAbs.log2 < 9000)
    (k : ∀ r H', 0 ≤ r → r < many → Bhl K C CH G H' b nl c h (xs.eraseIdx r.toNat) → Same G H' → u D (σ.set m (some (.str (ix xs r)))) H') : tSeq (tAsg (tBM K "list" rPopAt (tVar j) (tCons (tCall spPull [] E0 (tCons (tVar i) (tCons (tC (.int many)) tNil))) tNil)) (gName m)) u D σ H := by
  refine ⟨.ref nl, hj, .inl ⟨rfl, x.ml.sq⟩, rd_pull (E := E0) hi sm x.bg ev_int h0 hl fun r H' r0 r1 g bg => ?_⟩
  have x2 := x.stepB g bg
  obtain ⟨n, vs, e, pa⟩ := x2.ml
  have hvl := paired_len pa
  obtain ⟨w, e1, e2⟩ := paired_get pa (i := r.toNat) (List.getElem?_eq_getElem (show r.toNat < xs.length by omega))
  cases e2
  refine ⟨nl, vs, r, r.toNat, _, rfl, rfl, e, by omega, by omega, ?_, e1, ?_⟩
  · unfold seqIndex?
    have hneg : ¬ r < 0 := by omega
    simp only [if_neg hneg]
    refine if_pos ?_
    simp only [Bool.and_eq_true, decide_eq_true_eq]
    omega
  · have es : xs[r.toNat] = ix xs r := by unfold ix; rw [List.getElem?_eq_getElem (show r.toNat < xs.length by omega)]; rfl
    rw [es]
    exact k r _ r0 r1 (x2.put (Gr.refl g.i) ⟨n, _, upd_same, paired_erase r.toNat pa⟩) (same_mut g.i n)
/-- a list of texts keeps to the form that is compared -/
theorem okN_strs {xs : List Str} (h : xs.length ≤ 100000) : OkN 3 (dat xs) := okN_list h fun s _ => okN_str 2 s
end
end Pf

namespace Pf
open PySem PySem.Spec PyProof.Rows L2
/-! ### what the written part says of the classes of refusals, asked at once -/
def exmB (K : Fg) (CP D : Addr) : Bool := decide ((PySem.W.clsIn K D).map (·.mro) = some [.ref D, .ref CP, .type "ValueError", .type "Exception", .type "BaseException", .type "object"]) &&
  (decide (PySem.W.findIn K (.ref D) "__getattribute__" = some (some (.builtin "BaseException.__getattribute__"))) && (decide (PySem.W.findIn K (.ref D) "__getattr__" = some none) &&
    (PySem.W.hasDictIn K D && decide (PySem.W.findIn K (.ref D) "__class__" = some (some (.builtin "object.__class__"))))))
def askB (K : Fg) (C : Addr) : Bool := decide (PySem.W.typeIn K (.ref C) = some (.type "type")) && PySem.W.isClsIn K C
def clsgB (K : Fg) : Bool := decide (PySem.W.specialIn K (.builtin "object.__class__") "__get__" = some (some (.builtin "getset_descriptor.__get__"))) && decide (PySem.W.takesIn K (.builtin "object.__class__") = some true)
def okXs (K : Fg) (p : Addr) (l : List Addr) : Bool := decide ((p :: l).Nodup) && (l.all (exmB K p) && (l.all (askB K) && clsgB K))
theorem nodup_inj {α β : Type} {f : α → β} : ∀ {l : List α}, (l.map f).Nodup → ∀ x ∈ l, ∀ y ∈ l, f x = f y → x = y
  | a :: l, nd, x, hx, y, hy, e => by
    rw [List.map_cons, List.nodup_cons] at nd
    rcases List.mem_cons.mp hx with ex | hx <;> rcases List.mem_cons.mp hy with ey | hy
    · rw [ex, ey]
    · exact absurd (List.mem_map.mpr ⟨y, hy, by rw [← e, ex]⟩) nd.1
    · exact absurd (List.mem_map.mpr ⟨x, hx, by rw [e, ey]⟩) nd.1
    · exact nodup_inj nd.2 x hx y hy e
theorem exsK_of {K : Fg} {mg : Str → Option Value} {ad : Ek → Addr} {CP : Addr} (x : Exs K mg ad) (p : Ecl K mg "PinchError" CP) (og : mg "OtherRow" = some (.ref (ad .otherRow))) (ve : mg "ValueError" = none) (c : okXs K CP (usedK.map ad) = true) : ExsK K mg ad CP := by
  unfold okXs at c
  obtain ⟨c1, c⟩ := Bool.and_eq_true_iff.mp c
  obtain ⟨c2, c⟩ := Bool.and_eq_true_iff.mp c
  obtain ⟨c3, c4⟩ := Bool.and_eq_true_iff.mp c
  have nd := of_decide_eq_true c1
  rw [List.nodup_cons] at nd
  refine ⟨x, fun k hk _ => ?_, fun k hk => ?_, p, og, nodup_inj nd.2, fun j hj e => nd.1 (e ▸ List.mem_map_of_mem hj), ?_, ve⟩
  · have m := List.all_eq_true.mp c2 _ (List.mem_map_of_mem hk)
    unfold exmB at m
    obtain ⟨m1, m⟩ := Bool.and_eq_true_iff.mp m
    obtain ⟨m2, m⟩ := Bool.and_eq_true_iff.mp m
    obtain ⟨m3, m⟩ := Bool.and_eq_true_iff.mp m
    obtain ⟨m4, m5⟩ := Bool.and_eq_true_iff.mp m
    exact ⟨of_decide_eq_true m1, of_decide_eq_true m2, of_decide_eq_true m3, m4, of_decide_eq_true m5⟩
  · have m := List.all_eq_true.mp c3 _ (List.mem_map_of_mem hk)
    obtain ⟨m1, m2⟩ := Bool.and_eq_true_iff.mp m
    exact ⟨of_decide_eq_true m1, m2⟩
  · obtain ⟨m1, m2⟩ := Bool.and_eq_true_iff.mp c4
    exact ⟨of_decide_eq_true m1, of_decide_eq_true m2⟩
end Pf

/-! the head by its run alone: what the top leaves is looked at by parts (Pt), each in an equation of its own -/
namespace Pf
open PySem PySem.Spec PyProof.Rows L2
/-- a part of what is looked at: facts, functions, tables -/
structure Pt where
  ex : List (Fg → Bool) := []
  fn : List He.DefD := []
  ts : List He.Tab := []
abbrev AlP : Type := Bool × (List He.FnW × List (Option (List (Option (Str × Int)))))
def ptK (p : Pt) (K : Fg) : AlP := ((p.ex.all fun b => b K) && p.fn.all fun d => d.ok K, p.fn.map fun d => He.fnW K d.at_, p.ts.map fun t => He.dicW K (t.1 K))
def ptV (p : Pt) (w : World) : AlP := (true, p.fn.map He.DefD.val, p.ts.map fun t => some (He.keysIn w.params t.2))
def hkP (as : List Addr) (ps : List Pt) : PySem.W.Hook where
  α := List AlP
  obs := fun s => ps.map fun p => ptK p (He.frG s.heap.get? as)
  val := fun w => ps.map fun p => ptV p w
  says := fun w h => ∃ K : Fg, K.In h ∧ (ps.map fun p => ptK p K) = ps.map fun p => ptV p w
  of := fun _ _ e => ⟨_, He.frG_in, e⟩
  keeps := fun _ _ _ ⟨K, hK, c⟩ k => ⟨K, PySem.W.Frag.In.keeps hK k, c⟩
/-- the run behind the top -/
noncomputable def endP (P : Program) (M : Nat) (w : World) (os : OsState) : Option PySem.W.SharedT := HandSHeadRun.endF (HandSHeadRun.stepQ (HandSHeadRun.denQ HandSHeadRun.tabQ) P w) M P w os
def PtEq (P : Program) (M : Nat) (as : List Addr) (p : Pt) (w : World) : Prop := ∀ os, (endP P M w os).map (fun s => ptK p (He.frG (HandSHeadRun.getT s) as)) = some (ptV p w)
def SeenEq (r : PySem.W.OpenRow) (q : Program) (M : Nat) (loose : List Str) (w : World) : Prop := ∀ os, (endP r.prog M w os).map (fun s => (HandSHeadRun.looksF r.prog (PySem.W.boot_heap w.params) s.abs, HandSHeadRun.seenQ q loose (PySem.importedModules r.prog.main.body) (fun s => PySem.W.xlAt q [] s && PySem.W.recOk r.toRowW.records s) s.abs)) = some (true, PySem.W.openGood q loose)
theorem obP_eq (as : List Addr) (ps : List Pt) (s : PySem.W.SharedT) : (ps.map fun p => ptK p (He.frG (HandSHeadRun.getT s) as)) = (hkP as ps).obs s.abs := by
  have e : HandSHeadRun.getT s = s.abs.heap.get? := funext (HandSHeadRun.getT_eq s)
  rw [e] <;> rfl
theorem run_of {r : PySem.W.OpenRow} {q : Program} {M : Nat} {as : List Addr} {ps : List Pt} {loose : List Str} {w : World} (h : SeenEq r q M loose w) (hp : ∀ p ∈ ps, PtEq r.prog M as p w) :
    HandSHeadRun.RunEq r q (hkP as ps) (fun s => ps.map fun p => ptK p (He.frG (HandSHeadRun.getT s) as)) M loose w := by
  intro os
  have h1 := h os
  have h2 := fun p hq => hp p hq os
  show (endP r.prog M w os).map _ = _
  cases e : endP r.prog M w os with
  | none =>
    rw [e] at h1
    cases h1
  | some s =>
    rw [e] at h1
    have h3 := Option.some.inj h1
    obtain ⟨h4, h5⟩ := Prod.mk.inj h3
    have h7 : (ps.map fun p => ptK p (He.frG (HandSHeadRun.getT s) as)) = ps.map fun p => ptV p w := List.map_congr_left fun p hq => by
      have h6 := h2 p hq
      rw [e] at h6
      exact Option.some.inj h6
    exact congrArg some (Prod.ext h4 (Prod.ext h5 h7))
section
variable {p : Pt} {K : Fg} {w : World}
theorem Pt.fact (c : ptK p K = ptV p w) (i : Nat) {b : Fg → Bool} (h : p.ex[i]? = some b) : b K = true := by
  have c1 := (He.ba (show ((p.ex.all fun b => b K) && p.fn.all fun d => d.ok K) = true from congrArg (fun z : AlP => z.1) c)).1
  exact List.all_eq_true.mp c1 b (List.mem_of_getElem? h)
theorem Pt.def_ (c : ptK p K = ptV p w) (i : Nat) {d : He.DefD} (h : p.fn[i]? = some d) : ∃ fd, FunD K d.name d.qual d.params d.body d.scope (d.dvs K) (d.kws K) (He.fAd K d.at_) fd := by
  have c2 := (He.ba (show ((p.ex.all fun b => b K) && p.fn.all fun d => d.ok K) = true from congrArg (fun z : AlP => z.1) c)).2
  have e : p.fn.map (fun d => He.fnW K d.at_) = p.fn.map He.DefD.val := congrArg (fun z : AlP => z.2.1) c
  have e2 : (p.fn.map fun d => He.fnW K d.at_)[i]? = (p.fn.map He.DefD.val)[i]? := by rw [e]
  rw [List.getElem?_map, List.getElem?_map, h] at e2
  exact He.DefD.funD (Option.some.inj e2) (List.all_eq_true.mp c2 d (List.mem_of_getElem? h))
theorem Pt.tab (c : ptK p K = ptV p w) (i : Nat) {t : He.Tab} (h : p.ts[i]? = some t) : ∃ es n, KDict K w (t.1 K) es n := by
  have e : p.ts.map (fun t => He.dicW K (t.1 K)) = p.ts.map fun t => some (He.keysIn w.params t.2) := congrArg (fun z : AlP => z.2.2) c
  have e2 : (p.ts.map fun t => He.dicW K (t.1 K))[i]? = (p.ts.map fun t => some (He.keysIn w.params t.2))[i]? := by rw [e]
  rw [List.getElem?_map, List.getElem?_map, h] at e2
  exact He.dicW_ok (Option.some.inj e2)
theorem Pt.of {ps : List Pt} (c : (ps.map fun p => ptK p K) = ps.map fun p => ptV p w) (i : Nat) {p : Pt} (h : ps[i]? = some p) : ptK p K = ptV p w := by
  have e2 : (ps.map fun p => ptK p K)[i]? = (ps.map fun p => ptV p w)[i]? := by rw [c]
  rw [List.getElem?_map, List.getElem?_map, h] at e2
  exact Option.some.inj e2
end
/-! ### what is told of it -/
def dG (x : Str) (st : Stmt) (dv : List He.Dv := []) : He.DefD := ⟨(x, none), x, x, defArgs st, defBody st, defScope st, dv, []⟩
def dM (C m qual : Str) (st : Stmt) (dv : List He.Dv := []) : He.DefD := ⟨(C, some m), m, qual, defArgs st, defBody st, defScope st, dv, []⟩
/-- the address at a key of the table at a -/
def vA (a : Fg → Addr) (k : Str) (K : Fg) : Addr := match PySem.W.nsIn K (a K) k with
  | some (some (.ref b)) => b
  | _ => 0
def tupA (a : Fg → Addr) (vs : List He.Dv) (K : Fg) : Bool := match K.lookup (a K) with
  | some ⟨.type c, _, .seq its _, _⟩ => decide (c = "tuple") && (decide (its.size ≤ sizeLine) && He.relAll (vs.map (He.Dv.v K)) its.toList)
  | _ => false
theorem tupA_ok {K : Fg} {a : Fg → Addr} {vs : List He.Dv} (h : tupA a vs K = true) (H : Hp) : SqT K H (a K) (vs.map (He.Dv.v K)) := by
  unfold tupA at h
  cases q : K.lookup (a K) with
  | none =>
    rw [q] at h
    cases h
  | some o =>
    obtain ⟨oc, od, dt, osl⟩ := o
    rw [q] at h
    cases oc with
    | type c =>
      cases dt with
      | seq its n =>
        obtain ⟨h1, h2⟩ := He.ba (show (decide (c = "tuple") && (decide (its.size ≤ sizeLine) && He.relAll (vs.map (He.Dv.v K)) its.toList)) = true from h)
        obtain ⟨h3, h4⟩ := He.ba h2
        exact .inr ⟨_, its, n, q, congrArg Value.type (of_decide_eq_true h1), rfl, of_decide_eq_true h3, He.relAll_ok h4⟩
      | _ => cases h
    | _ => cases dt <;> cases h
theorem kdct_h {K : Fg} {w : World} {a : Addr} {kvs : List (Str × He.Dv)} (t : ∃ es n, KDict K w a es n) (h : He.valsB K a kvs = true) (i : Nat) {k : Str} {dv : He.Dv} (hq : kvs[i]? = some (k, dv)) : KDct K w a k (dv.v K) := by
  obtain ⟨es, n, D⟩ := t
  obtain ⟨u, e, r⟩ := He.valsB_ok h (List.mem_of_getElem? hq)
  exact ⟨es, n, u, D.at_, D.lit, e, r⟩
theorem low_h {K : Fg} {w : World} {a : Addr} (t : ∃ es n, KDict K w a es n) : (a == sysModules) = false := by
  obtain ⟨es, n, D⟩ := t
  exact D.low
theorem fun_h {K : Fg} {x qual : Str} {st : Stmt} {f : Addr} {fd : FuncData} (F : FunD K x qual (defArgs st) (defBody st) (defScope st) [] [] f fd) : Fun K x qual st f fd := by
  obtain ⟨oc, od, dV, kV, doc, pm, an, cdv, ct, osl, e, lk, hc, hd, _⟩ := F.ex
  rcases hd with ⟨h1, h2⟩ | ⟨h1, _⟩
  · subst_vars
    exact ⟨⟨oc, od, kV, doc, pm, an, cdv, ct, osl, rfl, lk, hc⟩, F.kp⟩
  · exact absurd rfl h1
section
variable {K : Fg} {h : Heap} {mg : Str → Option Value} {x qual : Str} {st : Stmt} {ps : List Str} {C : Str} {m : Str}
abbrev BindsAs (x qual : Str) (st : Stmt) (ps : List Str) : Prop := ∀ (kV doc pm : Value) (an : Option Addr) (cdv ct : Value) (us : List Value), us.length = ps.length → bindArgs (PySem.W.fnOf x qual (defArgs st) (defBody st) (defScope st) .none kV doc pm an cdv ct) ⟨us, []⟩ = pure (ps.zip us)
theorem tx_h (X : K.In h) (G : h.Ns mainGlobals mg) (c : (He.Fa.glo x).ok K = true) (d : ∃ fd, FunD K x x (defArgs st) (defBody st) (defScope st) [] [] (He.fAd K (x, none)) fd) (b : BindsAs x x st ps) : Tx K mg x ps st := by
  obtain ⟨fd, F⟩ := d
  have F2 := fun_h F
  exact ⟨He.ga K x, fd, F2, F2.binds b, He.glo_ok X G c⟩
theorem txm_h (c : (He.Fa.meth C m).ok K = true) (d : ∃ fd, FunD K m qual (defArgs st) (defBody st) (defScope st) [] [] (He.fAd K (C, some m)) fd) (b : BindsAs m qual st ps) : TxM K (He.ga K C) m qual ps st := by
  obtain ⟨fd, F⟩ := d
  have F2 := fun_h F
  exact ⟨He.ma K (He.ga K C) m, fd, He.meth_ok c, F2, F2.binds b⟩
theorem txn_h (X : K.In h) (G : h.Ns mainGlobals mg) (g : (He.Fa.glo C).ok K = true) (c : (He.Fa.mkr C).ok K = true) (d : ∃ fd, FunD K "__init__" qual (defArgs st) (defBody st) (defScope st) [] [] (He.fAd K (C, some "__init__")) fd) (b : BindsAs "__init__" qual st ps) : TxN K mg C (He.ga K C) qual ps st := by
  obtain ⟨fd, F⟩ := d
  have F2 := fun_h F
  exact ⟨He.ma K (He.ga K C) "__init__", fd, He.mkr_ok c, F2, F2.binds b, He.glo_ok X G g⟩
theorem ecl_h (X : K.In h) (G : h.Ns mainGlobals mg) (g : (He.Fa.glo x).ok K = true) (c : (He.Fa.exc x).ok K = true) (i : PySem.W.isClsIn K (He.ga K x) = true) : Ecl K mg x (He.ga K x) := by
  obtain ⟨c1, c2, c3, c4⟩ := He.exc_ok c
  exact ⟨He.glo_ok X G g, c1, c2, c3, c4, i⟩
def bltB (K : Fg) : Bool := (["len", "range", "sum", "abs", "min", "max", "int", "bool", "str", "list", "tuple", "set", "dict", "sorted", "all", "any", "enumerate", "zip", "reversed", "isinstance", "divmod"] : List Str).all fun x => (He.Fa.free x).ok K
theorem bl_h (X : K.In h) (G : h.Ns mainGlobals mg) (c : bltB K = true) : Bl mg := fun x hx => He.free_ok X G (List.all_eq_true.mp c x hx)
end
end Pf

namespace Pf
open PySem PySem.Spec PyProof.Rows L2 L2H
private theorem room65 {k : Nat} {A : Around} (r : Room k A) : A.units + 65 < cLine := by have := r.un; omega
local macro_rules | `(tactic| walk_at "pf_sm") => `(tactic| first
  | assumption | exact Same.refl _ | exact Gr.g (by assumption)
  | ((refine' Same.trans ?_ (Gr.g (by assumption))); walk_at "pf_sm")
  | ((refine' Same.trans ?_ (by assumption)); walk_at "pf_sm"))
local macro_rules | `(tactic| walk_at "pf_rp") => `(tactic| first
  | assumption | exact rfl
  | ((refine' Rep.mono ?s ?h); (case h => assumption); (case s => walk_at "pf_sm")))
local macro_rules | `(tactic| walk_at "pf_side") => `(tactic| first
  | assumption | omega | decide | (exact Nat.le_of_ble_eq_true rfl) | (exact ⟨by omega, by omega⟩) | (exact .inr ⟨by decide, by decide⟩) | (exact .inl ⟨by decide, by decide⟩) | (exact .inr ⟨by omega, by omega⟩) | (exact .inl ⟨by omega, by omega⟩))
local macro_rules | `(tactic| walk_at "pf_ev") => `(tactic| (with_reducible show (_ : Prop)); first
  | with_reducible exact ev_int | with_reducible exact ev_bl | with_reducible exact ev_str
  | ((with_reducible show Ev (tVar _) _ _ _); exact ev_var (by rfl) (by walk_at "pf_rp"))
  | ((with_reducible refine' ev_add ?_ ?_) <;> try walk_at "pf_ev")
  | ((with_reducible refine' ev_sub ?_ ?_) <;> try walk_at "pf_ev")
  | ((with_reducible refine' ev_mul ?_ ?_ ?_) <;> try walk_at "pf_ev")
  | ((with_reducible refine' ev_fdiv ?_ ?_ ?_) <;> try walk_at "pf_ev")
  | ((with_reducible refine' ev_mod ?_ ?_ ?_) <;> try walk_at "pf_ev")
  | ((with_reducible refine' ev_lt ?_ ?_) <;> try walk_at "pf_ev")
  | ((with_reducible refine' ev_le ?_ ?_) <;> try walk_at "pf_ev")
  | ((with_reducible refine' ev_gt ?_ ?_) <;> try walk_at "pf_ev")
  | ((with_reducible refine' ev_ge ?_ ?_) <;> try walk_at "pf_ev")
  | ((with_reducible refine' ev_eqI ?_ ?_) <;> try walk_at "pf_ev")
  | ((with_reducible refine' ev_neI ?_ ?_) <;> try walk_at "pf_ev")
  | ((with_reducible refine' ev_neg ?_) <;> try walk_at "pf_ev")
  | ((with_reducible refine' ev_ixL ?_ ?_ ?_) <;> try walk_at "pf_ev")
  | ((with_reducible refine' ev_tup2 ?_ ?_) <;> try walk_at "pf_ev")
  | ((with_reducible refine' ev_tup3 ?_ ?_ ?_) <;> try walk_at "pf_ev")
  | ((with_reducible refine' ev_lenL ?_) <;> try walk_at "pf_ev")
  | ((with_reducible refine' ev_sum ?_) <;> try walk_at "pf_ev")
  | ((with_reducible refine' ev_all ?_) <;> try walk_at "pf_ev")
  | ((with_reducible refine' ev_any ?_) <;> try walk_at "pf_ev")
  | ((with_reducible refine' ev_abs ?_) <;> try walk_at "pf_ev")
  | ((with_reducible refine' ev_min2 ?_ ?_) <;> try walk_at "pf_ev")
  | ((with_reducible refine' ev_max2 ?_ ?_) <;> try walk_at "pf_ev")
  | ((with_reducible refine' ev_intB ?_) <;> try walk_at "pf_ev")
  | ((with_reducible refine' ev_call1 ?_ ?_) <;> try walk_at "pf_ev")
  | ((with_reducible refine' ev_call2 ?_ ?_ ?_) <;> try walk_at "pf_ev")
  | ((with_reducible refine' ev_call3 ?_ ?_ ?_ ?_) <;> try walk_at "pf_ev")
  | ((with_reducible refine' ev_call4 ?_ ?_ ?_ ?_ ?_) <;> try walk_at "pf_ev")
  | ((with_reducible refine' et_test ?_) <;> try walk_at "pf_ev")
  | ((with_reducible refine' et_B ?_) <;> try walk_at "pf_ev")
  | with_reducible exact et_yes
  | ((with_reducible refine' et_not ?_) <;> try walk_at "pf_ev")
  | ((with_reducible refine' et_and ?_ (fun _ => ?_)) <;> try walk_at "pf_ev")
  | ((with_reducible refine' et_or ?_ (fun _ => ?_)) <;> try walk_at "pf_ev")
  | ((with_reducible refine' ev_andV ?_ (fun _ => ?_)) <;> try walk_at "pf_ev")
  | ((with_reducible refine' ev_orV ?_ (fun _ => ?_)) <;> try walk_at "pf_ev")
  | ((with_reducible refine' ev_notV ?_) <;> try walk_at "pf_ev")
  | ((with_reducible refine' ei_r1 ?_ ?_) <;> try walk_at "pf_ev")
  | ((with_reducible refine' ei_r2 ?_ ?_ ?_) <;> try walk_at "pf_ev")
  | ((with_reducible refine' ei_list ?_) <;> try walk_at "pf_ev")
  | ((with_reducible refine' ei_tup ?_) <;> try walk_at "pf_ev")
  | with_reducible exact evs_nil
  | ((with_reducible refine' evs_cons ?_ ?_) <;> try walk_at "pf_ev")
  | ((with_reducible refine' ev_lst ?_ ?_) <;> try walk_at "pf_ev")
  | walk_at "pf_side")

def topS (i : Nat) : Stmt := PySem.Challenge.pw_pinchfold_k38_full_houses.main.body.getD i (.Pass ⟨0, 0, 0, 0⟩)
abbrev s__law_bag : Stmt := topS 101
abbrev N__law_bag : List Str := ["_law_script", "_law_cells", "_law_one", "_law_salt"]
theorem sc__law_bag : FnScope N__law_bag ["_law_script"] (defScope s__law_bag) := ⟨rfl, rfl, rfl, by decide +kernel, rfl, by decide +kernel, by decide +kernel⟩
abbrev s__law_pull : Stmt := topS 109
abbrev N__law_pull : List Str := ["_law_bag_here", "_law_many", "_law_seed", "_law_blend", "_law_drawn"]
theorem sc__law_pull : FnScope N__law_pull ["_law_bag_here", "_law_many"] (defScope s__law_pull) := ⟨rfl, rfl, rfl, by decide +kernel, rfl, by decide +kernel, by decide +kernel⟩
abbrev s__law_alike : Stmt := topS 100
abbrev N__law_alike : List Str := ["_law_found", "_law_due", "_law_at"]
theorem sc__law_alike : FnScope N__law_alike ["_law_found", "_law_due"] (defScope s__law_alike) := ⟨rfl, rfl, rfl, by decide +kernel, rfl, by decide +kernel, by decide +kernel⟩
abbrev s__law_whole : Stmt := topS 110
abbrev N__law_whole : List Str := ["_law_found"]
theorem sc__law_whole : FnScope N__law_whole ["_law_found"] (defScope s__law_whole) := ⟨rfl, rfl, rfl, by decide +kernel, rfl, by decide +kernel, by decide +kernel⟩
abbrev s__law_pair : Stmt := topS 107
abbrev N__law_pair : List Str := ["_law_one", "_law_other"]
theorem sc__law_pair : FnScope N__law_pair ["_law_one", "_law_other"] (defScope s__law_pair) := ⟨rfl, rfl, rfl, by decide +kernel, rfl, by decide +kernel, by decide +kernel⟩
abbrev s__law_plan : Stmt := topS 108
abbrev N__law_plan : List Str := ["_law_bag_here", "_law_most", "_law_faces"]
theorem sc__law_plan : FnScope N__law_plan ["_law_bag_here", "_law_most"] (defScope s__law_plan) := ⟨rfl, rfl, rfl, by decide +kernel, rfl, by decide +kernel, by decide +kernel⟩
abbrev s__law_drawn_plan : Stmt := topS 105
abbrev N__law_drawn_plan : List Str := ["_law_bag_here", "_law_faces", "_law_rows", "_law_low", "_law_high"]
theorem sc__law_drawn_plan : FnScope N__law_drawn_plan ["_law_bag_here", "_law_faces"] (defScope s__law_drawn_plan) := ⟨rfl, rfl, rfl, by decide +kernel, rfl, by decide +kernel, by decide +kernel⟩
abbrev s__law_cut_arc : Stmt := topS 103
abbrev N__law_cut_arc : List Str := ["_law_bag_here", "_law_start", "_law_end", "_law_found", "_law_wide", "_law_way", "_law_middle"]
theorem sc__law_cut_arc : FnScope N__law_cut_arc ["_law_bag_here", "_law_start", "_law_end", "_law_found"] (defScope s__law_cut_arc) := ⟨rfl, rfl, rfl, by decide +kernel, rfl, by decide +kernel, by decide +kernel⟩
abbrev s_is_plan : Stmt := topS 26
abbrev N_is_plan : List Str := ["plan", "faces", "cuts", "low", "high"]
theorem sc_is_plan : FnScope N_is_plan ["plan"] (defScope s_is_plan) := ⟨rfl, rfl, rfl, by decide +kernel, rfl, by decide +kernel, by decide +kernel⟩
abbrev s_is_cut : Stmt := topS 27
abbrev N_is_cut : List Str := ["faces", "low", "high"]
theorem sc_is_cut : FnScope N_is_cut ["faces", "low", "high"] (defScope s_is_cut) := ⟨rfl, rfl, rfl, by decide +kernel, rfl, by decide +kernel, by decide +kernel⟩
abbrev s_rising : Stmt := topS 28
abbrev N_rising : List Str := ["cuts", "one", "following"]
theorem sc_rising : FnScope N_rising ["cuts"] (defScope s_rising) := ⟨rfl, rfl, rfl, by decide +kernel, rfl, by decide +kernel, by decide +kernel⟩
abbrev s_crossing : Stmt := topS 29
abbrev N_crossing : List Str := ["cuts", "low", "high", "start", "end"]
theorem sc_crossing : FnScope N_crossing ["cuts"] (defScope s_crossing) := ⟨rfl, rfl, rfl, by decide +kernel, rfl, by decide +kernel, by decide +kernel⟩
abbrev s_check_plan : Stmt := topS 30
abbrev N_check_plan : List Str := ["plan"]
theorem sc_check_plan : FnScope N_check_plan ["plan"] (defScope s_check_plan) := ⟨rfl, rfl, rfl, by decide +kernel, rfl, by decide +kernel, by decide +kernel⟩
abbrev s_lines : Stmt := topS 31
abbrev N_lines : List Str := ["plan", "faces", "cuts", "sides", "corner"]
theorem sc_lines : FnScope N_lines ["plan"] (defScope s_lines) := ⟨rfl, rfl, rfl, by decide +kernel, rfl, by decide +kernel, by decide +kernel⟩
abbrev s_low_first : Stmt := topS 32
abbrev N_low_first : List Str := ["one", "other"]
theorem sc_low_first : FnScope N_low_first ["one", "other"] (defScope s_low_first) := ⟨rfl, rfl, rfl, by decide +kernel, rfl, by decide +kernel, by decide +kernel⟩
abbrev s_parts : Stmt := topS 33
abbrev N_parts : List Str := ["plan", "told", "joined", "found", "low", "middle", "high"]
theorem sc_parts : FnScope N_parts ["plan"] (defScope s_parts) := ⟨rfl, rfl, rfl, by decide +kernel, rfl, by decide +kernel, by decide +kernel⟩
abbrev s_thirds_of : Stmt := topS 34
abbrev N_thirds_of : List Str := ["plan", "thirds", "low", "middle", "high"]
theorem sc_thirds_of : FnScope N_thirds_of ["plan"] (defScope s_thirds_of) := ⟨rfl, rfl, rfl, by decide +kernel, rfl, by decide +kernel, by decide +kernel⟩
abbrev s_fan : Stmt := topS 35
abbrev N_fan : List Str := ["plan", "face", "joined", "faces", "around", "step", "corner"]
theorem sc_fan : FnScope N_fan ["plan", "face"] (defScope s_fan) := ⟨rfl, rfl, rfl, by decide +kernel, rfl, by decide +kernel, by decide +kernel⟩
abbrev s_hands_of : Stmt := topS 38
abbrev N_hands_of : List Str := ["thirds", "hands", "waiting", "start", "end", "hand"]
theorem sc_hands_of : FnScope N_hands_of ["thirds"] (defScope s_hands_of) := ⟨rfl, rfl, rfl, by decide +kernel, rfl, by decide +kernel, by decide +kernel⟩
abbrev s_strip_order : Stmt := topS 39
abbrev N_strip_order : List Str := ["plan"]
theorem sc_strip_order : FnScope N_strip_order ["plan"] (defScope s_strip_order) := ⟨rfl, rfl, rfl, by decide +kernel, rfl, by decide +kernel, by decide +kernel⟩
abbrev s_order_of_stack : Stmt := topS 40
abbrev N_order_of_stack : List Str := ["thirds", "start", "end", "straight", "corner", "first", "second"]
theorem sc_order_of_stack : FnScope N_order_of_stack ["thirds", "start", "end", "straight"] (defScope s_order_of_stack) := ⟨rfl, rfl, rfl, by decide +kernel, rfl, by decide +kernel, by decide +kernel⟩
abbrev s_row_of : Stmt := topS 41
abbrev N_row_of : List Str := ["plan", "hands", "faces", "leaf"]
theorem sc_row_of : FnScope N_row_of ["plan"] (defScope s_row_of) := ⟨rfl, rfl, rfl, by decide +kernel, rfl, by decide +kernel, by decide +kernel⟩
abbrev s_turned_over : Stmt := topS 44
abbrev N_turned_over : List Str := ["place", "top", "under"]
theorem sc_turned_over : FnScope N_turned_over ["place"] (defScope s_turned_over) := ⟨rfl, rfl, rfl, by decide +kernel, rfl, by decide +kernel, by decide +kernel⟩
abbrev s_check_place : Stmt := topS 45
abbrev N_check_place : List Str := ["plan", "place", "joined", "top", "under"]
theorem sc_check_place : FnScope N_check_place ["plan", "place"] (defScope s_check_place) := ⟨rfl, rfl, rfl, by decide +kernel, rfl, by decide +kernel, by decide +kernel⟩
abbrev s_check_way : Stmt := topS 46
abbrev N_check_way : List Str := ["plan", "place", "way"]
theorem sc_check_way : FnScope N_check_way ["plan", "place", "way"] (defScope s_check_way) := ⟨rfl, rfl, rfl, by decide +kernel, rfl, by decide +kernel, by decide +kernel⟩
abbrev s_check_word_of_way : Stmt := topS 47
abbrev N_check_word_of_way : List Str := ["way"]
theorem sc_check_word_of_way : FnScope N_check_word_of_way ["way"] (defScope s_check_word_of_way) := ⟨rfl, rfl, rfl, by decide +kernel, rfl, by decide +kernel, by decide +kernel⟩
abbrev s_corner_at : Stmt := topS 48
abbrev N_corner_at : List Str := ["thirds", "place", "way", "top", "under"]
theorem sc_corner_at : FnScope N_corner_at ["thirds", "place", "way"] (defScope s_corner_at) := ⟨rfl, rfl, rfl, by decide +kernel, rfl, by decide +kernel, by decide +kernel⟩
abbrev s_pinch : Stmt := topS 49
abbrev N_pinch : List Str := ["plan", "place", "way"]
theorem sc_pinch : FnScope N_pinch ["plan", "place", "way"] (defScope s_pinch) := ⟨rfl, rfl, rfl, by decide +kernel, rfl, by decide +kernel, by decide +kernel⟩
abbrev s_unpinch : Stmt := topS 50
abbrev N_unpinch : List Str := ["plan", "place", "way"]
theorem sc_unpinch : FnScope N_unpinch ["plan", "place", "way"] (defScope s_unpinch) := ⟨rfl, rfl, rfl, by decide +kernel, rfl, by decide +kernel, by decide +kernel⟩
abbrev s_place_behind : Stmt := topS 51
abbrev N_place_behind : List Str := ["thirds", "place", "word", "way", "corner", "top", "under"]
theorem sc_place_behind : FnScope N_place_behind ["thirds", "place", "word", "way"] (defScope s_place_behind) := ⟨rfl, rfl, rfl, by decide +kernel, rfl, by decide +kernel, by decide +kernel⟩
abbrev s_stacks : Stmt := topS 52
abbrev N_stacks : List Str := ["plan", "place", "top", "under", "faces", "even", "step", "odd"]
theorem sc_stacks : FnScope N_stacks ["plan", "place"] (defScope s_stacks) := ⟨rfl, rfl, rfl, by decide +kernel, rfl, by decide +kernel, by decide +kernel⟩
abbrev s_upright : Stmt := topS 53
abbrev N_upright : List Str := ["plan", "place", "top", "under", "hands"]
theorem sc_upright : FnScope N_upright ["plan", "place"] (defScope s_upright) := ⟨rfl, rfl, rfl, by decide +kernel, rfl, by decide +kernel, by decide +kernel⟩
abbrev s_middles : Stmt := topS 55
abbrev N_middles : List Str := ["plan", "place", "top", "under", "around", "between", "in_all"]
theorem sc_middles : FnScope N_middles ["plan", "place"] (defScope s_middles) := ⟨rfl, rfl, rfl, by decide +kernel, rfl, by decide +kernel, by decide +kernel⟩
abbrev s_check_lie : Stmt := topS 56
abbrev N_check_lie : List Str := ["plan", "lie", "top", "under", "front"]
theorem sc_check_lie : FnScope N_check_lie ["plan", "lie"] (defScope s_check_lie) := ⟨rfl, rfl, rfl, by decide +kernel, rfl, by decide +kernel, by decide +kernel⟩
abbrev s_ring : Stmt := topS 57
abbrev N_ring : List Str := ["plan", "lie", "on_top", "heap", "top", "under", "front", "even", "odd", "seen", "slot", "copy"]
theorem sc_ring : FnScope N_ring ["plan", "lie"] (defScope s_ring) := ⟨rfl, rfl, rfl, by decide +kernel, rfl, by decide +kernel, by decide +kernel⟩
abbrev s_heaps : Stmt := topS 58
abbrev N_heaps : List Str := ["plan", "lie", "top", "under", "front", "faces", "even", "odd", "order", "behind", "start", "step", "ahead", "found", "begin"]
theorem sc_heaps : FnScope N_heaps ["plan", "lie"] (defScope s_heaps) := ⟨rfl, rfl, rfl, by decide +kernel, rfl, by decide +kernel, by decide +kernel⟩
abbrev s_places_behind : Stmt := topS 59
abbrev N_places_behind : List Str := ["order", "even", "faces", "first", "at", "step"]
theorem sc_places_behind : FnScope N_places_behind ["order", "even"] (defScope s_places_behind) := ⟨rfl, rfl, rfl, by decide +kernel, rfl, by decide +kernel, by decide +kernel⟩
abbrev s_copies_of : Stmt := topS 60
abbrev N_copies_of : List Str := ["leaves", "behind", "begin", "copies", "leaf"]
theorem sc_copies_of : FnScope N_copies_of ["leaves", "behind", "begin"] (defScope s_copies_of) := ⟨rfl, rfl, rfl, by decide +kernel, rfl, by decide +kernel, by decide +kernel⟩
abbrev s_new_paper : Stmt := topS 68
abbrev N_new_paper : List Str := ["plan"]
theorem sc_new_paper : FnScope N_new_paper ["plan"] (defScope s_new_paper) := ⟨rfl, rfl, rfl, by decide +kernel, rfl, by decide +kernel, by decide +kernel⟩
abbrev s_check_folded : Stmt := topS 69
abbrev N_check_folded : List Str := ["paper"]
theorem sc_check_folded : FnScope N_check_folded ["paper"] (defScope s_check_folded) := ⟨rfl, rfl, rfl, by decide +kernel, rfl, by decide +kernel, by decide +kernel⟩
abbrev s_pinched : Stmt := topS 70
abbrev N_pinched : List Str := ["paper", "way"]
theorem sc_pinched : FnScope N_pinched ["paper", "way"] (defScope s_pinched) := ⟨rfl, rfl, rfl, by decide +kernel, rfl, by decide +kernel, by decide +kernel⟩
abbrev s_unpinched : Stmt := topS 71
abbrev N_unpinched : List Str := ["paper", "way"]
theorem sc_unpinched : FnScope N_unpinched ["paper", "way"] (defScope s_unpinched) := ⟨rfl, rfl, rfl, by decide +kernel, rfl, by decide +kernel, by decide +kernel⟩
abbrev s_place_of : Stmt := topS 72
abbrev N_place_of : List Str := ["paper", "top", "under", "front"]
theorem sc_place_of : FnScope N_place_of ["paper"] (defScope s_place_of) := ⟨rfl, rfl, rfl, by decide +kernel, rfl, by decide +kernel, by decide +kernel⟩
abbrev s_moved : Stmt := topS 73
abbrev N_moved : List Str := ["paper", "place", "top", "under"]
theorem sc_moved : FnScope N_moved ["paper", "place"] (defScope s_moved) := ⟨rfl, rfl, rfl, by decide +kernel, rfl, by decide +kernel, by decide +kernel⟩
abbrev s_lying : Stmt := topS 74
abbrev N_lying : List Str := ["paper", "lie"]
theorem sc_lying : FnScope N_lying ["paper", "lie"] (defScope s_lying) := ⟨rfl, rfl, rfl, by decide +kernel, rfl, by decide +kernel, by decide +kernel⟩
abbrev s_put_over : Stmt := topS 75
abbrev N_put_over : List Str := ["paper"]
theorem sc_put_over : FnScope N_put_over ["paper"] (defScope s_put_over) := ⟨rfl, rfl, rfl, by decide +kernel, rfl, by decide +kernel, by decide +kernel⟩
abbrev s_put_about : Stmt := topS 76
abbrev N_put_about : List Str := ["paper", "top", "under", "front"]
theorem sc_put_about : FnScope N_put_about ["paper"] (defScope s_put_about) := ⟨rfl, rfl, rfl, by decide +kernel, rfl, by decide +kernel, by decide +kernel⟩
abbrev s_painted : Stmt := topS 77
abbrev N_painted : List Str := ["paper", "slot", "colour", "copy", "side", "corner", "letters"]
theorem sc_painted : FnScope N_painted ["paper", "slot", "colour"] (defScope s_painted) := ⟨rfl, rfl, rfl, by decide +kernel, rfl, by decide +kernel, by decide +kernel⟩
abbrev s_top_of_slot : Stmt := topS 78
abbrev N_top_of_slot : List Str := ["paper", "slot"]
theorem sc_top_of_slot : FnScope N_top_of_slot ["paper", "slot"] (defScope s_top_of_slot) := ⟨rfl, rfl, rfl, by decide +kernel, rfl, by decide +kernel, by decide +kernel⟩
abbrev s_on_leaf : Stmt := topS 79
abbrev N_on_leaf : List Str := ["paper", "copy", "side"]
theorem sc_on_leaf : FnScope N_on_leaf ["paper", "copy", "side"] (defScope s_on_leaf) := ⟨rfl, rfl, rfl, by decide +kernel, rfl, by decide +kernel, by decide +kernel⟩
abbrev s_with_leaf : Stmt := topS 80
abbrev N_with_leaf : List Str := ["paper", "copy", "side", "told", "leaves", "key"]
theorem sc_with_leaf : FnScope N_with_leaf ["paper", "copy", "side", "told"] (defScope s_with_leaf) := ⟨rfl, rfl, rfl, by decide +kernel, rfl, by decide +kernel, by decide +kernel⟩
abbrev s_marked : Stmt := topS 81
abbrev N_marked : List Str := ["paper", "slot", "letter", "copy", "side", "corner", "colour", "letters", "written"]
theorem sc_marked : FnScope N_marked ["paper", "slot", "letter"] (defScope s_marked) := ⟨rfl, rfl, rfl, by decide +kernel, rfl, by decide +kernel, by decide +kernel⟩
abbrev s_is_letter : Stmt := topS 82
abbrev N_is_letter : List Str := ["text"]
theorem sc_is_letter : FnScope N_is_letter ["text"] (defScope s_is_letter) := ⟨rfl, rfl, rfl, by decide +kernel, rfl, by decide +kernel, by decide +kernel⟩
abbrev s_washed : Stmt := topS 83
abbrev N_washed : List Str := ["paper", "slot", "copy", "side", "corner"]
theorem sc_washed : FnScope N_washed ["paper", "slot"] (defScope s_washed) := ⟨rfl, rfl, rfl, by decide +kernel, rfl, by decide +kernel, by decide +kernel⟩
abbrev s_unfolded : Stmt := topS 84
abbrev N_unfolded : List Str := ["paper"]
theorem sc_unfolded : FnScope N_unfolded ["paper"] (defScope s_unfolded) := ⟨rfl, rfl, rfl, by decide +kernel, rfl, by decide +kernel, by decide +kernel⟩
abbrev s_refolded : Stmt := topS 85
abbrev N_refolded : List Str := ["paper", "plan", "wanted"]
theorem sc_refolded : FnScope N_refolded ["paper", "plan"] (defScope s_refolded) := ⟨rfl, rfl, rfl, by decide +kernel, rfl, by decide +kernel, by decide +kernel⟩
abbrev s_changed : Stmt := topS 87
abbrev N_changed : List Str := ["paper", "word", "things", "change"]
theorem sc_changed : FnScope N_changed ["paper", "word", "things"] (defScope s_changed) := ⟨rfl, rfl, rfl, by decide +kernel, rfl, by decide +kernel, by decide +kernel⟩
abbrev s_seen_on_top : Stmt := topS 88
abbrev N_seen_on_top : List Str := ["paper"]
theorem sc_seen_on_top : FnScope N_seen_on_top ["paper"] (defScope s_seen_on_top) := ⟨rfl, rfl, rfl, by decide +kernel, rfl, by decide +kernel, by decide +kernel⟩
abbrev s_with_leaves : Stmt := topS 89
abbrev N_with_leaves : List Str := ["paper", "tops", "found", "copy", "side", "corner", "colour", "letters"]
theorem sc_with_leaves : FnScope N_with_leaves ["paper", "tops"] (defScope s_with_leaves) := ⟨rfl, rfl, rfl, by decide +kernel, rfl, by decide +kernel, by decide +kernel⟩
abbrev s_letters_as_seen : Stmt := topS 90
abbrev N_letters_as_seen : List Str := ["letters", "side", "corner", "to_right"]
theorem sc_letters_as_seen : FnScope N_letters_as_seen ["letters", "side", "corner"] (defScope s_letters_as_seen) := ⟨rfl, rfl, rfl, by decide +kernel, rfl, by decide +kernel, by decide +kernel⟩
abbrev s_is_name : Stmt := topS 96
abbrev N_is_name : List Str := ["text", "letter"]
theorem sc_is_name : FnScope N_is_name ["text"] (defScope s_is_name) := ⟨rfl, rfl, rfl, by decide +kernel, rfl, by decide +kernel, by decide +kernel⟩
abbrev s_check_deed : Stmt := topS 97
abbrev N_check_deed : List Str := ["deed"]
theorem sc_check_deed : FnScope N_check_deed ["deed"] (defScope s_check_deed) := ⟨rfl, rfl, rfl, by decide +kernel, rfl, by decide +kernel, by decide +kernel⟩
abbrev s__law_colours_stand : Stmt := topS 102
abbrev N__law_colours_stand : List Str := ["_law_house", "_law_names", "_law_at", "_law_name", "_law_found", "_law_one", "_law_due"]
theorem sc__law_colours_stand : FnScope N__law_colours_stand ["_law_house", "_law_names"] (defScope s__law_colours_stand) := ⟨rfl, rfl, rfl, by decide +kernel, rfl, by decide +kernel, by decide +kernel⟩
abbrev s__law_do : Stmt := topS 104
abbrev N__law_do : List Str := ["_law_house", "_law_deed", "_law_word", "_law_e"]
theorem sc__law_do : FnScope N__law_do ["_law_house", "_law_deed"] (defScope s__law_do) := ⟨rfl, rfl, rfl, by decide +kernel, rfl, by decide +kernel, by decide +kernel⟩
abbrev s__law_kin : Stmt := topS 106
abbrev N__law_kin : List Str := ["_law_e", "_law_words", "_law_word", "_law_so"]
theorem sc__law_kin : FnScope N__law_kin ["_law_e"] (defScope s__law_kin) := ⟨rfl, rfl, rfl, by decide +kernel, rfl, by decide +kernel, by decide +kernel⟩
/-- what the text has -/
structure Tg (K : Fg) (mg : Str → Option Value) : Prop where
  _law_bag : Tx K mg "_law_bag" ["_law_script"] s__law_bag
  _law_pull : Tx K mg "_law_pull" ["_law_bag_here", "_law_many"] s__law_pull
  _law_alike : Tx K mg "_law_alike" ["_law_found", "_law_due"] s__law_alike
  _law_whole : Tx K mg "_law_whole" ["_law_found"] s__law_whole
  _law_pair : Tx K mg "_law_pair" ["_law_one", "_law_other"] s__law_pair
  _law_plan : Tx K mg "_law_plan" ["_law_bag_here", "_law_most"] s__law_plan
  _law_drawn_plan : Tx K mg "_law_drawn_plan" ["_law_bag_here", "_law_faces"] s__law_drawn_plan
  _law_cut_arc : Tx K mg "_law_cut_arc" ["_law_bag_here", "_law_start", "_law_end", "_law_found"] s__law_cut_arc
  is_plan : Tx K mg "is_plan" ["plan"] s_is_plan
  is_cut : Tx K mg "is_cut" ["faces", "low", "high"] s_is_cut
  rising : Tx K mg "rising" ["cuts"] s_rising
  crossing : Tx K mg "crossing" ["cuts"] s_crossing
  check_plan : Tx K mg "check_plan" ["plan"] s_check_plan
  lines : Tx K mg "lines" ["plan"] s_lines
  low_first : Tx K mg "low_first" ["one", "other"] s_low_first
  parts : Tx K mg "parts" ["plan"] s_parts
  thirds_of : Tx K mg "thirds_of" ["plan"] s_thirds_of
  fan : Tx K mg "fan" ["plan", "face"] s_fan
  hands_of : Tx K mg "hands_of" ["thirds"] s_hands_of
  strip_order : Tx K mg "strip_order" ["plan"] s_strip_order
  order_of_stack : Tx K mg "order_of_stack" ["thirds", "start", "end", "straight"] s_order_of_stack
  row_of : Tx K mg "row_of" ["plan"] s_row_of
  turned_over : Tx K mg "turned_over" ["place"] s_turned_over
  check_place : Tx K mg "check_place" ["plan", "place"] s_check_place
  check_way : Tx K mg "check_way" ["plan", "place", "way"] s_check_way
  check_word_of_way : Tx K mg "check_word_of_way" ["way"] s_check_word_of_way
  corner_at : Tx K mg "corner_at" ["thirds", "place", "way"] s_corner_at
  pinch : Tx K mg "pinch" ["plan", "place", "way"] s_pinch
  unpinch : Tx K mg "unpinch" ["plan", "place", "way"] s_unpinch
  place_behind : Tx K mg "place_behind" ["thirds", "place", "word", "way"] s_place_behind
  stacks : Tx K mg "stacks" ["plan", "place"] s_stacks
  upright : Tx K mg "upright" ["plan", "place"] s_upright
  middles : Tx K mg "middles" ["plan", "place"] s_middles
  check_lie : Tx K mg "check_lie" ["plan", "lie"] s_check_lie
  ring : Tx K mg "ring" ["plan", "lie"] s_ring
  heaps : Tx K mg "heaps" ["plan", "lie"] s_heaps
  places_behind : Tx K mg "places_behind" ["order", "even"] s_places_behind
  copies_of : Tx K mg "copies_of" ["leaves", "behind", "begin"] s_copies_of
  new_paper : Tx K mg "new_paper" ["plan"] s_new_paper
  check_folded : Tx K mg "check_folded" ["paper"] s_check_folded
  pinched : Tx K mg "pinched" ["paper", "way"] s_pinched
  unpinched : Tx K mg "unpinched" ["paper", "way"] s_unpinched
  place_of : Tx K mg "place_of" ["paper"] s_place_of
  moved : Tx K mg "moved" ["paper", "place"] s_moved
  lying : Tx K mg "lying" ["paper", "lie"] s_lying
  put_over : Tx K mg "put_over" ["paper"] s_put_over
  put_about : Tx K mg "put_about" ["paper"] s_put_about
  painted : Tx K mg "painted" ["paper", "slot", "colour"] s_painted
  top_of_slot : Tx K mg "top_of_slot" ["paper", "slot"] s_top_of_slot
  on_leaf : Tx K mg "on_leaf" ["paper", "copy", "side"] s_on_leaf
  with_leaf : Tx K mg "with_leaf" ["paper", "copy", "side", "told"] s_with_leaf
  marked : Tx K mg "marked" ["paper", "slot", "letter"] s_marked
  is_letter : Tx K mg "is_letter" ["text"] s_is_letter
  washed : Tx K mg "washed" ["paper", "slot"] s_washed
  unfolded : Tx K mg "unfolded" ["paper"] s_unfolded
  refolded : Tx K mg "refolded" ["paper", "plan"] s_refolded
  changed : Tx K mg "changed" ["paper", "word", "things"] s_changed
  seen_on_top : Tx K mg "seen_on_top" ["paper"] s_seen_on_top
  with_leaves : Tx K mg "with_leaves" ["paper", "tops"] s_with_leaves
  letters_as_seen : Tx K mg "letters_as_seen" ["letters", "side", "corner"] s_letters_as_seen
  is_name : Tx K mg "is_name" ["text"] s_is_name
  check_deed : Tx K mg "check_deed" ["deed"] s_check_deed
  LEAST_FACES : ∃ t, mg "LEAST_FACES" = some (.int 3 t)
  MOST_FACES : ∃ t, mg "MOST_FACES" = some (.int 40 t)
  MOST_PAPERS : ∃ t, mg "MOST_PAPERS" = some (.int 12 t)
  LONGEST_NAME : ∃ t, mg "LONGEST_NAME" = some (.int 8 t)
  LETTERS : ∃ t, mg "LETTERS" = some (.str "abcdefghijklmnopqrstuvwxyz" t)
  WAYS : ∃ a, mg "WAYS" = some (.ref a) ∧ ∀ H, SqT K H a [.str "even", .str "odd"]
  COLOURS : ∃ a, mg "COLOURS" = some (.ref a) ∧ ∀ H, SqT K H a [.str "red", .str "blue", .str "gold"]
  BARE : ∃ a, mg "BARE" = some (.ref a) ∧ ∀ H, SqT K H a [.str "", .str "---"]
  FIRST_LIE : ∃ a, mg "FIRST_LIE" = some (.ref a) ∧ ∀ H, SqT K H a [.int 0, .int 1, .int 0]
  _law_colours_stand : Tx K mg "_law_colours_stand" ["_law_house", "_law_names"] s__law_colours_stand
  _law_do : Tx K mg "_law_do" ["_law_house", "_law_deed"] s__law_do
  _law_kin : Tx K mg "_law_kin" ["_law_e"] s__law_kin
  BadDeed : ∃ C, Ecl K mg "BadDeed" C
  BadName : ∃ C, Ecl K mg "BadName" C
  Taken : ∃ C, Ecl K mg "Taken" C
  BadPlan : ∃ C, Ecl K mg "BadPlan" C
  Full : ∃ C, Ecl K mg "Full" C
  NoPaper : ∃ C, Ecl K mg "NoPaper" C
  Unfolded : ∃ C, Ecl K mg "Unfolded" C
  BadWay : ∃ C, Ecl K mg "BadWay" C
  NoPinch : ∃ C, Ecl K mg "NoPinch" C
  BadSlot : ∃ C, Ecl K mg "BadSlot" C
  BadColour : ∃ C, Ecl K mg "BadColour" C
  BadLetter : ∃ C, Ecl K mg "BadLetter" C
  Folded : ∃ C, Ecl K mg "Folded" C
  BadNumber : ∃ C, Ecl K mg "BadNumber" C
  BadStep : ∃ C, Ecl K mg "BadStep" C
  NoBack : ∃ C, Ecl K mg "NoBack" C
  PinchError : ∃ C, Ecl K mg "PinchError" C
  bl : Bl mg
abbrev s_Paper___init__ : Stmt := memS (topS 67) 0
abbrev N_Paper___init__ : List Str := ["self", "letters_of_row", "folded_by", "lies_at", "leaves"]
theorem sc_Paper___init__ : FnScope N_Paper___init__ ["self", "letters_of_row", "folded_by", "lies_at", "leaves"] (defScope s_Paper___init__) := ⟨rfl, rfl, rfl, by decide +kernel, rfl, by decide +kernel, by decide +kernel⟩
abbrev s_House___init__ : Stmt := memS (topS 98) 0
abbrev N_House___init__ : List Str := ["self"]
theorem sc_House___init__ : FnScope N_House___init__ ["self"] (defScope s_House___init__) := ⟨rfl, rfl, rfl, by decide +kernel, rfl, by decide +kernel, by decide +kernel⟩
abbrev s_House___len__ : Stmt := memS (topS 98) 1
abbrev s_House_do : Stmt := memS (topS 98) 2
abbrev N_House_do : List Str := ["self", "deed", "behind", "ahead"]
theorem sc_House_do : FnScope N_House_do ["self", "deed"] (defScope s_House_do) := ⟨rfl, rfl, rfl, by decide +kernel, rfl, by decide +kernel, by decide +kernel⟩
abbrev s_House_paper_behind : Stmt := memS (topS 98) 3
abbrev N_House_paper_behind : List Str := ["self", "deed", "word", "name", "things", "paper"]
theorem sc_House_paper_behind : FnScope N_House_paper_behind ["self", "deed"] (defScope s_House_paper_behind) := ⟨rfl, rfl, rfl, by decide +kernel, rfl, by decide +kernel, by decide +kernel⟩
abbrev s_House_paper_to_add : Stmt := memS (topS 98) 4
abbrev N_House_paper_to_add : List Str := ["self", "name", "plan", "paper"]
theorem sc_House_paper_to_add : FnScope N_House_paper_to_add ["self", "name", "plan"] (defScope s_House_paper_to_add) := ⟨rfl, rfl, rfl, by decide +kernel, rfl, by decide +kernel, by decide +kernel⟩
abbrev s_House_paper_named : Stmt := memS (topS 98) 5
abbrev N_House_paper_named : List Str := ["self", "name"]
theorem sc_House_paper_named : FnScope N_House_paper_named ["self", "name"] (defScope s_House_paper_named) := ⟨rfl, rfl, rfl, by decide +kernel, rfl, by decide +kernel, by decide +kernel⟩
abbrev s_House_put : Stmt := memS (topS 98) 6
abbrev N_House_put : List Str := ["self", "name", "paper"]
theorem sc_House_put : FnScope N_House_put ["self", "name", "paper"] (defScope s_House_put) := ⟨rfl, rfl, rfl, by decide +kernel, rfl, by decide +kernel, by decide +kernel⟩
abbrev s_House_back : Stmt := memS (topS 98) 7
abbrev s_House_again : Stmt := memS (topS 98) 8
abbrev s_House_deeds : Stmt := memS (topS 98) 9
abbrev s_House_twin : Stmt := memS (topS 98) 10
abbrev s_House_names : Stmt := memS (topS 98) 11
abbrev N_House_names : List Str := ["self"]
theorem sc_House_names : FnScope N_House_names ["self"] (defScope s_House_names) := ⟨rfl, rfl, rfl, by decide +kernel, rfl, by decide +kernel, by decide +kernel⟩
abbrev s_House_folded : Stmt := memS (topS 98) 12
abbrev s_House_row : Stmt := memS (topS 98) 13
abbrev s_House_plan : Stmt := memS (topS 98) 14
abbrev s_House_lie : Stmt := memS (topS 98) 15
abbrev s_House_seen : Stmt := memS (topS 98) 16
abbrev N_House_seen : List Str := ["self", "name"]
theorem sc_House_seen : FnScope N_House_seen ["self", "name"] (defScope s_House_seen) := ⟨rfl, rfl, rfl, by decide +kernel, rfl, by decide +kernel, by decide +kernel⟩
abbrev s_House_beneath : Stmt := memS (topS 98) 17
abbrev s_House_leaf : Stmt := memS (topS 98) 18
section
variable {P : Program} {w : World} {K : Fg} {mg : Str → Option Value} {base : Heap}
theorem d_is_cut (T : Tx K mg "is_cut" ["faces", "low", "high"] s_is_cut) : Df P w K mg base 1 "is_cut" ["faces", "low", "high"] (sp3 (fun (_ _ _ : Int) => True) isCutM) := by
  refine T.ok sc_is_cut (fun vs H Q E h => ?_) (fun cdv f A outer s H vs Q E hr h => ?_)
  · obtain ⟨v, x, v2, x2, v3, x3, G, rfl, _⟩ := h
    rfl
  obtain ⟨v, x, v2, x2, v3, x3, G, rfl, i, r1, r2, r3, _, q⟩ := h
  cases r1; cases r2; cases r3
  refine ⟨_, (pss_cons (ps_if (PW.pt (pw_or (pt_cmpR op_lt (pv 1) pe_int (nomark _)) (pw_or1 (pt_cmpR op_ge (pv 2) (pv 0) (nomark _)))))
      (pss_one (ps_ret pe_bl))
      pss_nil)
    (pss_one (ps_ret (pe_and (pe_cmpR op_ge (pe_op op_sub (pv 2) (pv 1)) pe_int (nomark _)) (pe_one (pe_cmpR (op_neDK (K := K) rfl hr.units) (pe_tup (pa_cons (pv 1) (pa_cons (pv 2) pa_nil))) (pe_tup (pa_cons pe_int (pa_cons (pe_op op_sub (pv 0) pe_int) pa_nil))) (nomark _))))))), ?_⟩
  refine sq_ifn (G := G) (b := decide (x2 < 0) || decide (x ≤ x3)) (by walk_at "pf_ev") i (fun hb G1 H1 g1 => ?_) (fun hb G1 H1 g1 => ?_)
  · exact st_retC (y := isCutM x x2 x3) (G := G1) ev_bl g1.i (by unfold isCutM; rw [if_pos hb]) (fun v G' H' g r => q v G' H' (g1.trans g) r)
  · exact st_retC (y := isCutM x x2 x3) (G := G1) (ev_andV (ev_ge (ev_sub (i := x3) (j := x2) (ev_var rfl rfl) (ev_var rfl rfl)) ev_int) fun _ => ev_neT (ev_tup2 (x := x2) (y := x3) (ev_var rfl rfl) (ev_var rfl rfl)) (ev_tup2 ev_int (ev_sub (i := x) (ev_var rfl rfl) ev_int)) (by decide)) g1.i (by unfold isCutM; rw [if_neg (by rw [hb]; decide)]) (fun v G' H' g r => q v G' H' (g1.trans g) r)
theorem d_rising (T : Tx K mg "rising" ["cuts"] s_rising) (bl : Bl mg) : Df P w K mg base 1 "rising" ["cuts"] (sp1 (fun (c : Tup (Int × Int)) => c.l.length ≤ 1000) (fun c => risingM c.l)) := by
  refine T.ok sc_rising (fun vs H Q E h => ?_) (fun cdv f A outer s H vs Q E hr h => ?_)
  · obtain ⟨v, x, G, rfl, _⟩ := h
    rfl
  obtain ⟨v, x, G, rfl, i, r1, hl, q⟩ := h
  refine ⟨_, (pss_one (ps_ret (pe_callB (cr_allK (K := K) rfl rfl) (by rfl) (bl "all" (by decide)) (by decide +kernel) (pa_cons (pe_lc (own := [("one", 1), ("following", 2)]) rfl sc_rising.nd (pi_zipAK (K := K) rfl (RZ.pi_zipA (by rfl) (bl "zip" (by decide)) (pa_cons (pv 0) (pa_cons (pe_slice (sl_tupAK (K := K) rfl) (pv 0) (po_some pe_int) po_none) pa_nil)))) (blkOk_by (own := [("one", 1), ("following", 2)]) (N := N_rising) (sc := defScope s_rising) (by decide +kernel)) (fun _ _ _ _ _ => (pg_tupK (K := K) (n := 2) rfl (pg_tup rfl (pgs_cons (pg_name (i := 1) sc_rising.nd rfl (by first | exact .inl rfl | exact .inr rfl)) (pgs_cons (pg_name (i := 2) sc_rising.nd rfl (by first | exact .inl rfl | exact .inr rfl)) pgs_nil))))) (fun _ _ _ _ _ => pts_nil) (fun _ _ _ _ _ => (pe_cmpR (op_ltTK (K := K) rfl hr.units0) (pv 1) (pv 2) (nomark _)))) pa_nil)))), ?_⟩
  refine st_retC (y := risingM x.l) (G := G) (ev_all (ev_lc (f := fun oq => ltI oq.1 oq.2) (ei_zipT (xs := x) (ev_var rfl r1) (ev_slT (xs := x) (ev_var rfl r1) (eo_some ev_int) eo_none)) ?_ ?_)) i ?_ (fun v G' H' g r => q v G' H' g r)
  · rw [List.length_zip]; omega
  · intro oq hoq v1 G1 s1 r1'
    exact gb_pair' r1' fun u w ru rw => ⟨rfl, ev_ltP (ev_var rfl ru) (ev_var rfl rw)⟩
  · rw [cut_drop1]; rfl
theorem d_crossing (T : Tx K mg "crossing" ["cuts"] s_crossing) (bl : Bl mg) : Df P w K mg base 1 "crossing" ["cuts"] (sp1 (fun (c : Tup (Int × Int)) => c.l.length ≤ 300) (fun c => crossingM c.l)) := by
  refine T.ok sc_crossing (fun vs H Q E h => ?_) (fun cdv f A outer s H vs Q E hr h => ?_)
  · obtain ⟨v, x, G, rfl, _⟩ := h
    rfl
  obtain ⟨v, x, G, rfl, i, r1, hl, q⟩ := h
  refine ⟨_, (pss_one (ps_ret (pe_callB (cr_anyK (K := K) rfl rfl) (by rfl) (bl "any" (by decide)) (by decide +kernel) (pa_cons (pe_lc2 (own := [("low", 1), ("high", 2), ("start", 3), ("end", 4)]) (vs1 := [3, 4]) rfl sc_crossing.nd (pi_tupK (K := K) rfl (pv 0)) (blkOk_by (own := [("low", 1), ("high", 2), ("start", 3), ("end", 4)]) (N := N_crossing) (sc := defScope s_crossing) (by decide +kernel)) (by decide) (fun _ _ _ _ _ => (pg_tupK (K := K) (n := 2) rfl (pg_tup rfl (pgs_cons (pg_name (i := 1) sc_crossing.nd rfl (by first | exact .inl rfl | exact .inr rfl)) (pgs_cons (pg_name (i := 2) sc_crossing.nd rfl (by first | exact .inl rfl | exact .inr rfl)) pgs_nil))))) (fun _ _ _ _ _ => pts_nil) (fun _ _ _ _ _ => (pi_tupK (K := K) rfl (pv 0))) (fun _ _ _ _ _ => (pg_tupK (K := K) (n := 2) rfl (pg_tup rfl (pgs_cons (pg_name (i := 3) sc_crossing.nd rfl (by first | exact .inl rfl | exact .inr rfl)) (pgs_cons (pg_name (i := 4) sc_crossing.nd rfl (by first | exact .inl rfl | exact .inr rfl)) pgs_nil))))) (fun _ _ _ _ _ => pts_nil) (fun _ _ _ _ _ => (pe_chain3 op_lt op_lt op_lt (pv 1) (pv 3) (pv 2) (pv 4)))) pa_nil)))), ?_⟩
  refine st_retC (y := crossingM x.l) (G := G) (ev_any (ev_lc2 (xs := x.l) (ys := fun _ => x.l) (f := fun (a b : Int × Int) => decide (a.1 < b.1) && (decide (b.1 < a.2) && decide (a.2 < b.2))) (ei_tup (ev_var rfl r1)) ?_ ?_)) i (by rfl) (fun v G' H' g r => q v G' H' g r)
  · rw [flat_len]
    exact Nat.le_trans (Nat.mul_le_mul hl hl) (by decide)
  · intro a ha v1 G1 s1 ra
    refine gb_pair' ra fun u w ru rw => ⟨rfl, ei_tup (ev_var rfl (Rep.mono s1 r1)), fun b hb v2 G2 s2 rb => gb_pair' rb fun u2 w2 ru2 rw2 => ⟨rfl, ?_⟩⟩
    exact ev_chain3I (ev_var rfl (Rep.mono s2 ru)) (ev_var rfl ru2) (ev_var rfl (Rep.mono s2 rw)) (ev_var rfl rw2)
theorem d_is_plan {t1 t2 : Tok} (T : Tx K mg "is_plan" ["plan"] s_is_plan) (TC : Tx K mg "is_cut" ["faces", "low", "high"] s_is_cut) (TR : Tx K mg "rising" ["cuts"] s_rising) (TX : Tx K mg "crossing" ["cuts"] s_crossing)
    (m_LEAST_FACES : mg "LEAST_FACES" = some (.int 3 t1)) (m_MOST_FACES : mg "MOST_FACES" = some (.int 40 t2)) (bl : Bl mg) : Df P w K mg base 2 "is_plan" ["plan"] (sp1 (fun (_ : Plan) => True) isPlanM) := by
  have D_is_cut := d_is_cut (P := P) (w := w) (base := base) TC
  have D_rising := d_rising (P := P) (w := w) (base := base) TR bl
  have D_crossing := d_crossing (P := P) (w := w) (base := base) TX bl
  refine T.ok sc_is_plan (fun vs H Q E h => ?_) (fun cdv f A outer s H vs Q E hr h => ?_)
  · obtain ⟨v, x, G, rfl, _⟩ := h
    rfl
  obtain ⟨v, x, G, rfl, i, r1, _, q⟩ := h
  refine ⟨_, (pss_cons (ps_asg (pv 0) (pg_tupK (K := K) (n := 2) rfl (pg_tup rfl (pgs_cons (pg_name (i := 1) sc_is_plan.nd rfl (by first | exact .inl rfl | exact .inr rfl)) (pgs_cons (pg_name (i := 2) sc_is_plan.nd rfl (by first | exact .inl rfl | exact .inr rfl)) pgs_nil)))))
    (pss_cons (ps_if (PW.pt (pw_or (pt_cmpR op_lt (pv 1) (pe_glob (v := .int 3) (by rfl) m_LEAST_FACES ⟨_, rfl⟩) (nomark _)) (pw_or (pt_cmpR op_gt (pv 1) (pe_glob (v := .int 40) (by rfl) m_MOST_FACES ⟨_, rfl⟩) (nomark _)) (pw_or1 (pt_cmpR op_ne (pe_callB (call_lenK (K := K) rfl) (by rfl) (bl "len" (by decide)) (by decide +kernel) (pa_cons (pv 2) pa_nil)) (pe_op op_sub (pv 1) pe_int) (nomark _))))))
      (pss_one (ps_ret pe_bl))
      pss_nil)
    (pss_cons (ps_if (pt_not (pt_val (pe_callB (cr_allK (K := K) rfl rfl) (by rfl) (bl "all" (by decide)) (by decide +kernel) (pa_cons (pe_lc (own := [("low", 3), ("high", 4)]) rfl sc_is_plan.nd (pi_tupK (K := K) rfl (pv 2)) (blkOk_by (own := [("low", 3), ("high", 4)]) (N := N_is_plan) (sc := defScope s_is_plan) (by decide +kernel)) (fun _ _ _ _ _ => (pg_tupK (K := K) (n := 2) rfl (pg_tup rfl (pgs_cons (pg_name (i := 3) sc_is_plan.nd rfl (by first | exact .inl rfl | exact .inr rfl)) (pgs_cons (pg_name (i := 4) sc_is_plan.nd rfl (by first | exact .inl rfl | exact .inr rfl)) pgs_nil))))) (fun _ _ _ _ _ => pts_nil) (fun _ _ _ _ _ => (pe_df D_is_cut hr (by first | decide | omega) (by rfl) (pa_cons (pv 1) (pa_cons (pv 3) (pa_cons (pv 4) pa_nil)))))) pa_nil))))
      (pss_one (ps_ret pe_bl))
      pss_nil)
    (pss_one (ps_ret (pe_and (pe_df D_rising hr (by first | decide | omega) (by rfl) (pa_cons (pv 2) pa_nil)) (pe_one (pe_not (pe_df D_crossing hr (by first | decide | omega) (by rfl) (pa_cons (pv 2) pa_nil)))))))))), ?_⟩
  refine sq_pair (G := G) (x := x) (ev_var rfl r1) i (fun u w G1 H1 g1 ru rw => ?_)
  cases ru
  refine sq_ifn (G := G1) (b := decide (x.1 < 3) || (decide (40 < x.1) || !decide ((x.2.l.length : Int) = x.1 - 3))) ?_ g1.i (fun hb G2 H2 g2 => ?_) (fun hb G2 H2 g2 => ?_)
  · exact et_or (et_test (ev_lt (ev_var rfl rfl) (ev_c rfl))) fun _ => et_or (et_test (ev_gt (ev_var rfl rfl) (ev_c rfl))) fun _ => et_test (ev_neI (ev_lenT (ev_var rfl rw)) (ev_sub (ev_var rfl rfl) ev_int))
  · exact st_retC (y := isPlanM x) (G := G2) ev_bl g2.i (by unfold isPlanM; rw [if_pos hb]) (fun v G' H' g r => q v G' H' ((g1.trans g2).trans g) r)
  have hlen : (x.2.l.length : Int) = x.1 - 3 ∧ x.1 ≤ 40 := by
    simp only [Bool.or_eq_false_iff, decide_eq_false_iff_not, Bool.not_eq_false', decide_eq_true_eq] at hb
    omega
  have g12 := g1.trans g2
  have rw2 := Rep.mono g2.g rw
  refine sq_ifn (G := G2) (b := !(x.2.l.map fun lh => isCutM x.1 lh.1 lh.2).all id) (et_not (et_B (ev_all (ev_lc (f := fun lh => isCutM x.1 lh.1 lh.2) (ei_tup (xs := x.2) (ev_var rfl rw2)) (by omega) ?_)))) g2.i (fun hb2 G3 H3 g3 => ?_) (fun hb2 G3 H3 g3 => ?_)
  · intro lh hlh v1 G3 s3 r3
    exact gb_pair' r3 fun u w ru rw => ⟨rfl, ev_call3 (ev_var rfl rfl) (ev_var rfl ru) (ev_var rfl rw) trivial⟩
  · exact st_retC (y := isPlanM x) (G := G3) ev_bl g3.i (by unfold isPlanM; rw [if_neg (by rw [hb]; decide), if_pos hb2]) (fun v G' H' g r => q v G' H' ((g12.trans g3).trans g) r)
  · have rw3 := Rep.mono g3.g rw2
    exact st_retC (y := isPlanM x) (G := G3) (ev_andV (ev_call1 (x := x.2) (ev_var rfl rw3) (by omega)) fun _ => ev_notV (ev_call1 (x := x.2) (ev_var rfl rw3) (by omega))) g3.i (by unfold isPlanM; rw [if_neg (by rw [hb]; decide), if_neg (by rw [hb2]; decide)]) (fun v G' H' g r => q v G' H' ((g12.trans g3).trans g) r)
end


section
variable {P : Program} {w : World} {K : Fg} {mg : Str → Option Value} {base : Heap}
theorem d_check_plan {t1 t2 : Tok} (T : Tx K mg "check_plan" ["plan"] s_check_plan) (TI : Tx K mg "is_plan" ["plan"] s_is_plan) (TC : Tx K mg "is_cut" ["faces", "low", "high"] s_is_cut) (TR : Tx K mg "rising" ["cuts"] s_rising) (TX : Tx K mg "crossing" ["cuts"] s_crossing)
    (m1 : mg "LEAST_FACES" = some (.int 3 t1)) (m2 : mg "MOST_FACES" = some (.int 40 t2)) (bl : Bl mg) : Df P w K mg base 3 "check_plan" ["plan"] (sp1 (fun (p : Plan) => isPlanM p = true) (fun _ => ())) := by
  have D_is_plan := d_is_plan (P := P) (w := w) (base := base) TI TC TR TX m1 m2 bl
  refine T.ok sc_check_plan (fun vs H Q E h => ?_) (fun cdv f A outer s H vs Q E hr h => ?_)
  · obtain ⟨v, x, G, rfl, _⟩ := h
    rfl
  obtain ⟨v, x, G, rfl, i, r1, hp, q⟩ := h
  refine ⟨_, (pss_one (ps_if (pt_not (pt_val (pe_df D_is_plan hr (by first | decide | omega) (by rfl) (pa_cons (pv 0) pa_nil))))
      (pss_one ps_never)
      pss_nil)), ?_⟩
  refine st_if (G := G) (b := !isPlanM x) (et_not (et_B (ev_call1 (ev_var rfl r1) trivial))) i (fun hb G1 H1 g1 => ?_) (fun hb G1 H1 g1 => q _ G1 H1 g1 rfl)
  rw [hp] at hb
  cases hb
theorem d_low_first (T : Tx K mg "low_first" ["one", "other"] s_low_first) (bl : Bl mg) : Df P w K mg base 1 "low_first" ["one", "other"] (sp2 (fun (_ _ : Int) => True) lawPair) := by
  refine T.ok sc_low_first (fun vs H Q E h => ?_) (fun cdv f A outer s H vs Q E hr h => ?_)
  · obtain ⟨v, x, v2, x2, G, rfl, _⟩ := h
    rfl
  obtain ⟨v, x, v2, x2, G, rfl, i, r1, r2, _, q⟩ := h
  refine ⟨_, (pss_one (ps_ret (pe_tup (pa_cons (pe_callB (call_min2 rfl) (by rfl) (bl "min" (by decide)) (by decide +kernel) (pa_cons (pv 0) (pa_cons (pv 1) pa_nil))) (pa_cons (pe_callB (call_max2 rfl) (by rfl) (bl "max" (by decide)) (by decide +kernel) (pa_cons (pv 0) (pa_cons (pv 1) pa_nil))) pa_nil))))), ?_⟩
  exact st_retC (y := lawPair x x2) (G := G) (by walk_at "pf_ev") i (by rfl) (fun v G' H' g r => q v G' H' g r)
end


section
variable {P : Program} {w : World} {K : Fg} {mg : Str → Option Value} {base : Heap}
theorem d_linesN {t1 t2 : Tok} (T : Tx K mg "lines" ["plan"] s_lines) (TK : Tx K mg "check_plan" ["plan"] s_check_plan) (TL : Tx K mg "low_first" ["one", "other"] s_low_first)
    (TI : Tx K mg "is_plan" ["plan"] s_is_plan) (TC : Tx K mg "is_cut" ["faces", "low", "high"] s_is_cut) (TR : Tx K mg "rising" ["cuts"] s_rising) (TX : Tx K mg "crossing" ["cuts"] s_crossing)
    (m1 : mg "LEAST_FACES" = some (.int 3 t1)) (m2 : mg "MOST_FACES" = some (.int 40 t2)) (bl : Bl mg) : Df P w K mg base 4 "lines" ["plan"] (spL1 (fun (p : Plan) => isPlanM p = true) linesM) := by
  have D_check_plan := d_check_plan (P := P) (w := w) (base := base) TK TI TC TR TX m1 m2 bl
  have D_low_first := d_low_first (P := P) (w := w) (base := base) TL bl
  refine T.ok sc_lines (fun vs H Q E h => ?_) (fun cdv f A outer s H vs Q E hr h => ?_)
  · obtain ⟨v, x, G, rfl, _⟩ := h
    rfl
  obtain ⟨v, x, G, rfl, i, r1, hp, q⟩ := h
  have vp := plan_facts hp
  refine ⟨_, (pss_cons (ps_expr (pe_df D_check_plan hr (by first | decide | omega) (by rfl) (pa_cons (pv 0) pa_nil)))
    (pss_cons (ps_asg (pv 0) (pg_tupK (K := K) (n := 2) rfl (pg_tup rfl (pgs_cons (pg_name (i := 1) sc_lines.nd rfl (by first | exact .inl rfl | exact .inr rfl)) (pgs_cons (pg_name (i := 2) sc_lines.nd rfl (by first | exact .inl rfl | exact .inr rfl)) pgs_nil)))))
    (pss_cons (ps_setLc (i := 3) (own := [("corner", 4)]) rfl sc_lines.nd rfl rfl (sw_true rfl rfl rfl (by decide +kernel)) (pi_range1 (by rfl) (bl "range" (by decide)) (pa_cons (pv 1) pa_nil)) (blkOk_by (own := [("corner", 4)]) (N := N_lines) (sc := defScope s_lines) (by decide +kernel)) (fun _ _ _ _ _ => (pg_name (i := 4) sc_lines.nd rfl (by first | exact .inl rfl | exact .inr rfl))) (fun _ _ _ _ _ => pts_nil) (fun _ _ _ _ _ => (pe_df D_low_first hr (by first | decide | omega) (by rfl) (pa_cons (pv 4) (pa_cons (pe_op op_mod (pe_op op_add (pv 4) pe_int) (pv 1)) pa_nil)))))
    (pss_one (ps_ret (pe_callB (cr_sortedPOK (K := K) rfl) (by rfl) (bl "sorted" (by decide)) (by decide +kernel) (pa_cons (pe_op op_cat (pv 3) (pe_callTy (call_listK (K := K) rfl) (by rfl) (bl "list" (by decide)) (by decide +kernel) (pa_cons (pv 2) pa_nil))) pa_nil))))))), ?_⟩
  refine sq_drop (G := G) (ev_call1 (ev_var rfl r1) hp) i (fun G1 H1 g1 => ?_)
  refine sq_pair (G := G1) (x := x) (ev_var rfl (Rep.mono g1.g r1)) g1.i (fun u w G2 H2 g2 ru rw => ?_)
  cases ru
  have g12 := g1.trans g2
  refine sq_set (G := G2) (ev_lc (f := fun c : Int => lawPair c ((c + 1) % x.1)) (ei_r1 (ev_var rfl rfl) (by omega)) (by rw [rng_len]; omega) ?_) g2.i (fun sv G3 H3 g3 r3 => ?_)
  · intro c hc v1 G3 s3 rc
    exact gb_name ⟨rfl, ev_call2 (ev_var rfl rc) (ev_mod (ev_add (ev_var rfl rc) ev_int) (ev_var rfl rfl) (by omega)) trivial⟩
  · exact st_retN (G := G3) (en_sortedP (ev_catL (ev_var rfl r3) (ev_listT (xs := x.2) (ev_var rfl (Rep.mono g3.g rw))) (by have hz := vp.2.2.1; rw [List.length_map, rng_len]; omega))) g3.i (fun p G' H' g np m => q p G' H' ((g12.trans g3).trans g) (up_none (g12.trans g3).same np) m)
theorem d_lines {t1 t2 : Tok} (T : Tx K mg "lines" ["plan"] s_lines) (TK : Tx K mg "check_plan" ["plan"] s_check_plan) (TL : Tx K mg "low_first" ["one", "other"] s_low_first)
    (TI : Tx K mg "is_plan" ["plan"] s_is_plan) (TC : Tx K mg "is_cut" ["faces", "low", "high"] s_is_cut) (TR : Tx K mg "rising" ["cuts"] s_rising) (TX : Tx K mg "crossing" ["cuts"] s_crossing)
    (m1 : mg "LEAST_FACES" = some (.int 3 t1)) (m2 : mg "MOST_FACES" = some (.int 40 t2)) (bl : Bl mg) : Df P w K mg base 4 "lines" ["plan"] (sp1 (fun (p : Plan) => isPlanM p = true) linesM) :=
  (d_linesN T TK TL TI TC TR TX m1 m2 bl).imp spL1_sp1
end

section
variable {P : Program} {w : World} {K : Fg} {mg : Str → Option Value} {base : Heap}
theorem q_linesN (T : Tg K mg) : Df P w K mg base 4 "lines" ["plan"] (spL1 (fun (p : Plan) => isPlanM p = true) linesM) := by
  obtain ⟨_, m1⟩ := T.LEAST_FACES
  obtain ⟨_, m2⟩ := T.MOST_FACES
  exact d_linesN T.lines T.check_plan T.low_first T.is_plan T.is_cut T.rising T.crossing m1 m2 T.bl
theorem q_lines (T : Tg K mg) : Df P w K mg base 4 "lines" ["plan"] (sp1 (fun (p : Plan) => isPlanM p = true) linesM) := (q_linesN T).imp spL1_sp1
theorem q_low_first (T : Tg K mg) : Df P w K mg base 1 "low_first" ["one", "other"] (sp2 (fun (_ _ : Int) => True) lawPair) := d_low_first T.low_first T.bl
end

section
variable {P : Program} {w : World} {K : Fg} {mg : Str → Option Value} {base : Heap}
theorem q_check_place (T : Tg K mg) : Df P w K mg base 5 "check_place" ["plan", "place"] (sp2 (fun (p : Plan) (s : Int × Int) => isPlanM p = true ∧ Jn p s.1 s.2) (fun _ _ => ())) := by
  refine T.check_place.ok sc_check_place (fun vs H Q E h => ?_) (fun cdv f A outer s H vs Q E hr h => ?_)
  · obtain ⟨v, x, v2, x2, G, rfl, _⟩ := h
    rfl
  obtain ⟨v, x, v2, x2, G, rfl, i, r1, r2, ⟨hp, hj⟩, q⟩ := h
  have bl := T.bl
  refine ⟨_, (pss_cons (ps_set (i := 2) sc_check_place.nd rfl (by first | exact .inl rfl | exact .inr rfl) (pe_df (q_lines T) hr (by first | decide | omega) (by rfl) (pa_cons (pv 0) pa_nil)))
    (pss_cons (ps_asg (pv 1) (pg_tupK (K := K) (n := 2) rfl (pg_tup rfl (pgs_cons (pg_name (i := 3) sc_check_place.nd rfl (by first | exact .inl rfl | exact .inr rfl)) (pgs_cons (pg_name (i := 4) sc_check_place.nd rfl (by first | exact .inl rfl | exact .inr rfl)) pgs_nil)))))
    (pss_one (ps_if (pt_cmpR (op_notInDK (K := K) rfl (room65 hr)) (pe_df (q_low_first T) hr (by first | decide | omega) (by rfl) (pa_cons (pv 3) (pa_cons (pv 4) pa_nil))) (pv 2) (by rfl))
      (pss_one ps_never)
      pss_nil)))), ?_⟩
  refine sq_set (G := G) (ev_call1 (ev_var rfl r1) hp) i (fun jv G1 H1 g1 rj => ?_)
  refine sq_pair (G := G1) (x := x2) (ev_var rfl (Rep.mono g1.g r2)) g1.i (fun u w G2 H2 g2 ru rw => ?_)
  refine st_if (G := G2) (et_test (ev_notInL (ev_call2 (ev_var rfl ru) (ev_var rfl rw) trivial) (ev_var rfl (Rep.mono g2.g rj)) (by decide))) g2.i (fun hb _ _ _ => ?_) (fun hb G3 H3 g3 => ?_)
  · exfalso
    simp only [Bool.not_eq_true', decide_eq_false_iff_not] at hb
    exact hb hj
  · exact q .non G3 H3 ((g1.trans g2).trans g3) rfl
end


section
variable {P : Program} {w : World} {K : Fg} {mg : Str → Option Value} {base : Heap}
theorem d_parts {t1 t2 : Tok} (T : Tx K mg "parts" ["plan"] s_parts) (TN : Tx K mg "lines" ["plan"] s_lines) (TK : Tx K mg "check_plan" ["plan"] s_check_plan) (TL : Tx K mg "low_first" ["one", "other"] s_low_first)
    (TI : Tx K mg "is_plan" ["plan"] s_is_plan) (TC : Tx K mg "is_cut" ["faces", "low", "high"] s_is_cut) (TR : Tx K mg "rising" ["cuts"] s_rising) (TX : Tx K mg "crossing" ["cuts"] s_crossing)
    (m1 : mg "LEAST_FACES" = some (.int 3 t1)) (m2 : mg "MOST_FACES" = some (.int 40 t2)) (bl : Bl mg) : Df P w K mg base 5 "parts" ["plan"] (spL1 (fun (p : Plan) => isPlanM p = true) partsM) := by
  have D_lines := d_lines (P := P) (w := w) (base := base) TN TK TL TI TC TR TX m1 m2 bl
  refine T.ok sc_parts (fun vs H Q E h => ?_) (fun cdv f A outer s H vs Q E hr h => ?_)
  · obtain ⟨v, x, G, rfl, _⟩ := h
    rfl
  obtain ⟨v, x, G, rfl, i, r1, hp, q⟩ := h
  have vp := plan_facts hp
  have hll : ((linesM x).length : Int) = 2 * x.1 - 3 := by rw [lines_eq (by omega)]; exact lines_len hp
  refine ⟨_, (pss_cons (ps_set (i := 1) sc_parts.nd rfl (by first | exact .inl rfl | exact .inr rfl) (pe_df D_lines hr (by first | decide | omega) (by rfl) (pa_cons (pv 0) pa_nil)))
    (pss_cons (ps_set (i := 2) sc_parts.nd rfl (by first | exact .inl rfl | exact .inr rfl) (pe_callTy (cr_setP (K := K) (P := P) (w := w) rfl rfl rfl rfl hr.units) (by rfl) (bl "set" (by decide)) (by decide +kernel) (pa_cons (pv 1) pa_nil)))
    (pss_cons (ps_set (i := 3) sc_parts.nd rfl (by first | exact .inl rfl | exact .inr rfl) (pe_lst pa_nil))
    (pss_cons (ps_for PassesOwn.never rfl (pi_listK (K := K) rfl (pv 1)) (pg_tupK (K := K) (n := 2) rfl (pg_tup rfl (pgs_cons (pg_name (i := 4) sc_parts.nd rfl (by first | exact .inl rfl | exact .inr rfl)) (pgs_cons (pg_name (i := 5) sc_parts.nd rfl (by first | exact .inl rfl | exact .inr rfl)) pgs_nil))))
      (pss_one (ps_for PassesOwn.never rfl (pi_range2 (by rfl) (bl "range" (by decide)) (pa_cons (pe_op op_add (pv 5) pe_int) (pa_cons (pe_ix (ix_tupK (K := K) rfl) (pv 0) pe_int (fun _ _ => rfl)) pa_nil))) (pg_name (i := 6) sc_parts.nd rfl (by first | exact .inl rfl | exact .inr rfl))
        (pss_one (ps_if (PW.pt (pw_and (pt_cmpR (op_inP (K := K) (P := P) (w := w) rfl rfl rfl hr.units) (pe_tup (pa_cons (pv 4) (pa_cons (pv 6) pa_nil))) (pv 2) (by rfl)) (pw_and1 (pt_cmpR (op_inP (K := K) (P := P) (w := w) rfl rfl rfl hr.units) (pe_tup (pa_cons (pv 5) (pa_cons (pv 6) pa_nil))) (pv 2) (by rfl)))))
          (pss_one (ps_expr (pe_bm PySem.F.plainAttrs_list PySem.F.slot_list_append PySem.F.type_list_append mt_append (pv 3) (pa_cons (pe_tup (pa_cons (pv 4) (pa_cons (pv 5) (pa_cons (pv 6) pa_nil)))) pa_nil))))
          pss_nil)))))
    (pss_one (ps_ret (pv 3))))))), ?_⟩
  refine sq_set (G := G) (ev_call1 (ev_var rfl r1) hp) i (fun tv G1 H1 g1 rt => ?_)
  refine sq_set (G := G1) (ev_setP (P := P) (w := w) (ev_var rfl rt) (by omega)) g1.i (fun jv G2 H2 g2 rj => ?_)
  refine sq_newlist (α := T3) (G := G2) evs_nil g2.i (by decide) (fun pa G3 H3 o g3 np ml s3 => ?_)
  have r3 := Rep.mono ((g1.g.trans g2.g).trans g3.g) r1
  have rt3 := Rep.mono (g2.g.trans g3.g) rt
  have rj3 := Rep.mono g3.g rj
  have g03 : Gr M0 G H G3 H3 := (g1.trans g2).trans g3
  have gd : Gr M0 G H G3 (upd H3 pa o) := g03.mut (.inl (up_none g03.same np)) (up_none g03.i np)
  have nH := up_none g03.same np
  have row : (Int × Int) → List T3 := fun lm => ((rng (lm.2 + 1) x.1).filter fun c => decide ((lm.1, c) ∈ linesM x) && decide ((lm.2, c) ∈ linesM x)).map fun c => ⟨lm.1, lm.2, c⟩
  refine sq_for (G := G3) (xs := linesM x) (fun k σ G' H' => ∃ a4 a5 a6, σ = [some v, some tv, some jv, some (.ref pa), a4, a5, a6] ∧ Gr M0 G H G' H' ∧ Ml G' H' pa (((linesM x).take k).flatMap fun lm => ((rng (lm.2 + 1) x.1).filter fun c => decide ((lm.1, c) ∈ linesM x) && decide ((lm.2, c) ∈ linesM x)).map fun c => (⟨lm.1, lm.2, c⟩ : T3)) ∧ (((linesM x).take k).flatMap fun lm => ((rng (lm.2 + 1) x.1).filter fun c => decide ((lm.1, c) ∈ linesM x) && decide ((lm.2, c) ∈ linesM x)).map fun c => (⟨lm.1, lm.2, c⟩ : T3)).length ≤ k * 40) (ei_list (ev_var rfl rt3)) s3 ?_ ?_ ?_
  · intro G4 H4 g4
    exact ⟨_, _, _, rfl, gd.trans g4, ml.step0 g4, Nat.le_refl _⟩
  · intro k lm v4 σ' G4 H4 G5 H5 hk e1 e2 hP g5 r5
    obtain ⟨a4, a5, a6, rfl, gr4, ml4, hl4⟩ := hP
    have hkl : k < (linesM x).length := (List.getElem?_eq_some_iff.mp hk).1
    have hlm := line_lt hp (q := lm) (by rw [← lines_eq (by omega)]; exact List.mem_of_getElem? hk)
    refine gp r5 g5.i (fun u1 w1 ru1 rw1 => ?_)
    cases ru1; cases rw1
    have sG : Same G3 G5 := e1.trans g5.g
    have r5' := Rep.mono sG r3
    have rj5 := Rep.mono sG rj3
    refine st_for (G := G5) (xs := rng (lm.2 + 1) x.1) (fun j σ G' H' => ∃ a6, σ = [some v, some tv, some jv, some (.ref pa), some (.int lm.1), some (.int lm.2), a6] ∧ Gr M0 G H G' H' ∧ Ml G' H' pa ((((linesM x).take k).flatMap fun lm => ((rng (lm.2 + 1) x.1).filter fun c => decide ((lm.1, c) ∈ linesM x) && decide ((lm.2, c) ∈ linesM x)).map fun c => (⟨lm.1, lm.2, c⟩ : T3)) ++ ((((rng (lm.2 + 1) x.1).take j).filter fun c => decide ((lm.1, c) ∈ linesM x) && decide ((lm.2, c) ∈ linesM x)).map fun c => (⟨lm.1, lm.2, c⟩ : T3)))) (ei_r2 (ev_add (ev_var rfl rfl) ev_int) (ev_fst (ev_var rfl r5')) (by omega)) g5.i ?_ ?_ ?_
    · intro G6 H6 g6
      exact ⟨_, rfl, (gr4.trans g5).trans g6, by rw [List.take_zero]; simpa using (ml4.step0 g5).step0 g6⟩
    · intro j c v6 σ' G6 H6 G7 H7 hj e3 e4 hP g7 r7
      obtain ⟨a6, rfl, gr6, ml6⟩ := hP
      cases r7
      refine gn ?_
      have sG7 : Same G3 G7 := sG.trans (e3.trans g7.g)
      have rj7 := Rep.mono sG7 rj3
      have ht : (rng (lm.2 + 1) x.1).take (j + 1) = (rng (lm.2 + 1) x.1).take j ++ [c] := by rw [List.take_add_one, hj]; rfl
      have hlr : ((rng (lm.2 + 1) x.1).take j).length ≤ 40 := by rw [List.length_take, rng_len]; omega
      refine st_if (G := G7) (et_and (et_B (ev_inP (P := P) (w := w) (ev_tup2 (x := lm.1) (y := c) (ev_var rfl rfl) (ev_var rfl rfl)) (ev_var rfl rj7))) (fun _ => et_B (ev_inP (P := P) (w := w) (ev_tup2 (x := lm.2) (y := c) (ev_var rfl rfl) (ev_var rfl rfl)) (ev_var rfl rj7)))) g7.i (fun hb G8 H8 g8 => ?_) (fun hb G8 H8 g8 => ?_)
      · refine st_append (G := G8) (i := 3) (p := pa) (x := (⟨lm.1, lm.2, c⟩ : T3)) rfl ((ml6.step0 g7).step0 g8) (ev_tup3 (ev_var rfl rfl) (ev_var rfl rfl) (ev_var rfl rfl)) g8.i ?_ (fun G9 H9 o9 g9 ml9 s9 => ?_)
        · rw [List.length_append, List.length_map]
          have := List.length_filter_le (fun c => decide ((lm.1, c) ∈ linesM x) && decide ((lm.2, c) ∈ linesM x)) ((rng (lm.2 + 1) x.1).take j)
          omega
        · refine ⟨G9, (g7.g.trans g8.g).trans g9.g, s9, _, rfl, (((gr6.trans g7).trans g8).trans g9).mut (.inl nH) ml9.1, ?_⟩
          rw [ht, List.filter_append, List.map_append, ← List.append_assoc]
          rw [show List.filter (fun c => decide ((lm.1, c) ∈ linesM x) && decide ((lm.2, c) ∈ linesM x)) [c] = [c] by rw [List.filter_cons, if_pos hb]; rfl]
          exact ml9
      · refine ⟨G8, g7.g.trans g8.g, g8.i, _, rfl, (gr6.trans g7).trans g8, ?_⟩
        rw [ht, List.filter_append, List.map_append, ← List.append_assoc]
        rw [show List.filter (fun c => decide ((lm.1, c) ∈ linesM x) && decide ((lm.2, c) ∈ linesM x)) [c] = [] by rw [List.filter_cons, if_neg (by rw [hb]; exact Bool.false_ne_true)]; rfl]
        simpa using (ml6.step0 g7).step0 g8
    · intro σ' G6 H6 e3 e4 hP
      obtain ⟨a6, rfl, gr6, ml6⟩ := hP
      rw [List.take_length] at ml6
      refine ⟨G6, g5.g.trans e3, e4, _, _, _, rfl, gr6, ?_, ?_⟩
      · rw [List.take_add_one, hk, List.flatMap_append]
        simpa using ml6
      · rw [List.take_add_one, hk, List.flatMap_append, List.length_append]
        have := List.length_filter_le (fun c => decide ((lm.1, c) ∈ linesM x) && decide ((lm.2, c) ∈ linesM x)) (rng (lm.2 + 1) x.1)
        rw [rng_len] at this
        simp only [Option.toList_some, List.flatMap_cons, List.flatMap_nil, List.append_nil, List.length_map]
        omega
  · intro σ' G4 H4 e1 e2 hP
    obtain ⟨a4, a5, a6, rfl, gr4, ml4, hl4⟩ := hP
    rw [List.take_length] at ml4
    exact ⟨.ref pa, rfl, q pa G4 H4 gr4 nH ml4⟩
end

section
variable {P : Program} {w : World} {K : Fg} {mg : Str → Option Value} {base : Heap}
theorem q_partsN (T : Tg K mg) : Df P w K mg base 5 "parts" ["plan"] (spL1 (fun (p : Plan) => isPlanM p = true) partsM) := by
  obtain ⟨_, m1⟩ := T.LEAST_FACES
  obtain ⟨_, m2⟩ := T.MOST_FACES
  exact d_parts T.parts T.lines T.check_plan T.low_first T.is_plan T.is_cut T.rising T.crossing m1 m2 T.bl
theorem q_parts (T : Tg K mg) : Df P w K mg base 5 "parts" ["plan"] (sp1 (fun (p : Plan) => isPlanM p = true) partsM) := (q_partsN T).imp spL1_sp1
theorem q_thirds_of (T : Tg K mg) : Df P w K mg base 6 "thirds_of" ["plan"] (sp1 (fun (p : Plan) => isPlanM p = true) thirdsM) := by
  refine T.thirds_of.ok sc_thirds_of (fun vs H Q E h => ?_) (fun cdv f A outer s H vs Q E hr h => ?_)
  · obtain ⟨v, x, G, rfl, _⟩ := h
    rfl
  obtain ⟨v, x, G, rfl, i, r1, hp, q⟩ := h
  have bl := T.bl
  have hpl := parts_len hp
  have vp := plan_facts hp
  refine ⟨_, (pss_cons (ps_set (i := 1) sc_thirds_of.nd rfl (by first | exact .inl rfl | exact .inr rfl) pe_dnewT)
    (pss_cons (ps_for PassesOwn.never rfl (pi_listK (K := K) rfl (pe_df (q_parts T) hr (by first | decide | omega) (by rfl) (pa_cons (pv 0) pa_nil))) (pg_tupK (K := K) (n := 3) rfl (pg_tup rfl (pgs_cons (pg_name (i := 2) sc_thirds_of.nd rfl (by first | exact .inl rfl | exact .inr rfl)) (pgs_cons (pg_name (i := 3) sc_thirds_of.nd rfl (by first | exact .inl rfl | exact .inr rfl)) (pgs_cons (pg_name (i := 4) sc_thirds_of.nd rfl (by first | exact .inl rfl | exact .inr rfl)) pgs_nil)))))
      (pss_cons (ps_dput (hu_of hr) (pv 1) (pe_tup (pa_cons (pv 2) (pa_cons (pv 4) pa_nil))) (pv 3) rfl)
      (pss_cons (ps_dput (hu_of hr) (pv 1) (pe_tup (pa_cons (pv 3) (pa_cons (pv 2) pa_nil))) (pv 4) rfl)
      (pss_one (ps_dput (hu_of hr) (pv 1) (pe_tup (pa_cons (pv 4) (pa_cons (pv 3) pa_nil))) (pv 2) rfl)))))
    (pss_one (ps_ret (pv 1))))), ?_⟩
  refine sq_newT (κ := Int × Int) (α := Int) (G := G) i (fun d o nd md sd => ?_)
  have gd : Gr M0 G H G (upd H d o) := (Gr.refl i).mut (.inl nd) (up_none i nd)
  refine sq_for (G := G) (xs := partsM x) (fun k σ G' H' => ∃ a2 a3 a4, σ = [some v, some (.ref d), a2, a3, a4] ∧ Gr M0 G H G' H' ∧ Mt G' H' d (putAll (((partsM x).take k).flatMap puts3) [])) (ei_list (ev_call1 (ev_var rfl r1) hp)) sd ?_ ?_ ?_
  · intro G1 H1 g1
    exact ⟨_, _, _, rfl, gd.trans g1, md.step0 g1⟩
  · intro k q' v' σ' G1 H1 G2 H2 hk e1 e2 hP g2 r2
    obtain ⟨a2, a3, a4, rfl, gr, md1⟩ := hP
    have hkl : k < (partsM x).length := (List.getElem?_eq_some_iff.mp hk).1
    have hlen : (putAll (((partsM x).take k).flatMap puts3) []).length ≤ 3 * k := by
      refine Nat.le_trans (putAll_len _ _) ?_
      rw [List.length_nil, Nat.zero_add, fm_len (m := 3) (fun _ _ => rfl), List.length_take]
      omega
    refine g3 r2 g2.i (fun u1 w1 z1 ru1 rw1 rz1 => ?_)
    cases ru1; cases rw1; cases rz1
    have l1 := put_len (putAll (((partsM x).take k).flatMap puts3) []) (q'.a, q'.c) q'.b
    have l2 := put_len (put (putAll (((partsM x).take k).flatMap puts3) []) (q'.a, q'.c) q'.b) (q'.b, q'.a) q'.c
    refine sq_tput (G := G2) (i := 1) (p := (q'.a, q'.c)) (x := q'.b) rfl (md1.step0 g2) g2.i ((ev_var rfl rfl).at g2.i) (ev_tup2 (ev_var rfl rfl) (ev_var rfl rfl)) (by omega) (fun G3 H3 o3 g3 md3 s3 => ?_)
    refine sq_tput (G := G3) (i := 1) (p := (q'.b, q'.a)) (x := q'.c) rfl md3 s3 ((ev_var rfl rfl).at s3) (ev_tup2 (ev_var rfl rfl) (ev_var rfl rfl)) (by omega) (fun G4 H4 o4 g4 md4 s4 => ?_)
    refine st_tput (G := G4) (i := 1) (p := (q'.c, q'.b)) (x := q'.a) rfl md4 s4 ((ev_var rfl rfl).at s4) (ev_tup2 (ev_var rfl rfl) (ev_var rfl rfl)) (by omega) (fun G5 H5 o5 g5 md5 s5 => ?_)
    refine ⟨G5, ((g2.g.trans g3.g).trans g4.g).trans g5.g, s5, _, _, _, rfl, ((((((gr.trans g2).trans g3).mut (.inl nd) md3.1).trans g4).mut (.inl nd) md4.1).trans g5).mut (.inl nd) md5.1, ?_⟩
    rw [List.take_add_one, hk, List.flatMap_append]
    have e : ([q'] : List T3).flatMap puts3 = [((q'.a, q'.c), q'.b)] ++ [((q'.b, q'.a), q'.c)] ++ [((q'.c, q'.b), q'.a)] := rfl
    show Mt G5 (upd H5 d o5) d (putAll (((partsM x).take k).flatMap puts3 ++ ([q'] : List T3).flatMap puts3) [])
    rw [e, ← List.append_assoc, ← List.append_assoc, putAll_snoc, putAll_snoc, putAll_snoc]
    exact md5
  · intro σ' G1 H1 e1 e2 hP
    obtain ⟨a2, a3, a4, rfl, gr, md1⟩ := hP
    rw [List.take_length] at md1
    obtain ⟨G4, g4, r4, s4⟩ := md1.frz gr nd
    exact st_ret (G := G4) (ev_var rfl r4) g4.i (fun v' G5 H5 g5 r5 => q v' G5 H5 (g4.trans g5) r5)
end

section
variable {P : Program} {w : World} {K : Fg} {mg : Str → Option Value} {base : Heap}
theorem q_order (T : Tg K mg) (p : Plan) (hp : isPlanM p = true) : ∀ n : Nat, Df P w K mg base (n + 1) "order_of_stack" ["thirds", "start", "end", "straight"] (sp4 (fun (d : Dct (Int × Int) Int) (s e : Int) (_ : Bool) => d = thirdsM p ∧ Jn p s e ∧ (e - s) % p.1 ≤ n) (fun _ s e b => ordN p n s e b)) := by
  intro n
  induction n with
  | zero =>
    refine T.order_of_stack.ok sc_order_of_stack (fun vs H Q E h => ?_) (fun cdv f A outer s H vs Q E hr h => ?_)
    · obtain ⟨v, x, v2, x2, v3, x3, v4, x4, G, rfl, _⟩ := h
      rfl
    obtain ⟨v, x, v2, x2, v3, x3, v4, x4, G, rfl, i, r1, r2, r3, r4, ⟨_, hj, hk⟩, q⟩ := h
    have ne := hj.ne hp
    rw [arc_w (by omega) (by omega)] at hk
    exfalso
    split at hk <;> omega
  | succ n ih =>
    refine T.order_of_stack.ok sc_order_of_stack (fun vs H Q E h => ?_) (fun cdv f A outer s H vs Q E hr h => ?_)
    · obtain ⟨v, x, v2, x2, v3, x3, v4, x4, G, rfl, _⟩ := h
      rfl
    obtain ⟨v, x, v2, x2, v3, x3, v4, x4, G, rfl, i, r1, r2, r3, r4, ⟨rfl, hj, hk⟩, q⟩ := h
    cases r2; cases r3; cases r4
    have bl := T.bl
    have ne := hj.ne hp
    refine ⟨_, (pss_cons (ps_set (i := 4) sc_order_of_stack.nd rfl (by first | exact .inl rfl | exact .inr rfl) (pe_dget1 (hu_of hr) (pv 0) (pe_tup (pa_cons (pv 1) (pa_cons (pv 2) pa_nil))) ⟨rfl, rfl, rfl, rfl⟩))
    (pss_cons (ps_if (pt_cmpR op_isN (pv 4) pe_non (nomark _))
      (pss_one (ps_ret (pe_lst (pa_cons (pv 1) pa_nil))))
      pss_nil)
    (pss_cons (ps_set (i := 5) sc_order_of_stack.nd rfl (by first | exact .inl rfl | exact .inr rfl) (pe_df ih hr (by first | decide | omega) (by rfl) (pa_cons (pv 0) (pa_cons (pv 1) (pa_cons (pv 4) (pa_cons (pe_not (pv 3)) pa_nil))))))
    (pss_cons (ps_set (i := 6) sc_order_of_stack.nd rfl (by first | exact .inl rfl | exact .inr rfl) (pe_df ih hr (by first | decide | omega) (by rfl) (pa_cons (pv 0) (pa_cons (pv 4) (pa_cons (pv 2) (pa_cons (pe_not (pv 3)) pa_nil))))))
    (pss_cons (ps_if (pt_val (pv 3))
      (pss_one (ps_ret (pe_op op_cat (pv 5) (pv 6))))
      pss_nil)
    (pss_one (ps_ret (pe_op op_cat (pv 6) (pv 5))))))))), ?_⟩
    refine sq_set (G := G) (ev_tget1 (ev_var rfl r1) (ev_tup2 (x := x2) (y := x3) (ev_var rfl rfl) (ev_var rfl rfl))) i (fun cv G1 H1 g1 rc => ?_)
    cases z : look (thirdsM p).l (x2, x3) with
    | none =>
      rw [z] at rc
      refine sq_ifn (G := G1) (et_test (ev_isON (ev_var rfl rc))) g1.i (fun hb G2 H2 g2 => ?_) (fun hb _ _ _ => ?_)
      · refine st_retC (y := ordN p (n + 1) x2 x3 x4) (G := G2) (ev_lst (evs_cons (ev_var rfl rfl) evs_nil) (show 1 ≤ 100000 by decide)) g2.i ?_ (fun v G' H' g r => q v G' H' ((g1.trans g2).trans g) r)
        unfold ordN
        rw [z]
      · cases hb
    | some c =>
      rw [z] at rc
      have t := (look_thirds hp).mp z
      have n1 := t.sv.ne hp
      obtain ⟨w1, w2, w3⟩ := cy_w (n := p.1) (by omega) (by omega) (by omega) t.cy
      refine sq_ifn (G := G1) (et_test (ev_isON (ev_var rfl rc))) g1.i (fun hb _ _ _ => ?_) (fun hb G2 H2 g2 => ?_)
      · cases hb
      cases rc
      have r12 := Rep.mono (g1.g.trans g2.g) r1
      refine sq_set (G := G2) (x := ordN p n x2 c (!x4)) (ev_call4 (f := fun _ s e b => ordN p n s e b) (ev_var rfl r12) (ev_var rfl rfl) (ev_var rfl rfl) (ev_notV (ev_var rfl rfl)) ⟨rfl, t.sv, by omega⟩) g2.i (fun fv G3 H3 g3 rf => ?_)
      have r13 := Rep.mono g3.g r12
      refine sq_set (G := G3) (x := ordN p n c x3 (!x4)) (ev_call4 (f := fun _ s e b => ordN p n s e b) (ev_var rfl r13) (ev_var rfl rfl) (ev_var rfl rfl) (ev_notV (ev_var rfl rfl)) ⟨rfl, t.ve, by omega⟩) g3.i (fun sv G4 H4 g4 rs => ?_)
      have rf4 := Rep.mono g4.g rf
      have l1 := ordN_len hp (k := n) (b := !x4) t.sv (by omega)
      have l2 := ordN_len hp (k := n) (b := !x4) t.ve (by omega)
      have ge := ((g1.trans g2).trans g3).trans g4
      refine sq_ifn (G := G4) (et_B (ev_var rfl rfl)) g4.i (fun hb G5 H5 g5 => ?_) (fun hb G5 H5 g5 => ?_)
      · refine st_retC (y := ordN p (n + 1) x2 x3 x4) (G := G5) (ev_catL (ev_var rfl (Rep.mono g5.g rf4)) (ev_var rfl (Rep.mono g5.g rs)) (by omega)) g5.i ?_ (fun v G' H' g r => q v G' H' ((ge.trans g5).trans g) r)
        rw [hb]
        conv => rhs; unfold ordN
        rw [z]
        rfl
      · refine st_retC (y := ordN p (n + 1) x2 x3 x4) (G := G5) (ev_catL (ev_var rfl (Rep.mono g5.g rs)) (ev_var rfl (Rep.mono g5.g rf4)) (by omega)) g5.i ?_ (fun v G' H' g r => q v G' H' ((ge.trans g5).trans g) r)
        rw [hb]
        conv => rhs; unfold ordN
        rw [z]
        rfl
theorem q_strip_orderN (T : Tg K mg) : Df P w K mg base 42 "strip_order" ["plan"] (spL1 (fun (p : Plan) => isPlanM p = true) ordM) := by
  refine T.strip_order.ok sc_strip_order (fun vs H Q E h => ?_) (fun cdv f A outer s H vs Q E hr h => ?_)
  · obtain ⟨v, x, G, rfl, _⟩ := h
    rfl
  obtain ⟨v, x, G, rfl, i, r1, hp, q⟩ := h
  have bl := T.bl
  obtain ⟨h3, h40, _⟩ := plan_facts hp
  have D40 := q_order (P := P) (w := w) (base := base) T x hp 40
  have hk : ((0 : Int) - 1) % x.1 ≤ (40 : Nat) := by rw [arc_w (by omega) (by omega)]; split <;> omega
  refine ⟨_, (pss_one (ps_ret (pe_op op_cat (pe_lst (pa_cons pe_int pa_nil)) (pe_df D40 hr (by first | decide | omega) (by rfl) (pa_cons (pe_df (q_thirds_of T) hr (by first | decide | omega) (by rfl) (pa_cons (pv 0) pa_nil)) (pa_cons pe_int (pa_cons pe_int (pa_cons pe_bl pa_nil)))))))), ?_⟩
  exact st_retN (G := G) (en_catL (xs := [0]) (ys := ordN x 40 1 0 true) (ev_lst (evs_cons ev_int evs_nil) (show 1 ≤ 100000 by decide)) (ev_call4 (f := fun _ s e b => ordN x 40 s e b) (ev_call1 (f := thirdsM) (ev_var rfl r1) hp) ev_int ev_int ev_bl ⟨rfl, jn_10 hp, hk⟩) (by have := ordN_len hp (k := 40) (b := true) (jn_10 hp) hk; show 1 + _ ≤ _; omega)) i (fun p' G' H' g np m => q p' G' H' g np m)
theorem q_strip_order (T : Tg K mg) : Df P w K mg base 42 "strip_order" ["plan"] (sp1 (fun (p : Plan) => isPlanM p = true) ordM) := (q_strip_orderN T).imp spL1_sp1
end

section
variable {P : Program} {w : World} {K : Fg} {mg : Str → Option Value} {base : Heap}
theorem q_stacksN (T : Tg K mg) : Df P w K mg base 6 "stacks" ["plan", "place"] (spPL2 (fun (p : Plan) (s : Int × Int) => isPlanM p = true ∧ Jn p s.1 s.2) (fun p s => arc p.1 s.1 s.2) (fun p s => oddM p.1 s.1 s.2)) := by
  refine T.stacks.ok sc_stacks (fun vs H Q E h => ?_) (fun cdv f A outer s H vs Q E hr h => ?_)
  · obtain ⟨v, x, v2, x2, G, rfl, _⟩ := h
    rfl
  obtain ⟨v, x, v2, x2, G, rfl, i, r1, r2, hp, q⟩ := h
  have bl := T.bl
  have ne := hp.2.ne hp.1
  have vp := plan_facts hp.1
  refine ⟨_, (pss_cons (ps_expr (pe_df (q_check_place T) hr (by first | decide | omega) (by rfl) (pa_cons (pv 0) (pa_cons (pv 1) pa_nil))))
    (pss_cons (ps_asg (pv 1) (pg_tupK (K := K) (n := 2) rfl (pg_tup rfl (pgs_cons (pg_name (i := 2) sc_stacks.nd rfl (by first | exact .inl rfl | exact .inr rfl)) (pgs_cons (pg_name (i := 3) sc_stacks.nd rfl (by first | exact .inl rfl | exact .inr rfl)) pgs_nil)))))
    (pss_cons (ps_set (i := 4) sc_stacks.nd rfl (by first | exact .inl rfl | exact .inr rfl) (pe_ix (ix_tupK (K := K) rfl) (pv 0) pe_int (fun _ _ => rfl)))
    (pss_cons (ps_setLc (i := 5) (own := [("step", 6)]) rfl sc_stacks.nd rfl rfl (sw_true rfl rfl rfl (by decide +kernel)) (pi_range1 (by rfl) (bl "range" (by decide)) (pa_cons (pe_op op_mod (pe_op op_sub (pv 3) (pv 2)) (pv 4)) pa_nil)) (blkOk_by (own := [("step", 6)]) (N := N_stacks) (sc := defScope s_stacks) (by decide +kernel)) (fun _ _ _ _ _ => (pg_name (i := 6) sc_stacks.nd rfl (by first | exact .inl rfl | exact .inr rfl))) (fun _ _ _ _ _ => pts_nil) (fun _ _ _ _ _ => (pe_op op_mod (pe_op op_add (pv 2) (pv 6)) (pv 4))))
    (pss_cons (ps_setLc (i := 7) (own := [("step", 6)]) rfl sc_stacks.nd rfl rfl (sw_true rfl rfl rfl (by decide +kernel)) (pi_range1 (by rfl) (bl "range" (by decide)) (pa_cons (pe_op op_mod (pe_op op_sub (pv 2) (pv 3)) (pv 4)) pa_nil)) (blkOk_by (own := [("step", 6)]) (N := N_stacks) (sc := defScope s_stacks) (by decide +kernel)) (fun _ _ _ _ _ => (pg_name (i := 6) sc_stacks.nd rfl (by first | exact .inl rfl | exact .inr rfl))) (fun _ _ _ _ _ => pts_nil) (fun _ _ _ _ _ => (pe_op op_mod (pe_op op_sub (pe_op op_sub (pv 2) pe_int) (pv 6)) (pv 4))))
    (pss_one (ps_ret (pe_tup (pa_cons (pv 5) (pa_cons (pv 7) pa_nil)))))))))), ?_⟩
  refine sq_drop (G := G) (ev_call2 (ev_var rfl r1) (ev_var rfl r2) hp) i (fun G1 H1 g1 => ?_)
  refine sq_pair (G := G1) (x := x2) (ev_var rfl (Rep.mono g1.g r2)) g1.i (fun u w G2 H2 g2 ru rw => ?_)
  cases ru; cases rw
  refine sq_set (G := G2) (ev_fst (ev_var rfl (Rep.mono (g1.g.trans g2.g) r1))) g2.i (fun fv G3 H3 g3 rf => ?_)
  cases rf
  have g03 : Gr M0 G H G3 H3 := (g1.trans g2).trans g3
  have b1 := Int.emod_lt_of_pos (x2.2 - x2.1) (show 0 < x.1 by omega)
  have b1' := Int.emod_nonneg (x2.2 - x2.1) (show x.1 ≠ 0 by omega)
  have b2 := Int.emod_lt_of_pos (x2.1 - x2.2) (show 0 < x.1 by omega)
  have b2' := Int.emod_nonneg (x2.1 - x2.2) (show x.1 ≠ 0 by omega)
  refine sq_setN (G := G3) (en_lc (f := fun k : Int => (x2.1 + k) % x.1) (ei_r1 (ev_mod (ev_sub (ev_var rfl rfl) (ev_var rfl rfl)) (ev_var rfl rfl) (by omega)) (by omega)) (by rw [rng_len]; omega) ?_) g3.i (fun p1 G4 H4 g4 np1 ml1 => ?_)
  · intro c hc v1 G5 s5 rc
    exact gb_name ⟨rfl, ev_mod (ev_add (ev_var rfl rfl) (ev_var rfl rc)) (ev_var rfl rfl) (by omega)⟩
  refine sq_setN (G := G4) (en_lc (f := fun k : Int => (x2.1 - 1 - k) % x.1) (ei_r1 (ev_mod (ev_sub (ev_var rfl rfl) (ev_var rfl rfl)) (ev_var rfl rfl) (by omega)) (by omega)) (by rw [rng_len]; omega) ?_) g4.i (fun p2 G5 H5 g5 np2 ml2 => ?_)
  · intro c hc v1 G6 s6 rc
    exact gb_name ⟨rfl, ev_mod (ev_sub (ev_sub (ev_var rfl rfl) ev_int) (ev_var rfl rc)) (ev_var rfl rfl) (by omega)⟩
  have ml1' := ml1.step0 g5
  have ne12 : p1 ≠ p2 := by
    obtain ⟨_, us, eu, _⟩ := ml1
    exact ne_of_none eu np2
  have g05 := (g03.trans g4).trans g5
  refine ⟨.ref p1, rfl, .ref p2, rfl, by show 2 ≤ sizeLine; decide, fun t nt => ?_⟩
  have nGt := up_none g05.i nt
  have e1 : p1 ≠ t := by obtain ⟨_, us, eu, _⟩ := ml1'; exact ne_of_none eu nt
  have e2 : p2 ≠ t := by obtain ⟨_, us, eu, _⟩ := ml2; exact ne_of_none eu nt
  exact q t p1 p2 G5 _ (g05.mut (.inl (up_none g05.same nt)) nGt) ne12 (ml1'.other e1) (ml2.other e2) nGt (up_none g05.same nt) upd_same (up_none g03.same np1) (up_none (g03.trans g4).same np2)
end

section
variable {P : Program} {w : World} {K : Fg} {mg : Str → Option Value} {base : Heap}
theorem q_hands_of (T : Tg K mg) (O : OthHd w K mg) : Df P w K mg base 1 "hands_of" ["thirds"] spHands := by
  obtain ⟨a_OTHER_HAND, m_OTHER_HAND, kr, kl⟩ := O
  refine T.hands_of.ok sc_hands_of (fun vs H Q E h => ?_) (fun cdv f A outer s H vs Q E hr h => ?_)
  · obtain ⟨v, p, G, rfl, _⟩ := h
    rfl
  obtain ⟨v, pl, G, rfl, i, rt, hp, q⟩ := h
  have bl := T.bl
  refine ⟨_, (pss_cons (ps_set (i := 1) sc_hands_of.nd rfl (by first | exact .inl rfl | exact .inr rfl) pe_dnewT)
    (pss_cons (ps_set (i := 2) sc_hands_of.nd rfl (by first | exact .inl rfl | exact .inr rfl) (pe_lst (pa_cons (pe_tup (pa_cons (pe_tup (pa_cons pe_int (pa_cons pe_int pa_nil))) (pa_cons pe_str pa_nil))) pa_nil)))
    (pss_cons (ps_while PassesOwn.never (pt_truth (pv 2) (by intro _; rfl))
      (pss_cons (ps_asg (pe_bm0 PySem.F.plainAttrs_list PySem.F.slot_list_pop PySem.F.type_list_pop mt_pop (pv 2)) (pg_tupK (K := K) (n := 2) rfl (pg_tup rfl (pgs_cons (pg_tupK (K := K) (n := 2) rfl (pg_tup rfl (pgs_cons (pg_name (i := 3) sc_hands_of.nd rfl (by first | exact .inl rfl | exact .inr rfl)) (pgs_cons (pg_name (i := 4) sc_hands_of.nd rfl (by first | exact .inl rfl | exact .inr rfl)) pgs_nil)))) (pgs_cons (pg_name (i := 5) sc_hands_of.nd rfl (by first | exact .inl rfl | exact .inr rfl)) pgs_nil)))))
      (pss_one (ps_if (PW.pt (pw_and (pt_cmp (pc_din (hu_of hr) (pe_tup (pa_cons (pv 3) (pa_cons (pv 4) pa_nil))) (pv 0)) (by rfl)) (pw_and1 (pt_cmp (pc_dnotin (hu_of hr) (pe_tup (pa_cons (pv 3) (pa_cons (pv 4) pa_nil))) (pv 1)) (by rfl)))))
        (pss_cons (ps_dput (hu_of hr) (pv 1) (pe_tup (pa_cons (pv 3) (pa_cons (pv 4) pa_nil))) (pv 5) rfl)
        (pss_cons (ps_expr (pe_bm PySem.F.plainAttrs_list PySem.F.slot_list_append PySem.F.type_list_append mt_append (pv 2) (pa_cons (pe_tup (pa_cons (pe_tup (pa_cons (pe_dget (hu_of hr) (pv 0) (pe_tup (pa_cons (pv 3) (pa_cons (pv 4) pa_nil))) (fun _ _ => rfl)) (pa_cons (pv 3) pa_nil))) (pa_cons (pv 5) pa_nil))) pa_nil)))
        (pss_one (ps_expr (pe_bm PySem.F.plainAttrs_list PySem.F.slot_list_append PySem.F.type_list_append mt_append (pv 2) (pa_cons (pe_tup (pa_cons (pe_tup (pa_cons (pv 4) (pa_cons (pv 3) pa_nil))) (pa_cons (pe_ix ix_kdict (pe_glob (v := .ref a_OTHER_HAND) (by rfl) m_OTHER_HAND rfl) (pv 5) (fun _ _ => rfl)) pa_nil))) pa_nil))))))
        pss_nil))))
    (pss_one (ps_ret (pv 1)))))), ?_⟩
  refine sq_newT (κ := Int × Int) (α := Str) (G := G) i (fun d o nd md s1 => ?_)
  have gd : Gr M0 G H G (upd H d o) := (Gr.refl i).mut (.inl nd) (up_none i nd)
  refine sq_newlist (α := (Int × Int) × Str) (G := G) (xs := [((1, 0), "r")]) (evs_cons (ev_tup2 (ev_tup2 ev_int ev_int) ev_str) evs_nil) s1 (by decide) (fun wl G2 H2 o2 g2 nw ml s2 => ?_)
  have ne : d ≠ wl := by
    obtain ⟨_, kvs, e, _⟩ := md.step0 g2
    exact ne_of_none e nw
  have ndH : H d = none := nd
  have nwH : H wl = none := up_none gd.same (up_none g2.same nw)
  have md2 : Mt G2 (upd H2 wl o2) d ([] : HL) := (md.step0 g2).other ne
  have gr2 : Gr M0 G H G2 (upd H2 wl o2) := (gd.trans g2).mut (.inl nwH) (up_none g2.i nw)
  refine sq_whileR (G := G2) (fun m σ G' H' => ∃ (l ws : HL) (a3 a4 a5 : Option V), σ = [some v, some (.ref d), some (.ref wl), a3, a4, a5] ∧ Gr M0 G H G' H' ∧ Mt G' H' d l ∧ Ml G' H' wl ws ∧ HInv pl l ws ∧ m = 3 * ((thirdsM pl).l.length - l.length) + ws.length ∧ ws.length ≤ 1 + 2 * l.length) (m0 := 3 * (thirdsM pl).l.length + 1) ⟨[], [((1, 0), "r")], none, none, none, rfl, gr2, md2, ml, HInv.init hp, rfl, by decide⟩ s2 ?_
  rintro m σ' G' H' s3 i3 ⟨l, ws, a3, a4, a5, rfl, gr, mdl, mlw, I, hm, hwl⟩
  have hll := I.len hp
  have ht := thirds_len hp
  refine ⟨!ws.isEmpty, fun Q hQ => ⟨.ref wl, rfl, !ws.isEmpty, .inl ?_, hQ⟩, fun hb => ?_, fun hb => ?_⟩
  · obtain ⟨_, us, e, pr⟩ := mlw
    refine ⟨us, .inl (.inl e), ?_⟩
    cases pr <;> rfl
  · obtain ⟨ws', x, rfl⟩ : ∃ ws' x, ws = ws' ++ [x] := by
      have hne : ws ≠ [] := fun z => by rw [z] at hb; cases hb
      exact snoc_of hne
    obtain ⟨⟨s0, e0⟩, hd⟩ := x
    obtain ⟨us, y, e1, e2, ry, mlp⟩ := ml_pop mlw
    obtain ⟨nwl, _⟩ := mlw
    refine ⟨.ref wl, rfl, .inl ⟨rfl, us, .inl (.inl e1)⟩, wl, us, y, rfl, rfl, e1, e2, ?_⟩
    have mdp : Mt G' (upd H' wl (.lst us.dropLast)) d l := mdl.other ne
    have sp : Same G' (upd H' wl (.lst us.dropLast)) := same_mut i3 nwl
    have grp : Gr M0 G H G' (upd H' wl (.lst us.dropLast)) := gr.mut (.inl nwH) nwl
    generalize upd H' wl (.lst us.dropLast) = H4 at mlp mdp sp grp
    refine gp21 ry sp (fun u1 u2 u3 r1 r2 r3 => ?_)
    cases r1; cases r2; cases r3
    have rtp := Rep.mono grp.g rt
    obtain ⟨o4, eo4, s4, i4, rd4⟩ := mdp.rep sp
    have hin : (look (thirdsM pl).l (s0, e0)).isSome = true ↔ Has pl s0 e0 := by
      constructor
      · intro z
        obtain ⟨c, hc⟩ := Option.isSome_iff_exists.mp z
        exact ⟨c, (look_thirds hp).mp hc⟩
      · rintro ⟨c, t⟩
        rw [(look_thirds hp).mpr t]; rfl
    refine st_ifF (G := G') (et_and (et_test (ev_tin (p := (s0, e0)) (d := thirdsM pl) (ev_tup2 (x := s0) (y := e0) (ev_var rfl rfl) (ev_var rfl rfl)) (ev_var rfl (Rep.mono s4 rtp)))) (fun _ => et_test (ev_tnotin (p := (s0, e0)) (d := Dct.mk l) (ev_tup2 (x := s0) (y := e0) (ev_var rfl rfl) (ev_var rfl rfl)) (ev_var rfl rd4)))) i4 sp (fun hc H5 g5 s5 => ?_) (fun hc H5 g5 s5 => ?_)
    · rw [Bool.and_eq_true] at hc
      obtain ⟨c, t⟩ := hin.mp hc.1
      have hn : look l (s0, e0) = none := by
        cases z : look l (s0, e0) with
        | none => rfl
        | some w => have q := hc.2; rw [show (Dct.mk l).l = l from rfl, z] at q; cases q
      obtain ⟨hh, I2⟩ := I.add hp t hn
      have md5 := mdp.step0 g5
      have ml5 := mlp.step0 g5
      have rt5 := rtp
      refine sq_tput (G := G') (i := 1) (p := (s0, e0)) (x := hd) rfl md5 g5.i ((ev_var (x := hd) rfl rfl).at g5.i) (ev_tup2 (x := s0) (y := e0) (ev_var rfl rfl) (ev_var rfl rfl)) (by omega) (fun G6 H6 o6 g6 md6 s6 => ?_)
      rw [put_newK hn] at md6
      have ml6 : Ml G6 (upd H6 d o6) wl ws' := (ml5.step0 g6).other (fun z => ne z.symm)
      have gr6 : Gr M0 G H G6 (upd H6 d o6) := ((grp.trans g5).trans g6).mut (.inl ndH) md6.1
      generalize upd H6 d o6 = H7 at md6 ml6 s6 gr6
      have rt6 := Rep.mono g6.g rtp
      have hws : ws'.length + 1 ≤ 1 + 2 * l.length := by rw [List.length_append] at hwl; exact hwl
      refine sq_append (G := G6) (i := 2) (x := ((c, s0), hd)) rfl ml6 (ev_tup2 (ev_tup2 (x := c) (y := s0) (ev_tget (d := thirdsM pl) (p := (s0, e0)) (ev_var rfl rt6) (ev_tup2 (x := s0) (y := e0) (ev_var rfl rfl) (ev_var rfl rfl)) ((look_thirds hp).mpr t)) (ev_var rfl rfl)) (ev_var (x := hd) rfl rfl)) s6 (by omega) (fun G8 H8 o8 g8 ml8 s8 => ?_)
      have md8 : Mt G8 (upd H8 wl o8) d (l ++ [((s0, e0), hd)]) := (md6.step0 g8).other ne
      have gr8 : Gr M0 G H G8 (upd H8 wl o8) := (gr6.trans g8).mut (.inl nwH) ml8.1
      generalize upd H8 wl o8 = H9 at md8 ml8 s8 gr8
      refine st_append (G := G8) (i := 2) (x := ((e0, s0), othH hd)) rfl ml8 (ev_tup2 (ev_tup2 (x := e0) (y := s0) (ev_var rfl rfl) (ev_var rfl rfl)) (by rw [hh]; exact ev_othH (b := hnd pl s0 e0 c) (ev_var rfl (by rw [← hh]; rfl)) kr kl)) s8 (by rw [List.length_append]; show ws'.length + 1 < 100000; omega) (fun G10 H10 o10 g10 ml10 s10 => ?_)
      have hle2 := I2.len hp
      rw [List.length_append] at hle2
      have hle2 : l.length + 1 ≤ (thirdsM pl).l.length := hle2
      refine ⟨_, G10, ?_, ((g6.g.trans g8.g).trans g10.g), s10, l ++ [((s0, e0), hd)], ws' ++ [((c, s0), hd)] ++ [((e0, s0), othH hd)], _, _, _, rfl, (gr8.trans g10).mut (.inl nwH) ml10.1, (md8.step0 g10).other ne, ml10, I2, rfl, ?_⟩
      · rw [hm, List.length_append, List.length_append, List.length_append, List.length_append]
        show 3 * ((thirdsM pl).l.length - (l.length + 1)) + (ws'.length + 1 + 1) < 3 * ((thirdsM pl).l.length - l.length) + (ws'.length + 1)
        omega
      · rw [List.length_append, List.length_append, List.length_append]
        show ws'.length + 1 + 1 ≤ 1 + 2 * (l.length + 1)
        omega
    · have hz : (look l (s0, e0)).isSome = true ∨ ¬ Has pl s0 e0 := by
        by_cases z : Has pl s0 e0
        · left
          rw [hin.mpr z, Bool.true_and] at hc
          simpa using hc
        · exact .inr z
      refine ⟨_, G', ?_, Same.refl G', g5.i, l, ws', _, _, _, rfl, grp.trans g5, mdp.step0 g5, mlp.step0 g5, I.skip hp hz, rfl, ?_⟩
      · rw [hm, List.length_append]
        show 3 * ((thirdsM pl).l.length - l.length) + ws'.length < 3 * ((thirdsM pl).l.length - l.length) + (ws'.length + 1)
        omega
      · rw [List.length_append] at hwl
        have : ([((s0, e0), hd)] : HL).length = 1 := rfl
        omega
  · obtain rfl : ws = [] := by
      cases ws with
      | nil => rfl
      | cons _ _ => cases hb
    obtain ⟨G5, g5, r5, s5⟩ := mdl.frz gr ndH
    refine st_ret (G := G5) (x := Dct.mk l) (ev_var rfl r5) g5.i (fun v6 G6 H6 g6 r6 => ?_)
    exact q v6 (Dct.mk l) G6 H6 (I.done hp) (g5.trans g6) r6
end

section
variable {P : Program} {w : World} {K : Fg} {mg : Str → Option Value} {base : Heap}
theorem q_row_of (T : Tg K mg) (O : OthHd w K mg) : Df P w K mg base 43 "row_of" ["plan"] (sp1 (fun (p : Plan) => isPlanM p = true) rowM) := by
  have DH := q_hands_of (P := P) (base := base) T O
  refine T.row_of.ok sc_row_of (fun vs H Q E h => ?_) (fun cdv f A outer s H vs Q E hr h => ?_)
  · obtain ⟨v, x, G, rfl, _⟩ := h
    rfl
  obtain ⟨v, pl, G, rfl, i, r1, hp, q⟩ := h
  have bl := T.bl
  have h40 := (plan_facts hp).2.1
  have h3 := (plan_facts hp).1
  refine ⟨_, (pss_cons (ps_set (i := 1) sc_row_of.nd rfl (by first | exact .inl rfl | exact .inr rfl) (pe_df DH hr (by first | decide | omega) (by rfl) (pa_cons (pe_df (q_thirds_of T) hr (by first | decide | omega) (by rfl) (pa_cons (pv 0) pa_nil)) pa_nil)))
    (pss_cons (ps_set (i := 2) sc_row_of.nd rfl (by first | exact .inl rfl | exact .inr rfl) (pe_ix (ix_tupK (K := K) rfl) (pv 0) pe_int (fun _ _ => rfl)))
    (pss_one (ps_ret (pe_bm PySem.F.plainAttrs_str PySem.F.slot_str_join PySem.F.type_str_join (mt_joinK (K := K) rfl) pe_str (pa_cons (pe_lc (own := [("leaf", 3)]) rfl sc_row_of.nd (pi_listK (K := K) rfl (pe_df (q_strip_order T) hr (by first | decide | omega) (by rfl) (pa_cons (pv 0) pa_nil))) (blkOk_by (own := [("leaf", 3)]) (N := N_row_of) (sc := defScope s_row_of) (by decide +kernel)) (fun _ _ _ _ _ => (pg_name (i := 3) sc_row_of.nd rfl (by first | exact .inl rfl | exact .inr rfl))) (fun _ _ _ _ _ => pts_nil) (fun _ _ _ _ _ => (pe_dget (hu_of hr) (pv 1) (pe_tup (pa_cons (pe_op op_mod (pe_op op_add (pv 3) pe_int) (pv 2)) (pa_cons (pv 3) pa_nil))) (fun _ _ => rfl)))) pa_nil)))))), ?_⟩
  refine (ev_call1 (f := thirdsM) (ev_var (i := 0) rfl r1) hp) H i _ (fun tv G3 H3 g3 rt => ?_)
  refine ⟨tv, pl, G3, rfl, g3.i, rt, hp, fun hv D G4 H4 hD g4 rD => ?_⟩
  refine gn (i := 1) (v := hv) ?_
  have g34 := g3.trans g4
  refine sq_set (G := G4) (ev_fst (ev_var rfl (Rep.mono g34.g r1))) g4.i (fun nv G5 H5 g5 rn => ?_)
  cases rn
  have g35 := g34.trans g5
  have rl := row_len hp
  refine st_ret (G := G5) (x := rowM pl) (ev_joinT (l := rowL pl) (by omega) (Ev.cast (ev_lc (xs := ordM pl) (f := fun k => rlS (leafH pl k)) (ei_list (ev_call1 (f := ordM) (ev_var rfl (Rep.mono g35.g r1)) hp)) (by rw [(ordM_perm hp).length_eq, rng_len]; omega) ?_) (by unfold rowL; rw [List.map_map]; exact List.map_congr_left (fun k _ => rlS_tx _)))) g5.i (fun v' G' H' g r => q v' G' H' (g35.trans g) r)
  intro k hk kv G6 s6 r6
  cases r6
  have hk := (ordM_perm hp).mem_iff.mp hk
  have hk := rng_mem.mp hk
  obtain ⟨c, x, hl⟩ := leaf_part hp hk
  refine gb_name ⟨rfl, ?_⟩
  have hlk := (hD ((k + 1) % pl.1) k).1 c x
  rw [← hl] at hlk
  exact ev_tget (d := D) (p := ((k + 1) % pl.1, k)) (ev_var rfl (Rep.mono (g5.g.trans s6) rD)) (ev_tup2 (x := (k + 1) % pl.1) (y := k) (ev_mod (ev_add (ev_var rfl rfl) ev_int) (ev_var rfl rfl) (by omega)) (ev_var rfl rfl)) hlk
end

section
variable {P : Program} {w : World} {K : Fg} {mg : Str → Option Value} {base : Heap}
theorem q_upright (T : Tg K mg) (O : OthHd w K mg) : Df P w K mg base 7 "upright" ["plan", "place"] (sp2 (fun (p : Plan) (s : Int × Int) => isPlanM p = true ∧ Jn p s.1 s.2) (fun p s => upM p s.1 s.2)) := by
  have DH := q_hands_of (P := P) (base := base) T O
  refine T.upright.ok sc_upright (fun vs H Q E h => ?_) (fun cdv f A outer s H vs Q E hr h => ?_)
  · obtain ⟨v, x, v2, x2, G, rfl, _⟩ := h
    rfl
  obtain ⟨v, x, v2, x2, G, rfl, i, r1, r2, ⟨hp, hj⟩, q⟩ := h
  obtain ⟨t, u⟩ := x2
  have hj : Jn x t u := hj
  have bl := T.bl
  refine ⟨_, (pss_cons (ps_expr (pe_df (q_check_place T) hr (by first | decide | omega) (by rfl) (pa_cons (pv 0) (pa_cons (pv 1) pa_nil))))
    (pss_cons (ps_asg (pv 1) (pg_tupK (K := K) (n := 2) rfl (pg_tup rfl (pgs_cons (pg_name (i := 2) sc_upright.nd rfl (by first | exact .inl rfl | exact .inr rfl)) (pgs_cons (pg_name (i := 3) sc_upright.nd rfl (by first | exact .inl rfl | exact .inr rfl)) pgs_nil)))))
    (pss_cons (ps_set (i := 4) sc_upright.nd rfl (by first | exact .inl rfl | exact .inr rfl) (pe_df DH hr (by first | decide | omega) (by rfl) (pa_cons (pe_df (q_thirds_of T) hr (by first | decide | omega) (by rfl) (pa_cons (pv 0) pa_nil)) pa_nil)))
    (pss_cons (ps_if (pt_cmp (pc_din (hu_of hr) (pe_tup (pa_cons (pv 3) (pa_cons (pv 2) pa_nil))) (pv 4)) (by rfl))
      (pss_one (ps_ret (pe_cmpR op_eq (pe_dget (hu_of hr) (pv 4) (pe_tup (pa_cons (pv 3) (pa_cons (pv 2) pa_nil))) (fun _ _ => rfl)) pe_str (nomark _))))
      pss_nil)
    (pss_one (ps_ret (pe_cmpR op_eq (pe_dget (hu_of hr) (pv 4) (pe_tup (pa_cons (pv 2) (pa_cons (pv 3) pa_nil))) (fun _ _ => rfl)) pe_str (nomark _)))))))), ?_⟩
  refine sq_drop (G := G) (ev_call2 (ev_var rfl r1) (ev_var rfl r2) ⟨hp, hj⟩) i (fun G1 H1 g1 => ?_)
  refine sq_pair (G := G1) (x := ((t, u) : Int × Int)) (ev_var rfl (Rep.mono g1.g r2)) g1.i (fun u1 w1 G2 H2 g2 ru rw => ?_)
  cases ru; cases rw
  have g12 := g1.trans g2
  refine (ev_call1 (f := thirdsM) (ev_var (i := 0) rfl (Rep.mono g12.g r1)) hp) H2 g2.i _ (fun tv G3 H3 g3 rt => ?_)
  refine ⟨tv, x, G3, rfl, g3.i, rt, hp, fun hv D G4 H4 hD g4 rD => ?_⟩
  refine gn (i := 4) (v := hv) ?_
  have g14 := (g12.trans g3).trans g4
  have rlr : ∀ b : Bool, decide (rlS b = ("r" : Str)) = b := by decide +kernel
  have rll : ∀ b : Bool, decide (rlS b = ("l" : Str)) = !b := by decide +kernel
  by_cases hc : ∃ c, Tr x u c t
  · obtain ⟨c, xc⟩ := hc
    have hl := (hD u t).1 c xc
    refine sq_ifn (G := G4) (et_test (ev_tin (p := (u, t)) (d := D) (ev_tup2 (x := u) (y := t) (ev_var rfl rfl) (ev_var rfl rfl)) (ev_var rfl rD))) g4.i (fun _ G5 H5 g5 => ?_) (fun hb _ _ _ => ?_)
    · exact st_retC (y := upM x t u) (G := G5) (ev_eqS (ev_tget (d := D) (p := (u, t)) (ev_var rfl (Rep.mono g5.g rD)) (ev_tup2 (x := u) (y := t) (ev_var rfl rfl) (ev_var rfl rfl)) hl) ev_str) g5.i (by rw [rlr, up_a hp xc]) (fun v' G' H' g r => q v' G' H' ((g14.trans g5).trans g) r)
    · rw [hl] at hb; cases hb
  · have hn : look D.l (u, t) = none := (hD u t).2 (fun c z => hc ⟨c, z⟩)
    obtain ⟨c, xc⟩ := (some_part hp hj).resolve_left hc
    have hl := (hD t u).1 c xc
    refine sq_ifn (G := G4) (et_test (ev_tin (p := (u, t)) (d := D) (ev_tup2 (x := u) (y := t) (ev_var rfl rfl) (ev_var rfl rfl)) (ev_var rfl rD))) g4.i (fun hb _ _ _ => ?_) (fun _ G5 H5 g5 => ?_)
    · rw [hn] at hb; cases hb
    · exact st_retC (y := upM x t u) (G := G5) (ev_eqS (ev_tget (d := D) (p := (t, u)) (ev_var rfl (Rep.mono g5.g rD)) (ev_tup2 (x := t) (y := u) (ev_var rfl rfl) (ev_var rfl rfl)) hl) ev_str) g5.i (by rw [rll, up_b hp xc]) (fun v' G' H' g r => q v' G' H' ((g14.trans g5).trans g) r)
end

section
variable {P : Program} {w : World} {K : Fg} {mg : Str → Option Value} {base : Heap}
theorem q_places_behind (T : Tg K mg) : Df P w K mg base 1 "places_behind" ["order", "even"] (sp2 (fun (o e : List Int) => o.Nodup ∧ o.length ≤ 1000 ∧ firstsM o e ≠ []) behM) := by
  refine T.places_behind.ok sc_places_behind (fun vs H Q E h => ?_) (fun cdv f A outer s H vs Q E hr h => ?_)
  · obtain ⟨v, x, v2, x2, G, rfl, _⟩ := h
    rfl
  obtain ⟨v, o, v2, e, G, rfl, i, r1, r2, ⟨nd, hl, hf⟩, q⟩ := h
  have bl := T.bl
  have fr := fr_lt hf
  refine ⟨_, (pss_cons (ps_set (i := 2) sc_places_behind.nd rfl (by first | exact .inl rfl | exact .inr rfl) (pe_callB (call_lenK (K := K) rfl) (by rfl) (bl "len" (by decide)) (by decide +kernel) (pa_cons (pv 0) pa_nil)))
    (pss_cons (ps_set (i := 3) sc_places_behind.nd rfl (by first | exact .inl rfl | exact .inr rfl) (pe_ix (ix_listK (K := K) rfl) (pe_lc (own := [("at", 4)]) rfl sc_places_behind.nd (pi_range1 (by rfl) (bl "range" (by decide)) (pa_cons (pv 2) pa_nil)) (blkOk_by (own := [("at", 4)]) (N := N_places_behind) (sc := defScope s_places_behind) (by decide +kernel)) (fun _ _ _ _ _ => (pg_name (i := 4) sc_places_behind.nd rfl (by first | exact .inl rfl | exact .inr rfl))) (fun _ _ _ _ _ => pts_one (PW.pt (pw_and (pt_cmpR (op_in_seqK (K := K) rfl) (pe_ix (ix_listK (K := K) rfl) (pv 0) (pv 4) (fun _ _ => rfl)) (pv 1) (by rfl)) (pw_and1 (pt_cmpR (op_notIn_seqK (K := K) rfl) (pe_ix (ix_listK (K := K) rfl) (pv 0) (pe_op op_sub (pv 4) pe_int) (fun _ _ => rfl)) (pv 1) (by rfl)))))) (fun _ _ _ _ _ => (pv 4))) pe_int (fun _ _ => rfl)))
    (pss_one (ps_ret (pe_dc (own := [("step", 5)]) rfl sc_places_behind.nd (pi_range1 (by rfl) (bl "range" (by decide)) (pa_cons (pv 2) pa_nil)) (blkOk_by (own := [("step", 5)]) (N := N_places_behind) (sc := defScope s_places_behind) (by decide +kernel)) (fun _ _ _ _ _ => (pg_name (i := 5) sc_places_behind.nd rfl (by first | exact .inl rfl | exact .inr rfl))) (fun _ _ _ _ _ => pts_nil) (fun _ _ _ _ _ => (pe_ix (ix_listK (K := K) rfl) (pv 0) (pe_op op_mod (pe_op op_add (pv 3) (pv 5)) (pv 2)) (fun _ _ => rfl))) (fun _ _ _ _ _ => (pv 5))))))), ?_⟩
  refine sq_set (G := G) (x := (o.length : Int)) (ev_lenL (xs := o) (ev_var rfl r1)) i (fun nv G1 H1 g1 rn => ?_)
  cases rn
  have r11 := Rep.mono g1.g r1
  have r21 := Rep.mono g1.g r2
  have hfl : 0 < (firstsM o e).length := List.length_pos_iff.mpr hf
  refine sq_set (G := G1) (x := frM o e) (ev_ixL (xs := firstsM o e) (i := 0) (Ev.cast (ev_lcf (xs := rng 0 (o.length : Int)) (p := fun k => decide (ix o k ∈ e) && !decide (ix o ((k - 1) % o.length) ∈ e)) (f := id) (ei_r1 (ev_var (x := (o.length : Int)) rfl rfl) (by omega)) (by rw [rng_len]; omega) ?_) (by rw [List.map_id]; rfl)) ev_int ⟨by omega, by omega⟩) g1.i (fun tv G2 H2 g2 rt => ?_)
  · intro k hk kv G3 s3 r3
    cases r3
    have hk := rng_mem.mp hk
    have r13 := Rep.mono s3 r11
    have r23 := Rep.mono s3 r21
    exact gb_name ⟨rfl, et_and (et_test (ev_inLI (ev_ixL (xs := o) (i := k) (ev_var rfl r13) (ev_var rfl rfl) ⟨hk.1, hk.2⟩) (ev_var rfl r23))) (fun _ => et_test (ev_notInLI (ev_ixP (xs := o) (k := k) (ev_var rfl r13) (ev_sub (ev_var rfl rfl) ev_int) hk.1 hk.2) (ev_var rfl r23))), fun _ => ev_var rfl rfl⟩
  cases rt
  have g12 := g1.trans g2
  refine st_ret (G := G2) (x := behM o e) (ev_dcI (xs := rng 0 (o.length : Int)) (f := fun s => ix o ((frM o e + s) % o.length)) (h := id) (ei_r1 (ev_var (x := (o.length : Int)) rfl rfl) (by omega)) (by rw [rng_len]; omega) (beh_nodup nd hf) ?_) g2.i (fun v' G' H' g r => q v' G' H' (g12.trans g) r)
  intro k hk kv G3 s3 r3
  cases r3
  have hk := rng_mem.mp hk
  have r13 := Rep.mono (g2.g.trans s3) r11
  have h3 := Int.emod_nonneg (frM o e + k) (show (o.length : Int) ≠ 0 by omega)
  have h4 := Int.emod_lt_of_pos (frM o e + k) (show (0 : Int) < o.length by omega)
  exact gb_name ⟨rfl, ev_ixL (xs := o) (ev_var rfl r13) (ev_mod (ev_add (ev_var rfl rfl) (ev_var rfl rfl)) (ev_var rfl rfl) (by omega)) ⟨h3, h4⟩, ev_var rfl rfl⟩
theorem q_copies_of (T : Tg K mg) : Df P w K mg base 1 "copies_of" ["leaves", "behind", "begin"] (sp3 (fun (l : List Int) (d : DI) (_ : Int) => l.length ≤ 1000 ∧ 0 < d.l.length ∧ ∀ x ∈ l, ∃ y, look d.l x = some y) copM) := by
  refine T.copies_of.ok sc_copies_of (fun vs H Q E h => ?_) (fun cdv f A outer s H vs Q E hr h => ?_)
  · obtain ⟨v, x, v2, x2, v3, x3, G, rfl, _⟩ := h
    rfl
  obtain ⟨v, l, v2, d, v3, b, G, rfl, i, r1, r2, r3, ⟨hl, hd, hk⟩, q⟩ := h
  cases r3
  have bl := T.bl
  refine ⟨_, (pss_cons (ps_set (i := 3) sc_copies_of.nd rfl (by first | exact .inl rfl | exact .inr rfl) (pe_op op_mul pe_int (pe_callB call_len_dK (by rfl) (bl "len" (by decide)) (by decide +kernel) (pa_cons (pv 1) pa_nil))))
    (pss_one (ps_ret (pe_lc (own := [("leaf", 4)]) rfl sc_copies_of.nd (pi_listK (K := K) rfl (pv 0)) (blkOk_by (own := [("leaf", 4)]) (N := N_copies_of) (sc := defScope s_copies_of) (by decide +kernel)) (fun _ _ _ _ _ => (pg_name (i := 4) sc_copies_of.nd rfl (by first | exact .inl rfl | exact .inr rfl))) (fun _ _ _ _ _ => pts_nil) (fun _ _ _ _ _ => (pe_op op_mod (pe_op op_add (pv 2) (pe_dget (hu_of hr) (pv 1) (pv 4) (fun _ _ => rfl))) (pv 3))))))), ?_⟩
  refine sq_set (G := G) (x := 3 * (d.l.length : Int)) (ev_mul ev_int (ev_lenI (d := d) (ev_var rfl r2)) (.inl (by decide))) i (fun nv G1 H1 g1 rn => ?_)
  cases rn
  have r11 := Rep.mono g1.g r1
  have r21 := Rep.mono g1.g r2
  refine st_ret (G := G1) (x := copM l d b) (ev_lc (xs := l) (f := fun x => (b + (look d.l x).getD 0) % (3 * d.l.length)) (ei_list (ev_var rfl r11)) (by omega) ?_) g1.i (fun v' G' H' g r => q v' G' H' (g1.trans g) r)
  intro k hm kv G3 s3 r3
  cases r3
  obtain ⟨y, hy⟩ := hk k hm
  refine gb_name ⟨rfl, Ev.cast (ev_mod (ev_add (ev_var rfl rfl) (ev_iget (d := d) (ev_var rfl (Rep.mono s3 r21)) (ev_var rfl rfl) hy)) (ev_var (x := 3 * (d.l.length : Int)) rfl rfl) (by omega)) ?_⟩
  rw [hy]; rfl
end


section
variable {P : Program} {w : World} {K : Fg} {mg : Str → Option Value} {base : Heap}
abbrev goodLie (p : Plan) (l : T3) : Prop := isPlanM p = true ∧ Jn p l.a l.b ∧ 0 ≤ l.c ∧ l.c ≤ 2
theorem q_check_lie (T : Tg K mg) : Df P w K mg base 6 "check_lie" ["plan", "lie"] (sp2 (fun (p : Plan) (l : Lie3 K) => goodLie p l.t) (fun _ _ => ())) := by
  refine T.check_lie.ok sc_check_lie (fun vs H Q E h => ?_) (fun cdv f A outer s H vs Q E hr h => ?_)
  · obtain ⟨v, x, v2, x2, G, rfl, _⟩ := h
    rfl
  obtain ⟨v, x, v2, ⟨x2⟩, G, rfl, i, r1, r2, ⟨hp, hj, hc0, hc2⟩, q⟩ := h
  have hj : Jn x x2.a x2.b := hj
  have hc0 : 0 ≤ x2.c := hc0
  have hc2 : x2.c ≤ 2 := hc2
  have bl := T.bl
  refine ⟨_, (pss_cons (ps_asg (pv 1) (pg_tupK (K := K) (n := 3) rfl (pg_tup rfl (pgs_cons (pg_name (i := 2) sc_check_lie.nd rfl (by first | exact .inl rfl | exact .inr rfl)) (pgs_cons (pg_name (i := 3) sc_check_lie.nd rfl (by first | exact .inl rfl | exact .inr rfl)) (pgs_cons (pg_name (i := 4) sc_check_lie.nd rfl (by first | exact .inl rfl | exact .inr rfl)) pgs_nil))))))
    (pss_cons (ps_expr (pe_df (q_check_place T) hr (by first | decide | omega) (by rfl) (pa_cons (pv 0) (pa_cons (pe_tup (pa_cons (pv 2) (pa_cons (pv 3) pa_nil))) pa_nil))))
    (pss_one (ps_if (PW.pt (pw_or (pt_cmpR op_lt (pv 4) pe_int (nomark _)) (pw_or1 (pt_cmpR op_gt (pv 4) pe_int (nomark _)))))
      (pss_one ps_never)
      pss_nil)))), ?_⟩
  refine sq_lie (K := K) (G := G) (x := x2) (ev_var rfl r2) i (fun G1 H1 g1 => ?_)
  refine sq_drop (G := G1) (ev_call2 (x := x) (x2 := (x2.a, x2.b)) (ev_var rfl (Rep.mono g1.g r1)) (ev_tup2 (ev_var rfl rfl) (ev_var rfl rfl)) ⟨hp, hj⟩) g1.i (fun G2 H2 g2 => ?_)
  refine st_if (G := G2) (et_or (et_test (ev_lt (ev_var rfl rfl) ev_int)) (fun _ => et_test (ev_gt (ev_var rfl rfl) ev_int))) g2.i (fun hb _ _ _ => ?_) (fun hb G3 H3 g3 => ?_)
  · exfalso
    rw [decide_eq_false (by omega), decide_eq_false (by omega)] at hb
    cases hb
  · exact q .non G3 H3 ((g1.trans g2).trans g3) rfl
theorem q_stacks (T : Tg K mg) : Df P w K mg base 6 "stacks" ["plan", "place"] (sp2 (fun (p : Plan) (s : Int × Int) => isPlanM p = true ∧ Jn p s.1 s.2) (fun p s => (arc p.1 s.1 s.2, oddM p.1 s.1 s.2))) := (q_stacksN T).imp spPL2_sp2
theorem b_heaps (T : Tg K mg) (O : OthHd w K mg) : BodyOk P w K mg base 42 "heaps" N_heaps s_heaps (sp2 (fun (p : Plan) (l : Lie3 K) => goodLie p l.t) (fun p l => heapsM p l.t)) := by
  have DU := q_upright (P := P) (base := base) T O
  intro cdv f A outer s H vs Q E hr h
  obtain ⟨v, x, v2, ⟨l⟩, G, rfl, i, r1, r2, hg, q⟩ := h
  have bl := T.bl
  obtain ⟨hp, hj, hc0, hc2⟩ := hg
  have hj : Jn x l.a l.b := hj
  have hc0 : 0 ≤ l.c := hc0
  have hc2 : l.c ≤ 2 := hc2
  have ne := hj.ne hp
  obtain ⟨h3, h40, _⟩ := plan_facts hp
  refine ⟨_, (pss_cons (ps_expr (pe_df (q_check_lie T) hr (by first | decide | omega) (by rfl) (pa_cons (pv 0) (pa_cons (pv 1) pa_nil))))
    (pss_cons (ps_asg (pv 1) (pg_tupK (K := K) (n := 3) rfl (pg_tup rfl (pgs_cons (pg_name (i := 2) sc_heaps.nd rfl (by first | exact .inl rfl | exact .inr rfl)) (pgs_cons (pg_name (i := 3) sc_heaps.nd rfl (by first | exact .inl rfl | exact .inr rfl)) (pgs_cons (pg_name (i := 4) sc_heaps.nd rfl (by first | exact .inl rfl | exact .inr rfl)) pgs_nil))))))
    (pss_cons (ps_set (i := 5) sc_heaps.nd rfl (by first | exact .inl rfl | exact .inr rfl) (pe_ix (ix_tupK (K := K) rfl) (pv 0) pe_int (fun _ _ => rfl)))
    (pss_cons (ps_asg (pe_df (q_stacks T) hr (by first | decide | omega) (by rfl) (pa_cons (pv 0) (pa_cons (pe_tup (pa_cons (pv 2) (pa_cons (pv 3) pa_nil))) pa_nil))) (pg_tupK (K := K) (n := 2) rfl (pg_tup rfl (pgs_cons (pg_name (i := 6) sc_heaps.nd rfl (by first | exact .inl rfl | exact .inr rfl)) (pgs_cons (pg_name (i := 7) sc_heaps.nd rfl (by first | exact .inl rfl | exact .inr rfl)) pgs_nil)))))
    (pss_cons (ps_set (i := 8) sc_heaps.nd rfl (by first | exact .inl rfl | exact .inr rfl) (pe_df (q_strip_order T) hr (by first | decide | omega) (by rfl) (pa_cons (pv 0) pa_nil)))
    (pss_cons (ps_set (i := 9) sc_heaps.nd rfl (by first | exact .inl rfl | exact .inr rfl) (pe_df (q_places_behind T) hr (by first | decide | omega) (by rfl) (pa_cons (pv 8) (pa_cons (pv 6) pa_nil))))
    (pss_cons (ps_set (i := 10) sc_heaps.nd rfl (by first | exact .inl rfl | exact .inr rfl) (pe_op op_sub (pe_op op_add (pe_op op_mul (pv 4) (pv 5)) (pe_bm PySem.F.plainAttrs_list PySem.F.slot_list_index PySem.F.type_list_index (mt_indexK (K := K) rfl) (pv 8) (pa_cons (pv 2) pa_nil))) (pe_dget (hu_of hr) (pv 9) (pv 2) (fun _ _ => rfl))))
    (pss_cons (ps_asg (pe_ifExp (pt_val (pe_df DU hr (by first | decide | omega) (by rfl) (pa_cons (pv 0) (pa_cons (pe_tup (pa_cons (pv 2) (pa_cons (pv 3) pa_nil))) pa_nil)))) (pe_tup (pa_cons (pv 5) (pa_cons pe_int pa_nil))) (pe_tup (pa_cons (pe_un un_neg (pv 5)) (pa_cons (pe_un un_neg (pv 5)) pa_nil)))) (pg_tupK (K := K) (n := 2) rfl (pg_tup rfl (pgs_cons (pg_name (i := 11) sc_heaps.nd rfl (by first | exact .inl rfl | exact .inr rfl)) (pgs_cons (pg_name (i := 12) sc_heaps.nd rfl (by first | exact .inl rfl | exact .inr rfl)) pgs_nil)))))
    (pss_cons (ps_set (i := 13) sc_heaps.nd rfl (by first | exact .inl rfl | exact .inr rfl) (pe_lst pa_nil))
    (pss_cons (ps_for PassesOwn.never rfl (pi_tupK (K := K) rfl (pe_tup (pa_cons (pv 10) (pa_cons (pe_op op_add (pv 10) (pv 11)) (pa_cons (pe_op op_add (pv 10) (pe_op op_mul pe_int (pv 11))) pa_nil))))) (pg_name (i := 14) sc_heaps.nd rfl (by first | exact .inl rfl | exact .inr rfl))
      (pss_cons (ps_expr (pe_bm PySem.F.plainAttrs_list PySem.F.slot_list_append PySem.F.type_list_append mt_append (pv 13) (pa_cons (pe_df (q_copies_of T) hr (by first | decide | omega) (by rfl) (pa_cons (pv 6) (pa_cons (pv 9) (pa_cons (pv 14) pa_nil)))) pa_nil)))
      (pss_one (ps_expr (pe_bm PySem.F.plainAttrs_list PySem.F.slot_list_append PySem.F.type_list_append mt_append (pv 13) (pa_cons (pe_df (q_copies_of T) hr (by first | decide | omega) (by rfl) (pa_cons (pv 7) (pa_cons (pv 9) (pa_cons (pe_op op_add (pv 14) (pv 12)) pa_nil)))) pa_nil))))))
    (pss_one (ps_ret (pv 13))))))))))))), ?_⟩
  refine sq_drop (G := G) (ev_call2 (x := x) (x2 := (Lie3.mk l : Lie3 K)) (ev_var rfl r1) (ev_var rfl r2) ⟨hp, hj, hc0, hc2⟩) i (fun G1 H1 g1 => ?_)
  refine sq_lie (K := K) (G := G1) (x := l) (ev_var rfl (Rep.mono g1.g r2)) g1.i (fun G2 H2 g2 => ?_)
  have g02 := g1.trans g2
  refine sq_set (G := G2) (ev_fst (ev_var rfl (Rep.mono g02.g r1))) g2.i (fun fv G3 H3 g3 rf => ?_)
  cases rf
  have g03 := g02.trans g3
  refine sq_pair (G := G3) (x := (arc x.1 l.a l.b, oddM x.1 l.a l.b)) (ev_call2 (x := x) (x2 := (l.a, l.b)) (f := fun (p : Plan) (s : Int × Int) => (arc p.1 s.1 s.2, oddM p.1 s.1 s.2)) (ev_var rfl (Rep.mono g03.g r1)) (ev_tup2 (ev_var rfl rfl) (ev_var rfl rfl)) ⟨hp, hj⟩) g3.i (fun ev ov G4 H4 g4 re ro => ?_)
  have g04 := g03.trans g4
  refine sq_set (G := G4) (x := ordM x) (ev_call1 (f := ordM) (ev_var rfl (Rep.mono g04.g r1)) hp) g4.i (fun dv G5 H5 g5 rd => ?_)
  have g05 := g04.trans g5
  have hol := ord_len hp
  refine sq_set (G := G5) (x := behP x l.a l.b) (ev_call2 (f := behM) (x := ordM x) (x2 := arc x.1 l.a l.b) (ev_var rfl rd) (ev_var rfl (Rep.mono g5.g re)) ⟨ord_nodup hp, by omega, firsts_P hp hj⟩) g5.i (fun bv G6 H6 g6 rb => ?_)
  have g06 := g05.trans g6
  obtain ⟨y, hy⟩ := look_P hp hj (x := l.a) ⟨by omega, by omega⟩
  refine sq_set (G := G6) (x := startP x l) (Ev.cast (ev_sub (ev_add (ev_mul (ev_var (x := l.c) rfl rfl) (ev_var (x := x.1) rfl rfl) (.inl ⟨by omega, by omega⟩)) (ev_index (xs := ordM x) (y := l.a) (ev_var rfl (Rep.mono g6.g rd)) (ev_var rfl rfl) ((ord_in hp).mpr ⟨by omega, by omega⟩))) (ev_iget (d := behP x l.a l.b) (ev_var rfl rb) (ev_var rfl rfl) hy)) (by unfold startP; rw [hy]; rfl)) g6.i (fun sv G7 H7 g7 rs => ?_)
  cases rs
  have g07 := g06.trans g7
  refine sq_pair (G := G7) (x := stepP x l.a l.b) (ev_if (et_test (ev_call2 (f := fun (p : Plan) (s : Int × Int) => upM p s.1 s.2) (x := x) (x2 := (l.a, l.b)) (ev_var rfl (Rep.mono g07.g r1)) (ev_tup2 (ev_var rfl rfl) (ev_var rfl rfl)) ⟨hp, hj⟩)) (fun _ => ev_tup2 (ev_var rfl rfl) ev_int) (fun _ => ev_tup2 (ev_neg (ev_var rfl rfl)) (ev_neg (ev_var rfl rfl)))) g7.i (fun w1 w2 G8 H8 g8 rw1 rw2 => ?_)
  cases rw1; cases rw2
  have g08 := g07.trans g8
  refine sq_newlist (α := List Int) (G := G8) evs_nil g8.i (by decide) (fun pa G9 H9 o g9 np ml s9 => ?_)
  have g09 := g08.trans g9
  have nH := up_none g09.same np
  have gd : Gr M0 G H G9 (upd H9 pa o) := g09.mut (.inl nH) (up_none g09.i np)
  have re9 := Rep.mono ((((g5.g.trans g6.g).trans g7.g).trans g8.g).trans g9.g) re
  have ro9 := Rep.mono ((((g5.g.trans g6.g).trans g7.g).trans g8.g).trans g9.g) ro
  have rb9 := Rep.mono ((g7.g.trans g8.g).trans g9.g) rb
  have hbl := behP_len (t := l.a) (u := l.b) hp
  refine sq_for (G := G9) (xs := begP x l) (fun k σ G' H' => k ≤ 3 ∧ Gr M0 G H G' H' ∧ Ml G' H' pa (((begP x l).take k).flatMap (twoP x l)) ∧ ∃ a14, σ = [some v, some v2, some (.int l.a), some (.int l.b), some (.int l.c), some (.int x.1), some ev, some ov, some dv, some bv, some (.int (startP x l)), some (.int (stepP x l.a l.b).1), some (.int (stepP x l.a l.b).2), some (.ref pa), a14]) (ei_tup (xs := Tup.mk (begP x l)) (ev_tupn (evs_cons (ev_var rfl rfl) (evs_cons (ev_add (ev_var rfl rfl) (ev_var rfl rfl)) (evs_cons (ev_add (ev_var rfl rfl) (ev_mul ev_int (ev_var rfl rfl) (.inl (by decide)))) evs_nil))) (by show 3 ≤ 100000; decide))) s9 ?_ ?_ ?_
  · intro G10 H10 g10
    exact ⟨by omega, gd.trans g10, ml.step0 g10, none, rfl⟩
  · intro k b v14 σ' G10 H10 G11 H11 hk e1 e2 hP g11 r11
    obtain ⟨hk3, gr10, ml10, a14, rfl⟩ := hP
    cases r11
    have hk4 : k < 3 := (List.getElem?_eq_some_iff.mp hk).1
    have hml : (((begP x l).take k).flatMap (twoP x l)).length ≤ 6 := by
      have : k = 0 ∨ k = 1 ∨ k = 2 := by omega
      rcases this with rfl | rfl | rfl <;> exact Nat.le_of_ble_eq_true rfl
    have s11 := e1.trans g11.g
    refine gn ?_
    refine sq_append (G := G11) (i := 13) (p := pa) (x := copM (arc x.1 l.a l.b) (behP x l.a l.b) b) rfl (ml10.step0 g11) (ev_call3 (f := copM) (ev_var rfl (Rep.mono s11 re9)) (ev_var rfl (Rep.mono s11 rb9)) (ev_var rfl rfl) ⟨?_, by omega, ?_⟩) g11.i (by omega) (fun G12 H12 o12 g12 ml12 s12 => ?_)
    · rw [arc_len]
      have := Int.emod_lt_of_pos (l.b - l.a) (show 0 < x.1 by omega)
      omega
    · intro z hz
      have hz := (mem_arc (by omega) (by omega) (by omega)).mp hz
      exact look_P hp hj ⟨hz.1, hz.2.1⟩
    have s12' := s11.trans g12.g
    refine st_append (G := G12) (i := 13) (p := pa) (x := copM (oddM x.1 l.a l.b) (behP x l.a l.b) (b + (stepP x l.a l.b).2)) rfl ml12 (ev_call3 (f := copM) (ev_var rfl (Rep.mono s12' ro9)) (ev_var rfl (Rep.mono s12' rb9)) (ev_add (ev_var rfl rfl) (ev_var rfl rfl)) ⟨?_, by omega, ?_⟩) s12 (by rw [List.length_append]; show _ + 1 < _; omega) (fun G13 H13 o13 g13 ml13 s13 => ?_)
    · rw [odd_eq (by omega) (by omega) (by omega), List.length_reverse, arc_len]
      have := Int.emod_lt_of_pos (l.a - l.b) (show 0 < x.1 by omega)
      omega
    · intro z hz
      rw [odd_eq (by omega) (by omega) (by omega), List.mem_reverse] at hz
      have hz := (mem_arc (by omega) (by omega) (by omega)).mp hz
      exact look_P hp hj ⟨hz.1, hz.2.1⟩
    refine ⟨G13, (g11.g.trans g12.g).trans g13.g, s13, by omega, (((gr10.trans g11).trans g12).mut (.inl nH) ml12.1 |>.trans g13).mut (.inl nH) ml13.1, ?_, _, rfl⟩
    rw [List.take_add_one, hk, List.flatMap_append]
    rw [List.append_assoc] at ml13
    exact ml13
  · intro σ' G10 H10 e1 e2 hP
    obtain ⟨_, gr10, ml10, a14, rfl⟩ := hP
    rw [List.take_length] at ml10
    obtain ⟨n10, acc, ea, pa'⟩ := ml10
    exact ⟨.ref pa, rfl, q (.ref pa) (upd G10 pa (.lst acc)) H10 (gr10.still nH n10 ea) ⟨pa, acc, rfl, upd_same, paired_mono (same_new n10) pa'⟩⟩
theorem q_heaps (T : Tg K mg) (O : OthHd w K mg) : Df P w K mg base 43 "heaps" ["plan", "lie"] (sp2 (fun (p : Plan) (l : Lie3 K) => goodLie p l.t) (fun p l => heapsM p l.t)) := T.heaps.ok sc_heaps len_sp2 (b_heaps T O)
end


section
variable {P : Program} {w : World} {K : Fg} {mg : Str → Option Value} {base : Heap}
theorem q_fanN (T : Tg K mg) : Df P w K mg base 5 "fan" ["plan", "face"] (spL2 (fun (p : Plan) (f : Int) => isPlanM p = true ∧ 0 ≤ f ∧ f < p.1) fanM) := by
  refine T.fan.ok sc_fan (fun vs H Q E h => ?_) (fun cdv f A outer s H vs Q E hr h => ?_)
  · obtain ⟨v, x, v2, x2, G, rfl, _⟩ := h
    rfl
  obtain ⟨v, x, v2, x2, G, rfl, i, r1, r2, ⟨hp, hf0, hf1⟩, q⟩ := h
  cases r2
  have bl := T.bl
  have vp := plan_facts hp
  refine ⟨_, (pss_cons (ps_set (i := 2) sc_fan.nd rfl (by first | exact .inl rfl | exact .inr rfl) (pe_df (q_lines T) hr (by first | decide | omega) (by rfl) (pa_cons (pv 0) pa_nil)))
    (pss_cons (ps_set (i := 3) sc_fan.nd rfl (by first | exact .inl rfl | exact .inr rfl) (pe_ix (ix_tupK (K := K) rfl) (pv 0) pe_int (fun _ _ => rfl)))
    (pss_cons (ps_if (PW.pt (pw_or (pt_cmpR op_lt (pv 1) pe_int (nomark _)) (pw_or1 (pt_cmpR op_ge (pv 1) (pv 3) (nomark _)))))
      (pss_one ps_never)
      pss_nil)
    (pss_cons (ps_setLc (i := 4) (own := [("step", 5)]) rfl sc_fan.nd rfl rfl (sw_true rfl rfl rfl (by decide +kernel)) (pi_range2 (by rfl) (bl "range" (by decide)) (pa_cons pe_int (pa_cons (pv 3) pa_nil))) (blkOk_by (own := [("step", 5)]) (N := N_fan) (sc := defScope s_fan) (by decide +kernel)) (fun _ _ _ _ _ => (pg_name (i := 5) sc_fan.nd rfl (by first | exact .inl rfl | exact .inr rfl))) (fun _ _ _ _ _ => pts_nil) (fun _ _ _ _ _ => (pe_op op_mod (pe_op op_add (pv 1) (pv 5)) (pv 3))))
    (pss_one (ps_ret (pe_lc (own := [("corner", 6)]) rfl sc_fan.nd (pi_listK (K := K) rfl (pv 4)) (blkOk_by (own := [("corner", 6)]) (N := N_fan) (sc := defScope s_fan) (by decide +kernel)) (fun _ _ _ _ _ => (pg_name (i := 6) sc_fan.nd rfl (by first | exact .inl rfl | exact .inr rfl))) (fun _ _ _ _ _ => pts_one (pt_cmpR (op_inDK (K := K) rfl (room65 hr)) (pe_df (q_low_first T) hr (by first | decide | omega) (by rfl) (pa_cons (pv 1) (pa_cons (pv 6) pa_nil))) (pv 2) (by rfl))) (fun _ _ _ _ _ => (pv 6))))))))), ?_⟩
  refine sq_set (G := G) (ev_call1 (ev_var rfl r1) hp) i (fun jv G1 H1 g1 rj => ?_)
  refine sq_set (G := G1) (ev_fst (ev_var rfl (Rep.mono g1.g r1))) g1.i (fun fv G2 H2 g2 r2 => ?_)
  cases r2
  have g12 := g1.trans g2
  refine sq_ifn (G := G2) (b := decide (x2 < 0) || decide (x.1 ≤ x2)) (by walk_at "pf_ev") g2.i (fun hb _ _ _ => ?_) (fun hb G3 H3 g3 => ?_)
  · exfalso
    rw [decide_eq_false (by omega), decide_eq_false (by omega)] at hb
    cases hb
  refine sq_set (G := G3) (ev_lc (f := fun c : Int => (x2 + c) % x.1) (ei_r2 ev_int (ev_var rfl rfl) (by omega)) (by rw [rng_len]; omega) ?_) g3.i (fun av G4 H4 g4 r4 => ?_)
  · intro c hc v1 G4 s4 rc
    exact gb_name ⟨rfl, ev_mod (ev_add (ev_var rfl rfl) (ev_var rfl rc)) (ev_var rfl rfl) (by omega)⟩
  have rj4 := Rep.mono ((g2.g.trans g3.g).trans g4.g) rj
  refine st_retN (G := G4) (en_lcf (p := fun c : Int => decide (lawPair x2 c ∈ linesM x)) (f := fun c : Int => c) (ei_list (ev_var rfl r4)) (by rw [List.length_map, rng_len]; omega) ?_) g4.i (fun p G' H' g np m => q p G' H' (((g12.trans g3).trans g4).trans g) (up_none ((g12.trans g3).trans g4).same np) m)
  intro c hc v1 G5 s5 rc
  exact gb_name ⟨rfl, et_test (Ev.cast (ev_inL (x := lawPair x2 c) (xs := linesM x) (ev_call2 (f := lawPair) (x := x2) (x2 := c) (ev_var rfl rfl) (ev_var rfl rc) trivial) (ev_var rfl (Rep.mono s5 rj4)) (by decide)) (decide_eq_decide.mpr Iff.rfl)), fun _ => ev_var rfl rc⟩
theorem q_fan (T : Tg K mg) : Df P w K mg base 5 "fan" ["plan", "face"] (sp2 (fun (p : Plan) (f : Int) => isPlanM p = true ∧ 0 ≤ f ∧ f < p.1) fanM) := (q_fanN T).imp spL2_sp2
end

section
variable {P : Program} {w : World} {K : Fg} {mg : Str → Option Value} {base : Heap}
theorem q_middles (T : Tg K mg) : Df P w K mg base 6 "middles" ["plan", "place"] (sp2 (fun (p : Plan) (s : Int × Int) => isPlanM p = true ∧ Jn p s.1 s.2) middlesM) := by
  refine T.middles.ok sc_middles (fun vs H Q E h => ?_) (fun cdv f A outer s H vs Q E hr h => ?_)
  · obtain ⟨v, x, v2, x2, G, rfl, _⟩ := h
    rfl
  obtain ⟨v, x, v2, x2, G, rfl, i, r1, r2, hp, q⟩ := h
  have bl := T.bl
  have ne := hp.2.ne hp.1
  refine ⟨_, (pss_cons (ps_expr (pe_df (q_check_place T) hr (by first | decide | omega) (by rfl) (pa_cons (pv 0) (pa_cons (pv 1) pa_nil))))
    (pss_cons (ps_asg (pv 1) (pg_tupK (K := K) (n := 2) rfl (pg_tup rfl (pgs_cons (pg_name (i := 2) sc_middles.nd rfl (by first | exact .inl rfl | exact .inr rfl)) (pgs_cons (pg_name (i := 3) sc_middles.nd rfl (by first | exact .inl rfl | exact .inr rfl)) pgs_nil)))))
    (pss_cons (ps_set (i := 4) sc_middles.nd rfl (by first | exact .inl rfl | exact .inr rfl) (pe_df (q_fan T) hr (by first | decide | omega) (by rfl) (pa_cons (pv 0) (pa_cons (pv 2) pa_nil))))
    (pss_cons (ps_set (i := 5) sc_middles.nd rfl (by first | exact .inl rfl | exact .inr rfl) (pe_bm PySem.F.plainAttrs_list PySem.F.slot_list_index PySem.F.type_list_index (mt_indexK (K := K) rfl) (pv 4) (pa_cons (pv 3) pa_nil)))
    (pss_cons (ps_set (i := 6) sc_middles.nd rfl (by first | exact .inl rfl | exact .inr rfl) (pe_op op_sub (pe_callB (call_lenK (K := K) rfl) (by rfl) (bl "len" (by decide)) (by decide +kernel) (pa_cons (pv 4) pa_nil)) pe_int))
    (pss_one (ps_ret (pe_tup (pa_cons (pe_op op_mod (pv 5) pe_int) (pa_cons (pe_op op_mod (pe_op op_sub (pv 5) (pv 6)) pe_int) pa_nil)))))))))), ?_⟩
  refine sq_drop (G := G) (ev_call2 (ev_var rfl r1) (ev_var rfl r2) hp) i (fun G1 H1 g1 => ?_)
  refine sq_pair (G := G1) (x := x2) (ev_var rfl (Rep.mono g1.g r2)) g1.i (fun u w G2 H2 g2 ru rw => ?_)
  have r1' := Rep.mono (g1.g.trans g2.g) r1
  cases ru; cases rw
  refine sq_set (G := G2) (ev_call2 (f := fanM) (x := x) (x2 := x2.1) (ev_var rfl r1') (ev_var rfl rfl) ⟨hp.1, by omega, by omega⟩) g2.i (fun av G3 H3 g3 ra => ?_)
  refine sq_set (G := G3) (ev_index (xs := fanM x x2.1) (y := x2.2) (ev_var rfl ra) (ev_var rfl rfl) ((mem_fan hp.1 (by omega)).mpr hp.2)) g3.i (fun bv G4 H4 g4 rb => ?_)
  cases rb
  refine sq_set (G := G4) (ev_sub (ev_lenL (xs := fanM x x2.1) (ev_var rfl (Rep.mono g4.g ra))) ev_int) g4.i (fun cv G5 H5 g5 rc => ?_)
  cases rc
  exact st_retC (y := middlesM x x2) (G := G5) (ev_tup2 (ev_mod (ev_var rfl rfl) ev_int (by decide)) (ev_mod (ev_sub (ev_var rfl rfl) (ev_var rfl rfl)) ev_int (by decide))) g5.i (by rfl) (fun v G' H' g r => q v G' H' (((((g1.trans g2).trans g3).trans g4).trans g5).trans g) r)
end

section
variable {α : Type} [Rep α] {σ : L2.St} {G : Hp} {ta : TE} {K : Fg}
theorem pi_enumK {X : Cx} {K : Fg} {e : Expr} {ta : TA} {p pos tpos : Pos} {elts : List Expr} {kk : Nat} (hK : X.K = K) (hg : Gl X "enumerate") (hm : X.mg "enumerate" = none) (ha : PA X [e] ta) (hs : starEach [e] X.env = [(false, eval e X.env)] := by rfl) :
    PI X (.Tuple elts kk tpos) (.Call (.Name "enumerate" p) [e] [] pos) (iEnum K ta) := hK ▸ pi_enum hg hm ha hs
theorem ei_enumL {xs : List α} (h : Ev ta σ G xs) : EvI (iEnum K (tCons ta tNil)) σ G (enumI xs) := fun H i R q => h H i _ fun v G1 H1 g1 k1 => by
  obtain ⟨a, vs, rfl, h2, h3⟩ := k1
  refine ⟨a, vs, rfl, .inl (.inl (g1.i _ _ h2)), q _ G1 H1 g1 ⟨fun k H s l => ?_, fun k H s l => ?_, fun k H v H2 Ga x s1 s2 y e => ?_⟩⟩
  · rw [enum_len] at l
    obtain ⟨v, e, _⟩ := paired_get h3 (List.getElem?_eq_getElem l)
    exact ⟨vs, v, .inl (.inl (s _ _ h2)), e⟩
  · rw [enum_len] at l
    exact ⟨vs, .inl (.inl (s _ _ h2)), by rw [paired_len h3]; exact l⟩
  · obtain ⟨T, z, rfl, nT, rfl, f⟩ := y
    have e1 := f vs (.inl (.inl (s2 _ _ (s1 _ _ h2))))
    obtain ⟨z1, ez1, r1⟩ := paired_get' h3 e1
    obtain ⟨e2, e3⟩ := enum_get e
    rw [ez1] at e3
    have e3 := Option.some.inj e3
    have gn := gr_new (o := .tup [.int (k : Nat), z]) s2 nT
    refine ⟨upd Ga T (.tup [.int (k : Nat), z]), gn, T, _, z, rfl, upd_same, ?_, ?_⟩
    · rw [e2]; rfl
    · rw [← e3]; exact Rep.mono (s1.trans gn.g) r1
end

section
variable {P : Program} {w : World} {K : Fg} {mg : Str → Option Value} {base : Heap}
theorem heaps_len (p : Plan) (l : T3) : (heapsM p l).length = 6 := rfl
theorem heaps_ne {p : Plan} (hp : isPlanM p = true) {l : T3} (hj : Jn p l.a l.b) : ∀ h ∈ heapsM p l, 0 < h.length := by
  have ne := hj.ne hp
  intro h hh
  obtain ⟨b, _, hb⟩ := List.mem_flatMap.mp hh
  have e1 := Int.emod_nonneg (l.b - l.a) (show p.1 ≠ 0 by omega)
  have e2 := Int.emod_nonneg (l.a - l.b) (show p.1 ≠ 0 by omega)
  have z1 : (l.b - l.a) % p.1 ≠ 0 := by rw [wrapN (by omega) (by omega)]; split <;> omega
  have z2 : (l.a - l.b) % p.1 ≠ 0 := by rw [wrapN (by omega) (by omega)]; split <;> omega
  unfold twoP at hb
  rcases List.mem_cons.mp hb with rfl | hb
  · unfold copM; rw [List.length_map, arc_len]; omega
  · rw [List.mem_singleton.mp hb]
    unfold copM; rw [List.length_map, odd_eq (by omega) (by omega) (by omega), List.length_reverse, arc_len]; omega
theorem b_ring (T : Tg K mg) (O : OthHd w K mg) : BodyOk P w K mg base 43 "ring" N_ring s_ring (sp2 (fun (p : Plan) (l : Lie3 K) => goodLie p l.t) (fun p l => ringM p l.t)) := by
  have DH := q_heaps (P := P) (base := base) T O
  intro cdv f A outer s H vs Q E hr h
  obtain ⟨v, x, v2, ⟨l⟩, G, rfl, i, r1, r2, hg, q⟩ := h
  have bl := T.bl
  obtain ⟨hp, hj, hc0, hc2⟩ := hg
  have hj : Jn x l.a l.b := hj
  have hc0 : 0 ≤ l.c := hc0
  have hc2 : l.c ≤ 2 := hc2
  refine ⟨_, (pss_cons (ps_setLc (i := 2) (own := [("heap", 3)]) rfl sc_ring.nd rfl rfl (sw_true rfl rfl rfl (by decide +kernel)) (pi_listK (K := K) rfl (pe_df DH hr (by first | decide | omega) (by rfl) (pa_cons (pv 0) (pa_cons (pv 1) pa_nil)))) (blkOk_by (own := [("heap", 3)]) (N := N_ring) (sc := defScope s_ring) (by decide +kernel)) (fun _ _ _ _ _ => (pg_name (i := 3) sc_ring.nd rfl (by first | exact .inl rfl | exact .inr rfl))) (fun _ _ _ _ _ => pts_nil) (fun _ _ _ _ _ => (pe_ix (ix_listK (K := K) rfl) (pv 3) pe_int (fun _ _ => rfl))))
    (pss_cons (ps_asg (pv 1) (pg_tupK (K := K) (n := 3) rfl (pg_tup rfl (pgs_cons (pg_name (i := 4) sc_ring.nd rfl (by first | exact .inl rfl | exact .inr rfl)) (pgs_cons (pg_name (i := 5) sc_ring.nd rfl (by first | exact .inl rfl | exact .inr rfl)) (pgs_cons (pg_name (i := 6) sc_ring.nd rfl (by first | exact .inl rfl | exact .inr rfl)) pgs_nil))))))
    (pss_cons (ps_asg (pe_df (q_middles T) hr (by first | decide | omega) (by rfl) (pa_cons (pv 0) (pa_cons (pe_tup (pa_cons (pv 4) (pa_cons (pv 5) pa_nil))) pa_nil))) (pg_tupK (K := K) (n := 2) rfl (pg_tup rfl (pgs_cons (pg_name (i := 7) sc_ring.nd rfl (by first | exact .inl rfl | exact .inr rfl)) (pgs_cons (pg_name (i := 8) sc_ring.nd rfl (by first | exact .inl rfl | exact .inr rfl)) pgs_nil)))))
    (pss_cons (ps_set (i := 9) sc_ring.nd rfl (by first | exact .inl rfl | exact .inr rfl) (pe_lst pa_nil))
    (pss_cons (ps_for PassesOwn.never rfl (pi_enumK (K := K) rfl (by rfl) (bl "enumerate" (by decide)) (pa_cons (pv 2) pa_nil)) (pg_tupK (K := K) (n := 2) rfl (pg_tup rfl (pgs_cons (pg_name (i := 10) sc_ring.nd rfl (by first | exact .inl rfl | exact .inr rfl)) (pgs_cons (pg_name (i := 11) sc_ring.nd rfl (by first | exact .inl rfl | exact .inr rfl)) pgs_nil))))
      (pss_one (ps_expr (pe_bm PySem.F.plainAttrs_list PySem.F.slot_list_append PySem.F.type_list_append mt_append (pv 9) (pa_cons (pe_ifExp (pt_cmpR op_eq (pe_op op_mod (pv 10) pe_int) pe_int (nomark _)) (pe_tup (pa_cons (pv 11) (pa_cons pe_str (pa_cons (pv 7) pa_nil)))) (pe_tup (pa_cons (pv 11) (pa_cons pe_str (pa_cons (pv 8) pa_nil))))) pa_nil)))))
    (pss_one (ps_ret (pv 9)))))))), ?_⟩
  refine sq_set (G := G) (x := (heapsM x l).map fun h => ix h 0) (ev_lc (xs := heapsM x l) (f := fun h => ix h 0) (ei_list (ev_call2 (f := fun p (l : Lie3 K) => heapsM p l.t) (x := x) (x2 := (Lie3.mk l : Lie3 K)) (ev_var rfl r1) (ev_var rfl r2) ⟨hp, hj, hc0, hc2⟩)) (by rw [heaps_len]; decide) ?_) i (fun tv G1 H1 g1 rt => ?_)
  · intro h hh hv G2 s2 rh
    have := heaps_ne hp hj h hh
    exact gb_name ⟨rfl, ev_ixL (xs := h) (i := 0) (ev_var rfl rh) ev_int ⟨by omega, by omega⟩⟩
  refine sq_lie (K := K) (G := G1) (x := l) (ev_var rfl (Rep.mono g1.g r2)) g1.i (fun G2 H2 g2 => ?_)
  have g02 := g1.trans g2
  refine sq_pair (G := G2) (x := middlesM x (l.a, l.b)) (ev_call2 (f := middlesM) (x := x) (x2 := (l.a, l.b)) (ev_var rfl (Rep.mono g02.g r1)) (ev_tup2 (ev_var rfl rfl) (ev_var rfl rfl)) ⟨hp, hj⟩) g2.i (fun w1 w2 G3 H3 g3 rw1 rw2 => ?_)
  cases rw1; cases rw2
  have g03 := g02.trans g3
  refine sq_newlist (α := Tri Int Str Int) (G := G3) evs_nil g3.i (by decide) (fun pa G4 H4 o g4 np ml s4 => ?_)
  have g04 := g03.trans g4
  have nH := up_none g04.same np
  have gd : Gr M0 G H G4 (upd H4 pa o) := g04.mut (.inl nH) (up_none g04.i np)
  have rt4 := Rep.mono ((g2.g.trans g3.g).trans g4.g) rt
  refine sq_for (G := G4) (xs := enumI ((heapsM x l).map fun h => ix h 0)) (fun k σ G' H' => Gr M0 G H G' H' ∧ Ml G' H' pa (((enumI ((heapsM x l).map fun h => ix h 0)).take k).map fun e => if decide (e.1 % 2 = 0) = true then Tri.mk e.2 ("fore" : Str) (middlesM x (l.a, l.b)).1 else Tri.mk e.2 ("back" : Str) (middlesM x (l.a, l.b)).2) ∧ ∃ a10 a11, σ = [some v, some v2, some tv, none, some (.int l.a), some (.int l.b), some (.int l.c), some (.int (middlesM x (l.a, l.b)).1), some (.int (middlesM x (l.a, l.b)).2), some (.ref pa), a10, a11]) (ei_enumL (ev_var rfl rt4)) s4 ?_ ?_ ?_
  · intro G5 H5 g5
    exact ⟨gd.trans g5, ml.step0 g5, none, none, rfl⟩
  · intro k e v14 σ' G5 H5 G6 H6 hk e1 e2 hP g6 r6
    obtain ⟨gr5, ml5, a10, a11, rfl⟩ := hP
    refine gp r6 g6.i (fun u1 w1 ru1 rw1 => ?_)
    cases ru1; cases rw1
    refine st_append (G := G6) (i := 9) (p := pa) (x := if decide (e.1 % 2 = 0) = true then Tri.mk e.2 ("fore" : Str) (middlesM x (l.a, l.b)).1 else Tri.mk e.2 ("back" : Str) (middlesM x (l.a, l.b)).2) rfl (ml5.step0 g6) (ev_if (et_test (ev_eqI (ev_mod (ev_var rfl rfl) ev_int (by decide)) ev_int)) (fun _ => ev_tup3 (ev_var rfl rfl) ev_str (ev_var rfl rfl)) (fun _ => ev_tup3 (ev_var rfl rfl) ev_str (ev_var rfl rfl))) g6.i ?_ (fun G7 H7 o7 g7 ml7 s7 => ?_)
    · rw [List.length_map, List.length_take, enum_len, List.length_map, heaps_len]; omega
    refine ⟨G7, g6.g.trans g7.g, s7, ((gr5.trans g6).trans g7).mut (.inl nH) ml7.1, ?_, _, _, rfl⟩
    rw [List.take_add_one, hk, List.map_append]
    exact ml7
  · intro σ' G5 H5 e1 e2 hP
    obtain ⟨gr5, ml5, a10, a11, rfl⟩ := hP
    rw [List.take_length] at ml5
    obtain ⟨n10, acc, ea, pa'⟩ := ml5
    exact ⟨.ref pa, rfl, q (.ref pa) (upd G5 pa (.lst acc)) H5 (gr5.still nH n10 ea) ⟨pa, acc, rfl, upd_same, paired_mono (same_new n10) pa'⟩⟩
theorem q_ring (T : Tg K mg) (O : OthHd w K mg) : Df P w K mg base 44 "ring" ["plan", "lie"] (sp2 (fun (p : Plan) (l : Lie3 K) => goodLie p l.t) (fun p l => ringM p l.t)) := T.ring.ok sc_ring len_sp2 (b_ring T O)

end

section
variable {P : Program} {w : World} {K : Fg} {mg : Str → Option Value} {base : Heap}
theorem q_turned_over (T : Tg K mg) : Df P w K mg base 1 "turned_over" ["place"] (sp1 (fun (_ : Int × Int) => True) swapP) := by
  refine T.turned_over.ok sc_turned_over (fun vs H Q E h => ?_) (fun cdv f A outer s H vs Q E hr h => ?_)
  · obtain ⟨v, x, G, rfl, _⟩ := h
    rfl
  obtain ⟨v, x, G, rfl, i, r1, _, q⟩ := h
  refine ⟨_, (pss_cons (ps_asg (pv 0) (pg_tupK (K := K) (n := 2) rfl (pg_tup rfl (pgs_cons (pg_name (i := 1) sc_turned_over.nd rfl (by first | exact .inl rfl | exact .inr rfl)) (pgs_cons (pg_name (i := 2) sc_turned_over.nd rfl (by first | exact .inl rfl | exact .inr rfl)) pgs_nil)))))
    (pss_one (ps_ret (pe_tup (pa_cons (pv 2) (pa_cons (pv 1) pa_nil)))))), ?_⟩
  refine sq_pair (G := G) (x := x) (ev_var rfl r1) i (fun u w G1 H1 g1 ru rw => ?_)
  exact st_retC (y := swapP x) (G := G1) (ev_tup2 (ev_var rfl rw) (ev_var rfl ru)) g1.i (by rfl) (fun v G' H' g r => q v G' H' (g1.trans g) r)
end

section
variable {P : Program} {w : World} {K : Fg} {mg : Str → Option Value} {base : Heap}
theorem q_corner_at (T : Tg K mg) : Df P w K mg base 1 "corner_at" ["thirds", "place", "way"] (sp3 (fun (_ : Dct (Int × Int) Int) (_ : Int × Int) (_ : Str) => True) cornerM) := by
  refine T.corner_at.ok sc_corner_at (fun vs H Q E h => ?_) (fun cdv f A outer s H vs Q E hr h => ?_)
  · obtain ⟨v, x, v2, x2, v3, x3, G, rfl, _⟩ := h
    rfl
  obtain ⟨v, x, v2, x2, v3, x3, G, rfl, i, r1, r2, r3, _, q⟩ := h
  cases r3
  have bl := T.bl
  refine ⟨_, (pss_cons (ps_asg (pv 1) (pg_tupK (K := K) (n := 2) rfl (pg_tup rfl (pgs_cons (pg_name (i := 3) sc_corner_at.nd rfl (by first | exact .inl rfl | exact .inr rfl)) (pgs_cons (pg_name (i := 4) sc_corner_at.nd rfl (by first | exact .inl rfl | exact .inr rfl)) pgs_nil)))))
    (pss_cons (ps_if (pt_cmpR op_eq (pv 2) pe_str (nomark _))
      (pss_one (ps_ret (pe_dget1 (hu_of hr) (pv 0) (pe_tup (pa_cons (pv 3) (pa_cons (pv 4) pa_nil))) ⟨rfl, rfl, rfl, rfl⟩)))
      pss_nil)
    (pss_one (ps_ret (pe_dget1 (hu_of hr) (pv 0) (pe_tup (pa_cons (pv 4) (pa_cons (pv 3) pa_nil))) ⟨rfl, rfl, rfl, rfl⟩))))), ?_⟩
  refine sq_pair (G := G) (x := x2) (ev_var rfl r2) i (fun u w G2 H2 g2 ru rw => ?_)
  cases ru; cases rw
  refine sq_ifn (G := G2) (et_test (ev_eqS (ev_var rfl rfl) ev_str)) g2.i (fun hb G3 H3 g3 => ?_) (fun hb G3 H3 g3 => ?_)
  · refine st_retC (y := cornerM x x2 x3) (G := G3) (ev_tget1 (ev_var rfl (Rep.mono (g2.g.trans g3.g) r1)) (ev_tup2 (x := x2.1) (y := x2.2) (ev_var rfl rfl) (ev_var rfl rfl))) g3.i ?_ (fun v G' H' g r => q v G' H' ((g2.trans g3).trans g) r)
    unfold cornerM
    rw [if_pos (of_decide_eq_true hb)]
  · refine st_retC (y := cornerM x x2 x3) (G := G3) (ev_tget1 (ev_var rfl (Rep.mono (g2.g.trans g3.g) r1)) (ev_tup2 (x := x2.2) (y := x2.1) (ev_var rfl rfl) (ev_var rfl rfl))) g3.i ?_ (fun v G' H' g r => q v G' H' ((g2.trans g3).trans g) r)
    unfold cornerM
    rw [if_neg (of_decide_eq_false hb)]
    rfl
end

/-- what the text has of its classes -/
structure TgP (K : Fg) (mg : Str → Option Value) (C : Addr) : Prop where
  cp : ClPap K C
  init : TxN K mg "Paper" C "Paper.__init__" ["self", "letters_of_row", "folded_by", "lies_at", "leaves"] s_Paper___init__
def ChAt (w : World) (K : Fg) (mg : Str → Option Value) (a : Addr) (k fn : Str) : Prop := ∃ f, KDct K w a k (.ref f) ∧ mg fn = some (.ref f)
abbrev ChangesW (w : World) (K : Fg) (mg : Str → Option Value) : Prop := ∃ a, mg "CHANGES" = some (.ref a) ∧ ChAt w K mg a "pinch" "pinched" ∧ ChAt w K mg a "unpinch" "unpinched" ∧ ChAt w K mg a "over" "put_over" ∧ ChAt w K mg a "about" "put_about" ∧ ChAt w K mg a "paint" "painted" ∧ ChAt w K mg a "mark" "marked" ∧ ChAt w K mg a "wash" "washed" ∧ ChAt w K mg a "unfold" "unfolded" ∧ ChAt w K mg a "refold" "refolded"
section
variable {P : Program} {w : World} {K : Fg} {mg : Str → Option Value} {base : Heap} {C : Addr} {ad : Ek → Addr}
theorem i_Paper (T : Tg K mg) (U : TgP K mg C) : Mc P w K mg base 1 "Paper" C ["self", "letters_of_row", "folded_by", "lies_at", "leaves"] (spPapI C) := by
  refine U.init.ok sc_Paper___init__ (fun vs H Q E h => ?_) (fun cdv f A outer s H vs Q E hr h => ?_)
  · obtain ⟨x, dx, r, u1, u2, l, rfl, _⟩ := h
    rfl
  obtain ⟨x, dx, r, u1, u2, l, rfl, ex, q⟩ := h
  refine ⟨_, (pss_cons (ps_fld (pv 0) (pv 1) rfl)
    (pss_cons (ps_fld (pv 0) (pv 2) rfl)
    (pss_cons (ps_fld (pv 0) (pv 3) rfl)
    (pss_one (ps_fld (pv 0) (pv 4) rfl))))), ?_⟩
  refine ⟨.str r, rfl, .ref x, rfl, x, C, dx, [], rfl, ex, U.cp.c, U.cp.n1, by decide, ?_⟩
  refine ⟨u1, rfl, .ref x, rfl, x, C, dx, _, rfl, upd_same, U.cp.c, U.cp.n2, (show 1 < 1000 by decide), ?_⟩
  refine ⟨u2, rfl, .ref x, rfl, x, C, dx, _, rfl, upd_same, U.cp.c, U.cp.n3, (show 2 < 1000 by decide), ?_⟩
  refine ⟨l, rfl, .ref x, rfl, x, C, dx, _, rfl, upd_same, U.cp.c, U.cp.n4, (show 3 < 1000 by decide), ?_⟩
  exact q _ upd_same (fun b ne => by rw [upd_ne ne, upd_ne ne, upd_ne ne, upd_ne ne])
theorem r_check_word_of_way (T : Tg K mg) (X : Exs K mg ad) : DfX P w K mg base 1 "check_word_of_way" ["way"] (spR1 ad (fun (_ : Str) => True) (fun way => if way ∈ waysL then .ok () else .error .badWay)) := by
  have e_BadWay := X.badWay
  refine T.check_word_of_way.okX sc_check_word_of_way len_spR1 (fun cdv f A outer s H vs Q E hr h => ?_)
  obtain ⟨v, x, G, rfl, i, r1, _, o⟩ := h
  cases r1
  have bl := T.bl
  obtain ⟨a_WAYS, m_WAYS, hS⟩ := T.WAYS
  refine ⟨_, (pss_one (ps_if (pt_cmpR op_notIn_seq (pv 0) (pe_glob (v := .ref a_WAYS) (by rfl) m_WAYS rfl) (by rfl))
      (pss_one (L2N.ps_raise rfl (L2N.takes_of rfl rfl rfl rfl) (L2N.pmk_own PySem.F.excBase_ValueError e_BadWay.x e_BadWay.g e_BadWay.k (raises_own e_BadWay.b e_BadWay.t) rfl)))
      pss_nil)), ?_⟩
  refine st_if (G := G) (et_test (ev_notInS (ys := waysL) (ev_var rfl rfl) hS)) i (fun hb G1 H1 g1 => ?_) (fun hb G1 H1 g1 => ?_)
  · have o : Out ad G H Q E (if x ∈ waysL then .ok () else .error .badWay) := o
    rw [if_neg (of_decide_eq_false ((Bool.not_eq_true' _).mp hb))] at o
    exact o G1 H1 g1
  · have o : Out ad G H Q E (if x ∈ waysL then .ok () else .error .badWay) := o
    rw [if_pos (of_decide_eq_true ((Bool.not_eq_false' _).mp hb))] at o
    exact o .non G1 H1 g1 rfl
theorem r_check_way (T : Tg K mg) (X : Exs K mg ad) : DfX P w K mg base 6 "check_way" ["plan", "place", "way"] (spR3 ad (fun (p : Plan) (s : Int × Int) (_ : Str) => isPlanM p = true ∧ Jn p s.1 s.2) (fun _ _ way => if way ∈ waysL then .ok () else .error .badWay)) := by
  have X_check_word_of_way := r_check_word_of_way (P := P) (w := w) (base := base) T X
  refine T.check_way.okX sc_check_way len_spR3 (fun cdv f A outer s H vs Q E hr h => ?_)
  obtain ⟨v, x, v2, x2, v3, x3, G, rfl, i, r1, r2, r3, ⟨hp, hj⟩, o⟩ := h
  cases r3
  have bl := T.bl
  refine ⟨_, (pss_cons (ps_expr (pe_df (q_check_place T) hr (by first | decide | omega) (by rfl) (pa_cons (pv 0) (pa_cons (pv 1) pa_nil))))
    (pss_one (ps_expr (pe_dfS X_check_word_of_way hr (by first | decide | omega) (by rfl) (L2N.takes_of rfl rfl rfl rfl) (pa_cons (pv 2) pa_nil))))), ?_⟩
  refine sq_drop (G := G) (ev_call2 (ev_var rfl r1) (ev_var rfl r2) ⟨hp, hj⟩) i (fun G1 H1 g1 => ?_)
  refine st_dropR (G := G1) (ad := ad) (er_call1 (x := x3) (f := fun way => if way ∈ waysL then .ok () else .error .badWay) (ev_var rfl rfl) trivial) g1.i (fun y e G2 H2 g2 => ?_) (fun k e G2 H2 g2 => ?_)
  · have o : Out ad G H Q E (if x3 ∈ waysL then .ok () else .error .badWay) := o
    rw [e] at o
    exact o .non G2 H2 (g1.trans g2) rfl
  · have o : Out ad G H Q E (if x3 ∈ waysL then .ok () else .error .badWay) := o
    rw [e] at o
    exact o G2 H2 (g1.trans g2)
theorem r_place_behind (T : Tg K mg) (X : Exs K mg ad) : DfX P w K mg base 2 "place_behind" ["thirds", "place", "word", "way"] (spR4 ad (fun (_ : Dct (Int × Int) Int) (_ : Int × Int) (_ _ : Str) => True) (fun d s word way => match cornerM d s way with | some c => .ok (behindM s word c) | none => .error .noPinch)) := by
  have e_NoPinch := X.noPinch
  refine T.place_behind.okX sc_place_behind len_spR4 (fun cdv f A outer s H vs Q E hr h => ?_)
  obtain ⟨v, x, v2, x2, v3, x3, v4, x4, G, rfl, i, r1, r2, r3, r4, _, o⟩ := h
  cases r3; cases r4
  have bl := T.bl
  refine ⟨_, (pss_cons (ps_set (i := 4) sc_place_behind.nd rfl (by first | exact .inl rfl | exact .inr rfl) (pe_df (q_corner_at T) hr (by first | decide | omega) (by rfl) (pa_cons (pv 0) (pa_cons (pv 1) (pa_cons (pv 3) pa_nil)))))
    (pss_cons (ps_if (pt_cmpR op_isN (pv 4) pe_non (nomark _))
      (pss_one (L2N.ps_raise rfl (L2N.takes_of rfl rfl rfl rfl) (L2N.pmk_own PySem.F.excBase_ValueError e_NoPinch.x e_NoPinch.g e_NoPinch.k (raises_own e_NoPinch.b e_NoPinch.t) rfl)))
      pss_nil)
    (pss_cons (ps_asg (pv 1) (pg_tupK (K := K) (n := 2) rfl (pg_tup rfl (pgs_cons (pg_name (i := 5) sc_place_behind.nd rfl (by first | exact .inl rfl | exact .inr rfl)) (pgs_cons (pg_name (i := 6) sc_place_behind.nd rfl (by first | exact .inl rfl | exact .inr rfl)) pgs_nil)))))
    (pss_cons (ps_if (pt_cmpR op_eq (pv 2) pe_str (nomark _))
      (pss_one (ps_ret (pe_tup (pa_cons (pv 4) (pa_cons (pv 5) pa_nil)))))
      pss_nil)
    (pss_one (ps_ret (pe_tup (pa_cons (pv 6) (pa_cons (pv 4) pa_nil))))))))), ?_⟩
  refine sq_set (G := G) (ev_call3 (f := cornerM) (ev_var rfl r1) (ev_var rfl r2) (ev_var rfl rfl) trivial) i (fun cv G1 H1 g1 rc => ?_)
  have o : Out ad G H Q E (match cornerM x x2 x4 with | some c => .ok (behindM x2 x3 c) | none => .error .noPinch) := o
  cases hc : cornerM x x2 x4 with
  | none =>
    rw [hc] at rc o
    refine sq_ifn (G := G1) (et_test (ev_isON (ev_var rfl rc))) g1.i (fun hb G2 H2 g2 => o G2 H2 (g1.trans g2)) (fun hb _ _ _ => by cases hb)
  | some c =>
    rw [hc] at rc o
    refine sq_ifn (G := G1) (et_test (ev_isON (ev_var rfl rc))) g1.i (fun hb _ _ _ => by cases hb) (fun hb G2 H2 g2 => ?_)
    cases rc
    refine sq_pair (G := G2) (x := x2) (ev_var rfl (Rep.mono (g1.g.trans g2.g) r2)) g2.i (fun u w G3 H3 g3 ru rw => ?_)
    cases ru; cases rw
    refine sq_ifn (G := G3) (et_test (ev_eqS (ev_var rfl rfl) ev_str)) g3.i (fun hb G4 H4 g4 => ?_) (fun hb G4 H4 g4 => ?_)
    · refine st_retC (y := behindM x2 x3 c) (G := G4) (ev_tup2 (x := c) (y := x2.1) (ev_var rfl rfl) (ev_var rfl rfl)) g4.i ?_ (fun v G' H' g r => o v G' H' ((((g1.trans g2).trans g3).trans g4).trans g) r)
      unfold behindM
      rw [if_pos (of_decide_eq_true hb)]
    · refine st_retC (y := behindM x2 x3 c) (G := G4) (ev_tup2 (x := x2.2) (y := c) (ev_var rfl rfl) (ev_var rfl rfl)) g4.i ?_ (fun v G' H' g r => o v G' H' ((((g1.trans g2).trans g3).trans g4).trans g) r)
      unfold behindM
      rw [if_neg (of_decide_eq_false hb)]
def goR (p : Plan) (s : Int × Int) (word way : Str) : Except Ek (Int × Int) := if way ∈ waysL then (if (thW p s way).isSome = true then .ok (goneM p s word way) else .error .noPinch) else .error .badWay
theorem r_pinch (T : Tg K mg) (X : Exs K mg ad) : DfX P w K mg base 7 "pinch" ["plan", "place", "way"] (spR3 ad (fun (p : Plan) (s : Int × Int) (_ : Str) => isPlanM p = true ∧ Jn p s.1 s.2) (fun p s way => goR p s sP way)) := by
  have X_check_way := r_check_way (P := P) (w := w) (base := base) T X
  have X_place_behind := r_place_behind (P := P) (w := w) (base := base) T X
  refine T.pinch.okX sc_pinch len_spR3 (fun cdv f A outer s H vs Q E hr h => ?_)
  obtain ⟨v, x, v2, x2, v3, x3, G, rfl, i, r1, r2, r3, hh, o⟩ := h
  cases r3
  have bl := T.bl
  refine ⟨_, (pss_cons (ps_expr (pe_dfS X_check_way hr (by first | decide | omega) (by rfl) (L2N.takes_of rfl rfl rfl rfl) (pa_cons (pv 0) (pa_cons (pv 1) (pa_cons (pv 2) pa_nil)))))
    (pss_one (ps_ret (pe_dfS X_place_behind hr (by first | decide | omega) (by rfl) (L2N.takes_of rfl rfl rfl rfl) (pa_cons (pe_df (q_thirds_of T) hr (by first | decide | omega) (by rfl) (pa_cons (pv 0) pa_nil)) (pa_cons (pv 1) (pa_cons pe_str (pa_cons (pv 2) pa_nil)))))))), ?_⟩
  refine sq_dropR (G := G) (ad := ad) (er_call3 (x := x) (y := x2) (z := x3) (f := fun _ _ way => if way ∈ waysL then .ok () else .error .badWay) (ev_var rfl r1) (ev_var rfl r2) (ev_var rfl rfl) hh) i (fun y e G1 H1 g1 => ?_) (fun k e G1 H1 g1 => ?_)
  · have hw : x3 ∈ waysL := by
      apply Classical.byContradiction
      intro z
      rw [if_neg z] at e
      cases e
    refine st_retR (G := G1) (ad := ad) (er_call4 (f := fun d s word way => match cornerM d s way with | some c => .ok (behindM s word c) | none => .error .noPinch) (ev_call1 (f := thirdsM) (ev_var rfl (Rep.mono g1.g r1)) hh.1) (ev_var rfl (Rep.mono g1.g r2)) ev_str (ev_var rfl rfl) trivial) g1.i ?_
    have o := o.after g1
    have o : Out ad G1 H1 Q E (goR x x2 sP x3) := o
    unfold goR at o
    rw [if_pos hw] at o
    show Out ad G1 H1 Q E (match cornerM (thirdsM x) x2 x3 with | some c => .ok (behindM x2 _ c) | none => .error .noPinch)
    rw [corner_th hh.1 hh.2]
    unfold goneM at o
    cases ht : thW x x2 x3 with
    | none => rw [ht] at o; exact o
    | some c => rw [ht] at o; exact o
  · have o : Out ad G H Q E (goR x x2 sP x3) := o
    unfold goR at o
    have hw : x3 ∉ waysL := fun z => by rw [if_pos z] at e; cases e
    rw [if_neg hw] at o e
    cases e
    exact o G1 H1 g1

theorem r_unpinch (T : Tg K mg) (X : Exs K mg ad) : DfX P w K mg base 7 "unpinch" ["plan", "place", "way"] (spR3 ad (fun (p : Plan) (s : Int × Int) (_ : Str) => isPlanM p = true ∧ Jn p s.1 s.2) (fun p s way => goR p s "unpinch" way)) := by
  have X_check_way := r_check_way (P := P) (w := w) (base := base) T X
  have X_place_behind := r_place_behind (P := P) (w := w) (base := base) T X
  refine T.unpinch.okX sc_unpinch len_spR3 (fun cdv f A outer s H vs Q E hr h => ?_)
  obtain ⟨v, x, v2, x2, v3, x3, G, rfl, i, r1, r2, r3, hh, o⟩ := h
  cases r3
  have bl := T.bl
  refine ⟨_, (pss_cons (ps_expr (pe_dfS X_check_way hr (by first | decide | omega) (by rfl) (L2N.takes_of rfl rfl rfl rfl) (pa_cons (pv 0) (pa_cons (pv 1) (pa_cons (pv 2) pa_nil)))))
    (pss_one (ps_ret (pe_dfS X_place_behind hr (by first | decide | omega) (by rfl) (L2N.takes_of rfl rfl rfl rfl) (pa_cons (pe_df (q_thirds_of T) hr (by first | decide | omega) (by rfl) (pa_cons (pv 0) pa_nil)) (pa_cons (pv 1) (pa_cons pe_str (pa_cons (pv 2) pa_nil)))))))), ?_⟩
  refine sq_dropR (G := G) (ad := ad) (er_call3 (x := x) (y := x2) (z := x3) (f := fun _ _ way => if way ∈ waysL then .ok () else .error .badWay) (ev_var rfl r1) (ev_var rfl r2) (ev_var rfl rfl) hh) i (fun y e G1 H1 g1 => ?_) (fun k e G1 H1 g1 => ?_)
  · have hw : x3 ∈ waysL := by
      apply Classical.byContradiction
      intro z
      rw [if_neg z] at e
      cases e
    refine st_retR (G := G1) (ad := ad) (er_call4 (f := fun d s word way => match cornerM d s way with | some c => .ok (behindM s word c) | none => .error .noPinch) (ev_call1 (f := thirdsM) (ev_var rfl (Rep.mono g1.g r1)) hh.1) (ev_var rfl (Rep.mono g1.g r2)) ev_str (ev_var rfl rfl) trivial) g1.i ?_
    have o := o.after g1
    have o : Out ad G1 H1 Q E (goR x x2 "unpinch" x3) := o
    unfold goR at o
    rw [if_pos hw] at o
    show Out ad G1 H1 Q E (match cornerM (thirdsM x) x2 x3 with | some c => .ok (behindM x2 _ c) | none => .error .noPinch)
    rw [corner_th hh.1 hh.2]
    unfold goneM at o
    cases ht : thW x x2 x3 with
    | none => rw [ht] at o; exact o
    | some c => rw [ht] at o; exact o
  · have o : Out ad G H Q E (goR x x2 "unpinch" x3) := o
    unfold goR at o
    have hw : x3 ∉ waysL := fun z => by rw [if_pos z] at e; cases e
    rw [if_neg hw] at o e
    cases e
    exact o G1 H1 g1

end


def KindAt (w : World) (K : Fg) (a : Addr) (e : Str × List Str) : Prop := ∃ b, KDct K w a e.1 (.ref b) ∧ ∀ H, SqT K H b (e.2.map V.str)
abbrev ThingsW (w : World) (K : Fg) (mg : Str → Option Value) : Prop := ∃ a, mg "THINGS" = some (.ref a) ∧ (a == sysModules) = false ∧ ∀ e ∈ kindsL, KindAt w K a e
section
variable {σ : L2.St} {G H : Hp} {ta tb te : TE} {K : Fg} {w : World}
theorem ev_notInKD {a : Addr} {z : Str} {v : V} (ha : Ev ta σ G z) (hk : KDct K w a z v) (hs : (a == sysModules) = false) : Ev (tOp (rInKD K w true) ta (tC (.ref a))) σ G false := fun H i Q q => ha H i _ fun u G1 H1 g1 k1 => ⟨a, z, rep_str k1, rfl, hs, .inl ⟨⟨v, hk⟩, q _ G1 H1 g1 rfl⟩⟩
theorem sig_all (l : List Nat) (p : Nat → Bool) : (((l.map fun c => (⟨#[c]⟩ : Str)).map fun y => y.cps.toList.all p).all id) = l.all p := by
  induction l with
  | nil => rfl
  | cons c l ih => rw [List.map_cons, List.map_cons, List.all_cons, List.all_cons, ih]; simp
theorem one_sig {z : Str} (h : z.length = 1) : ∃ c, z = ⟨#[c]⟩ := by
  obtain ⟨⟨l⟩⟩ := z
  match l, h with
  | [c], _ => exact ⟨c, rfl⟩
end
section
variable {P : Program} {w : World} {K : Fg} {mg : Str → Option Value} {base : Heap}
theorem q_is_letter (T : Tg K mg) : Df P w K mg base 1 "is_letter" ["text"] (sp1 (fun (z : Str) => z.length ≤ 90000) letB) := by
  refine T.is_letter.ok sc_is_letter (fun vs H Q E h => ?_) (fun cdv f A outer s H vs Q E hr h => ?_)
  · obtain ⟨v, x, G, rfl, _⟩ := h
    rfl
  obtain ⟨v, z, G, rfl, i, r1, hl, q⟩ := h
  cases r1
  have bl := T.bl
  obtain ⟨t_L, m_LETTERS⟩ := T.LETTERS
  refine ⟨_, (pss_one (ps_ret (pe_and (pe_cmpR op_eq (pe_callB call_len_str (by rfl) (bl "len" (by decide)) (by decide +kernel) (pa_cons (pv 0) pa_nil)) pe_int (nomark _)) (pe_one (pe_cmpR op_inC (pv 0) (pe_glob (v := .str "abcdefghijklmnopqrstuvwxyz") (by rfl) m_LETTERS ⟨_, rfl⟩) (by rfl)))))), ?_⟩
  refine st_ret (G := G) (x := letB z) (Ev.cast (ev_andV (b := z.cps.toList.all lowB) (ev_eqI (ev_lenS (ev_var (x := z) rfl rfl) (by omega)) ev_int) (fun hb => ?_)) ?_) i (fun v G' H' g r => q v G' H' g r)
  · obtain ⟨c, rfl⟩ := one_sig (z := z) (by have := of_decide_eq_true hb; omega)
    exact Ev.cast (ev_inC (c := c) (ev_var rfl rfl) ev_str) (by simp [lowB])
  · unfold letB
    congr 1
    exact decide_eq_decide.mpr (by omega)
theorem q_is_name (T : Tg K mg) : Df P w K mg base 1 "is_name" ["text"] (sp1 (fun (z : Str) => z.length ≤ 90000) nameB) := by
  refine T.is_name.ok sc_is_name (fun vs H Q E h => ?_) (fun cdv f A outer s H vs Q E hr h => ?_)
  · obtain ⟨v, x, G, rfl, _⟩ := h
    rfl
  obtain ⟨v, z, G, rfl, i, r1, hl, q⟩ := h
  cases r1
  have bl := T.bl
  obtain ⟨t_L, m_LETTERS⟩ := T.LETTERS
  obtain ⟨t_N, m_LONGEST_NAME⟩ := T.LONGEST_NAME
  refine ⟨_, (pss_cons (ps_if (PW.pt (pw_or (pt_cmpR op_lt (pe_callB call_len_str (by rfl) (bl "len" (by decide)) (by decide +kernel) (pa_cons (pv 0) pa_nil)) pe_int (nomark _)) (pw_or1 (pt_cmpR op_gt (pe_callB call_len_str (by rfl) (bl "len" (by decide)) (by decide +kernel) (pa_cons (pv 0) pa_nil)) (pe_glob (v := .int 8) (by rfl) m_LONGEST_NAME ⟨_, rfl⟩) (nomark _)))))
      (pss_one (ps_ret pe_bl))
      pss_nil)
    (pss_one (ps_ret (pe_callB (cr_allK (K := K) rfl rfl) (by rfl) (bl "all" (by decide)) (by decide +kernel) (pa_cons (pe_lc (own := [("letter", 1)]) rfl sc_is_name.nd (pi_str (pv 0)) (blkOk_by (own := [("letter", 1)]) (N := N_is_name) (sc := defScope s_is_name) (by decide +kernel)) (fun _ _ _ _ _ => (pg_name (i := 1) sc_is_name.nd rfl (by first | exact .inl rfl | exact .inr rfl))) (fun _ _ _ _ _ => pts_nil) (fun _ _ _ _ _ => (pe_cmpR op_inC (pv 1) (pe_glob (v := .str "abcdefghijklmnopqrstuvwxyz") (by rfl) m_LETTERS ⟨_, rfl⟩) (by rfl)))) pa_nil))))), ?_⟩
  have e1 : decide ((z.length : Int) < 1) = decide (z.length < 1) := decide_eq_decide.mpr (by omega)
  have e2 : decide ((z.length : Int) > 8) = decide (8 < z.length) := decide_eq_decide.mpr (by omega)
  refine sq_ifn (G := G) (et_or (et_test (ev_lt (ev_lenS (ev_var (x := z) rfl rfl) (by omega)) ev_int)) (fun _ => et_test (ev_gt (ev_lenS (ev_var (x := z) rfl rfl) (by omega)) ev_int))) i (fun hb G1 H1 g1 => ?_) (fun hb G1 H1 g1 => ?_)
  · refine st_ret (G := G1) (x := nameB z) (Ev.cast (ev_bl (n := false)) ?_) g1.i (fun v G' H' g r => q v G' H' (g1.trans g) r)
    rw [e1, e2] at hb
    unfold nameB
    rw [hb]; rfl
  · refine st_ret (G := G1) (x := nameB z) (Ev.cast (ev_all (ev_lc (xs := z.cps.toList.map fun c => (⟨#[c]⟩ : Str)) (f := fun y => y.cps.toList.all lowB) (ei_str (ev_var (x := z) rfl rfl)) (by rw [List.length_map, ← TL.len_tl]; omega) ?_)) ?_) g1.i (fun v G' H' g r => q v G' H' (g1.trans g) r)
    · intro y hy v1 G9 s9 rx
      obtain ⟨c, _, rfl⟩ := List.mem_map.mp hy
      exact gb_name ⟨rfl, Ev.cast (ev_inC (c := c) (ev_var rfl rx) ev_str) (by simp [lowB])⟩
    · rw [e1, e2] at hb
      rw [sig_all]
      unfold nameB
      rw [hb]; rfl
end

section
variable {P : Program} {w : World} {K : Fg} {mg : Str → Option Value} {base : Heap} {C : Addr} {ad : Ek → Addr}
abbrev GP (p : Pap K C) : Prop := GoodP 80000 p.m
theorem r_check_folded (T : Tg K mg) (U : TgP K mg C) (X : Exs K mg ad) : DfX P w K mg base 1 "check_folded" ["paper"] (spR1 ad (fun (_ : Pap K C) => True) (fun p => if p.m.fold.isNone = true then .error .unfolded else .ok ())) := by
  have e_Unfolded := X.unfolded
  refine T.check_folded.okX sc_check_folded len_spR1 (fun cdv f A outer s H vs Q E hr h => ?_)
  obtain ⟨v, ⟨p⟩, G, rfl, i, r1, _, o⟩ := h
  have o : Out ad G H Q E (if p.fold.isNone = true then (.error .unfolded : Except Ek Unit) else .ok ()) := o
  refine ⟨_, (pss_one (ps_if (pt_cmpR op_isN (pe_fld (pv 0) rfl) pe_non (nomark _))
      (pss_one (L2N.ps_raise rfl (L2N.takes_of rfl rfl rfl rfl) (L2N.pmk_own PySem.F.excBase_ValueError e_Unfolded.x e_Unfolded.g e_Unfolded.k (raises_own e_Unfolded.b e_Unfolded.t) rfl)))
      pss_nil)), ?_⟩
  refine st_if (G := G) (et_test (ev_isfN U.cp (ev_var rfl r1))) i (fun hb G1 H1 g1 => ?_) (fun hb G1 H1 g1 => ?_)
  · rw [if_pos hb] at o
    exact o G1 H1 g1
  · rw [if_neg (by rw [hb]; decide)] at o
    exact o .non G1 H1 g1 rfl
/-- check_folded(paper), and then -/
theorem sq_folded {p : PapM} {W : WX} {σ : L2.St} {G H : Hp} {ta : TE} {D : Ends} {u : TS} (ha : Ev ta σ G (Pap.mk p : Pap K C)) (s : Same G H) (k : ∀ f, p.fold = some f → ∀ G' H', Gr M0 G H G' H' → u D σ H') (ke : p.fold = none → ∀ G' H', Gr M0 G H G' H' → WE W σ (.ref (ad .unfolded)) none H') :
    tSeq (tDrop (tCallS (spR1 ad (fun (_ : Pap K C) => True) (fun p => if p.m.fold.isNone = true then .error .unfolded else .ok ())) (WE W) (tCons ta tNil))) u D σ H := by
  refine sq_dropR (ad := ad) (er_call1 (x := (Pap.mk p : Pap K C)) (f := fun (p : Pap K C) => if p.m.fold.isNone = true then (.error .unfolded : Except Ek Unit) else .ok ()) ha trivial) s (fun y e G1 H1 g1 => ?_) (fun e0 e G1 H1 g1 => ?_)
  · cases hf : p.fold with
    | none =>
      have e : (if p.fold.isNone = true then (.error .unfolded : Except Ek Unit) else .ok ()) = .ok y := e
      rw [hf] at e; cases e
    | some f => exact k f hf G1 H1 g1
  · have e : (if p.fold.isNone = true then (.error .unfolded : Except Ek Unit) else .ok ()) = .error e0 := e
    cases hf : p.fold with
    | none => rw [hf] at e; cases e; exact ke hf G1 H1 g1
    | some f => rw [hf] at e; cases e
def spotM (p : PapM) : Int × Int := match p.fold with
  | some f => (f.2.a, f.2.b)
  | none => (0, 0)
theorem q_place_of (T : Tg K mg) (U : TgP K mg C) : Df P w K mg base 1 "place_of" ["paper"] (sp1 (fun (p : Pap K C) => p.m.fold.isSome = true) (fun p => spotM p.m)) := by
  refine T.place_of.ok sc_place_of (fun vs H Q E h => ?_) (fun cdv f A outer s H vs Q E hr h => ?_)
  · obtain ⟨v, x, G, rfl, _⟩ := h
    rfl
  obtain ⟨v, ⟨p⟩, G, rfl, i, r1, hf, q⟩ := h
  obtain ⟨f, hf⟩ := Option.isSome_iff_exists.mp hf
  have hf : p.fold = some f := hf
  refine ⟨_, (pss_cons (ps_asg (pe_fld (pv 0) rfl) (pg_tupK (K := K) (n := 3) rfl (pg_tup rfl (pgs_cons (pg_name (i := 1) sc_place_of.nd rfl (by first | exact .inl rfl | exact .inr rfl)) (pgs_cons (pg_name (i := 2) sc_place_of.nd rfl (by first | exact .inl rfl | exact .inr rfl)) (pgs_cons (pg_name (i := 3) sc_place_of.nd rfl (by first | exact .inl rfl | exact .inr rfl)) pgs_nil))))))
    (pss_one (ps_ret (pe_tup (pa_cons (pv 1) (pa_cons (pv 2) pa_nil)))))), ?_⟩
  refine sq_lie (K := K) (G := G) (x := f.2) (ev_flie U.cp (ev_var rfl r1) hf) i (fun G1 H1 g1 => ?_)
  exact st_retC (G := G1) (y := spotM p) (ev_tup2 (x := f.2.a) (y := f.2.b) (ev_var rfl rfl) (ev_var rfl rfl)) g1.i (by unfold spotM; rw [hf]) (fun v G' H' g r => q v G' H' (g1.trans g) r)
def lieM (p : PapM) (l : T3) : PapM := { p with fold := p.fold.map fun f => (f.1, l) }
theorem q_lying (T : Tg K mg) (U : TgP K mg C) : Df P w K mg base 3 "lying" ["paper", "lie"] (sp2 (fun (p : Pap K C) (_ : Lie3 K) => p.m.fold.isSome = true) (fun p l => (Pap.mk (lieM p.m l.t) : Pap K C))) := by
  have I_Paper := i_Paper (P := P) (w := w) (base := base) T U
  refine T.lying.ok sc_lying len_sp2 (fun cdv f A outer s H vs Q E hr h => ?_)
  obtain ⟨v, ⟨p⟩, v2, ⟨l⟩, G, rfl, i, r1, r2, hf, q⟩ := h
  obtain ⟨f, hf⟩ := Option.isSome_iff_exists.mp hf
  have hf : p.fold = some f := hf
  refine ⟨_, (pss_one (ps_ret (pe_mc I_Paper hr (by first | decide | omega) (by rfl) takes_n5 (pa_cons (pe_fld (pv 0) rfl) (pa_cons (pe_fld (pv 0) rfl) (pa_cons (pv 1) (pa_cons (pe_fld (pv 0) rfl) pa_nil))))))), ?_⟩
  refine st_ret (G := G) (x := (Pap.mk (lieM p l) : Pap K C)) (ev_pap (f := (f.1, l)) (by unfold lieM; rw [hf]; rfl) (ev_row (p := p) U.cp (ev_var rfl r1)) (ev_fplan (p := p) (f := f) U.cp (ev_var rfl r1) hf) (ev_var rfl r2) (ev_lvs (p := p) U.cp (ev_var rfl r1))) i (fun v G' H' g r => q v G' H' g r)
def frontM (p : PapM) : Int := match p.fold with
  | some f => f.2.c
  | none => 0
theorem q_moved (T : Tg K mg) (U : TgP K mg C) : Df P w K mg base 4 "moved" ["paper", "place"] (sp2 (fun (p : Pap K C) (_ : Int × Int) => p.m.fold.isSome = true) (fun p s => (Pap.mk (lieM p.m ⟨s.1, s.2, frontM p.m⟩) : Pap K C))) := by
  have D1 := q_lying (P := P) (w := w) (base := base) T U
  refine T.moved.ok sc_moved len_sp2 (fun cdv f A outer s H vs Q E hr h => ?_)
  obtain ⟨v, ⟨p⟩, v2, x2, G, rfl, i, r1, r2, hf0, q⟩ := h
  obtain ⟨f, hf⟩ := Option.isSome_iff_exists.mp hf0
  have hf : p.fold = some f := hf
  have ef : frontM p = f.2.c := by unfold frontM; rw [hf]
  have q : ∀ v G' H', Gr M0 G H G' H' → rep G' v (Pap.mk (lieM p ⟨x2.1, x2.2, frontM p⟩) : Pap K C) → Q v H' := q
  rw [ef] at q
  refine ⟨_, (pss_cons (ps_asg (pv 1) (pg_tupK (K := K) (n := 2) rfl (pg_tup rfl (pgs_cons (pg_name (i := 2) sc_moved.nd rfl (by first | exact .inl rfl | exact .inr rfl)) (pgs_cons (pg_name (i := 3) sc_moved.nd rfl (by first | exact .inl rfl | exact .inr rfl)) pgs_nil)))))
    (pss_one (ps_ret (pe_df D1 hr (by first | decide | omega) (by rfl) (pa_cons (pv 0) (pa_cons (pe_tup (pa_cons (pv 2) (pa_cons (pv 3) (pa_cons (pe_ix (ix_tupK (K := K) rfl) (pe_fld (pv 0) rfl) pe_int (fun _ _ => rfl)) pa_nil)))) pa_nil)))))), ?_⟩
  refine sq_pair (G := G) (x := x2) (ev_var rfl r2) i (fun u1 u2 G1 H1 g1 k1 k2 => ?_)
  cases k1; cases k2
  have r1 := Rep.mono g1.g r1
  exact st_ret (G := G1) (x := (Pap.mk (lieM p ⟨x2.1, x2.2, f.2.c⟩) : Pap K C)) (ev_call2 (f := fun (p : Pap K C) (l : Lie3 K) => (Pap.mk (lieM p.m l.t) : Pap K C)) (x := Pap.mk p) (x2 := Lie3.mk ⟨x2.1, x2.2, f.2.c⟩) (ev_var rfl r1) (ev_lieOf (ev_tup3 (x := x2.1) (y := x2.2) (z := f.2.c) (ev_var rfl rfl) (ev_var rfl rfl) (ev_l2 (x := f.2) (ev_flie U.cp (ev_var rfl r1) hf)))) hf0) g1.i (fun v G' H' g r => q v G' H' (g1.trans g) r)
theorem lie_moved {p : PapM} {f : Plan × T3} (hf : p.fold = some f) (s : Int × Int) : lieM p ⟨s.1, s.2, frontM p⟩ = mvdM p f s := by
  unfold lieM mvdM frontM
  rw [hf]
  rfl
theorem r_pinched (T : Tg K mg) (U : TgP K mg C) (X : Exs K mg ad) : DfX P w K mg base 8 "pinched" ["paper", "way"] (spR2 ad (fun (p : Pap K C) (_ : Str) => GP p) (fun p way => (pinM sP p.m way).map (Pap.mk (K := K) (C := C)))) := by
  have D1 := q_place_of (P := P) (w := w) (base := base) T U
  have D2 := q_moved (P := P) (w := w) (base := base) T U
  have X1 := r_check_folded (P := P) (w := w) (base := base) T U X
  have X2 := r_pinch (P := P) (w := w) (base := base) T X
  refine T.pinched.okX sc_pinched len_spR2 (fun cdv f A outer s H vs Q E hr h => ?_)
  obtain ⟨v, ⟨p⟩, v2, x2, G, rfl, i, r1, r2, g, o⟩ := h
  cases r2
  have g : GoodP 80000 p := g
  have o : Out ad G H Q E ((pinM sP p x2).map (Pap.mk (K := K) (C := C))) := o
  unfold pinM at o
  refine ⟨_, (pss_cons (ps_expr (pe_dfS X1 hr (by first | decide | omega) (by rfl) (L2N.takes_of rfl rfl rfl rfl) (pa_cons (pv 0) pa_nil)))
    (pss_one (ps_ret (pe_df D2 hr (by first | decide | omega) (by rfl) (pa_cons (pv 0) (pa_cons (pe_dfS X2 hr (by first | decide | omega) (by rfl) (L2N.takes_of rfl rfl rfl rfl) (pa_cons (pe_fld (pv 0) rfl) (pa_cons (pe_df D1 hr (by first | decide | omega) (by rfl) (pa_cons (pv 0) pa_nil)) (pa_cons (pv 1) pa_nil)))) pa_nil)))))), ?_⟩
  refine sq_folded (G := G) (ev_var rfl r1) i (fun f hf G1 H1 g1 => ?_) (fun hf G1 H1 g1 => ?_)
  · rw [hf] at o
    have hs : p.fold.isSome = true := by rw [hf]; rfl
    have r1 := Rep.mono g1.g r1
    have gf := g.fold f hf
    have sp : spotM p = (f.2.a, f.2.b) := by unfold spotM; rw [hf]
    refine st_retR (G := G1) (ad := ad) (er_call2b (f := fun (p : Pap K C) (s : Int × Int) => (Pap.mk (lieM p.m ⟨s.1, s.2, frontM p.m⟩) : Pap K C)) (x := Pap.mk p) (r := goR f.1 (f.2.a, f.2.b) sP x2) (ev_var rfl r1) (er_call3 (x := f.1) (y := (f.2.a, f.2.b)) (z := x2) (f := fun p s way => goR p s sP way) (ev_fplan U.cp (ev_var rfl r1) hf) (Ev.cast (ev_call1 (f := fun (p : Pap K C) => spotM p.m) (x := Pap.mk p) (ev_var rfl r1) hs) sp) (ev_var rfl rfl) ⟨gf.1, gf.2.1⟩) (fun y _ => hs)) g1.i ?_
    have o := o.after g1
    have e : (goR f.1 (f.2.a, f.2.b) sP x2).map (fun s => (Pap.mk (lieM p ⟨s.1, s.2, frontM p⟩) : Pap K C)) = (if x2 ∈ waysL then (if (thW f.1 (f.2.a, f.2.b) x2).isSome = true then (.ok (mvdM p f (goneM f.1 (f.2.a, f.2.b) sP x2)) : Except Ek PapM) else .error .noPinch) else .error .badWay).map (Pap.mk (K := K) (C := C)) := by
      unfold goR
      split
      · split
        · exact congrArg (fun q => Except.ok (Pap.mk (K := K) (C := C) q)) (lie_moved hf _)
        · rfl
      · rfl
    show Out ad G1 H1 Q E ((goR f.1 (f.2.a, f.2.b) sP x2).map (fun s => (Pap.mk (lieM p ⟨s.1, s.2, frontM p⟩) : Pap K C)))
    rw [e]
    exact o
  · rw [hf] at o
    exact o G1 H1 g1

theorem r_unpinched (T : Tg K mg) (U : TgP K mg C) (X : Exs K mg ad) : DfX P w K mg base 8 "unpinched" ["paper", "way"] (spR2 ad (fun (p : Pap K C) (_ : Str) => GP p) (fun p way => (pinM "unpinch" p.m way).map (Pap.mk (K := K) (C := C)))) := by
  have D1 := q_place_of (P := P) (w := w) (base := base) T U
  have D2 := q_moved (P := P) (w := w) (base := base) T U
  have X1 := r_check_folded (P := P) (w := w) (base := base) T U X
  have X2 := r_unpinch (P := P) (w := w) (base := base) T X
  refine T.unpinched.okX sc_unpinched len_spR2 (fun cdv f A outer s H vs Q E hr h => ?_)
  obtain ⟨v, ⟨p⟩, v2, x2, G, rfl, i, r1, r2, g, o⟩ := h
  cases r2
  have g : GoodP 80000 p := g
  have o : Out ad G H Q E ((pinM "unpinch" p x2).map (Pap.mk (K := K) (C := C))) := o
  unfold pinM at o
  refine ⟨_, (pss_cons (ps_expr (pe_dfS X1 hr (by first | decide | omega) (by rfl) (L2N.takes_of rfl rfl rfl rfl) (pa_cons (pv 0) pa_nil)))
    (pss_one (ps_ret (pe_df D2 hr (by first | decide | omega) (by rfl) (pa_cons (pv 0) (pa_cons (pe_dfS X2 hr (by first | decide | omega) (by rfl) (L2N.takes_of rfl rfl rfl rfl) (pa_cons (pe_fld (pv 0) rfl) (pa_cons (pe_df D1 hr (by first | decide | omega) (by rfl) (pa_cons (pv 0) pa_nil)) (pa_cons (pv 1) pa_nil)))) pa_nil)))))), ?_⟩
  refine sq_folded (G := G) (ev_var rfl r1) i (fun f hf G1 H1 g1 => ?_) (fun hf G1 H1 g1 => ?_)
  · rw [hf] at o
    have hs : p.fold.isSome = true := by rw [hf]; rfl
    have r1 := Rep.mono g1.g r1
    have gf := g.fold f hf
    have sp : spotM p = (f.2.a, f.2.b) := by unfold spotM; rw [hf]
    refine st_retR (G := G1) (ad := ad) (er_call2b (f := fun (p : Pap K C) (s : Int × Int) => (Pap.mk (lieM p.m ⟨s.1, s.2, frontM p.m⟩) : Pap K C)) (x := Pap.mk p) (r := goR f.1 (f.2.a, f.2.b) "unpinch" x2) (ev_var rfl r1) (er_call3 (x := f.1) (y := (f.2.a, f.2.b)) (z := x2) (f := fun p s way => goR p s "unpinch" way) (ev_fplan U.cp (ev_var rfl r1) hf) (Ev.cast (ev_call1 (f := fun (p : Pap K C) => spotM p.m) (x := Pap.mk p) (ev_var rfl r1) hs) sp) (ev_var rfl rfl) ⟨gf.1, gf.2.1⟩) (fun y _ => hs)) g1.i ?_
    have o := o.after g1
    have e : (goR f.1 (f.2.a, f.2.b) "unpinch" x2).map (fun s => (Pap.mk (lieM p ⟨s.1, s.2, frontM p⟩) : Pap K C)) = (if x2 ∈ waysL then (if (thW f.1 (f.2.a, f.2.b) x2).isSome = true then (.ok (mvdM p f (goneM f.1 (f.2.a, f.2.b) "unpinch" x2)) : Except Ek PapM) else .error .noPinch) else .error .badWay).map (Pap.mk (K := K) (C := C)) := by
      unfold goR
      split
      · split
        · exact congrArg (fun q => Except.ok (Pap.mk (K := K) (C := C) q)) (lie_moved hf _)
        · rfl
      · rfl
    show Out ad G1 H1 Q E ((goR f.1 (f.2.a, f.2.b) "unpinch" x2).map (fun s => (Pap.mk (lieM p ⟨s.1, s.2, frontM p⟩) : Pap K C)))
    rw [e]
    exact o
  · rw [hf] at o
    exact o G1 H1 g1

theorem r_put_over (T : Tg K mg) (U : TgP K mg C) (X : Exs K mg ad) : DfX P w K mg base 5 "put_over" ["paper"] (spR1 ad (fun (p : Pap K C) => GP p) (fun p => (overM p.m).map (Pap.mk (K := K) (C := C)))) := by
  have D1 := q_place_of (P := P) (w := w) (base := base) T U
  have D2 := q_moved (P := P) (w := w) (base := base) T U
  have X1 := r_check_folded (P := P) (w := w) (base := base) T U X
  refine T.put_over.okX sc_put_over len_spR1 (fun cdv f A outer s H vs Q E hr h => ?_)
  obtain ⟨v, ⟨p⟩, G, rfl, i, r1, g, o⟩ := h
  have o : Out ad G H Q E ((overM p).map (Pap.mk (K := K) (C := C))) := o
  unfold overM at o
  refine ⟨_, (pss_cons (ps_expr (pe_dfS X1 hr (by first | decide | omega) (by rfl) (L2N.takes_of rfl rfl rfl rfl) (pa_cons (pv 0) pa_nil)))
    (pss_one (ps_ret (pe_df D2 hr (by first | decide | omega) (by rfl) (pa_cons (pv 0) (pa_cons (pe_df (q_turned_over T) hr (by first | decide | omega) (by rfl) (pa_cons (pe_df D1 hr (by first | decide | omega) (by rfl) (pa_cons (pv 0) pa_nil)) pa_nil)) pa_nil)))))), ?_⟩
  refine sq_folded (G := G) (ev_var rfl r1) i (fun f hf G1 H1 g1 => ?_) (fun hf G1 H1 g1 => ?_)
  · rw [hf] at o
    have hs : p.fold.isSome = true := by rw [hf]; rfl
    have r1 := Rep.mono g1.g r1
    exact st_retC (G := G1) (y := (Pap.mk (mvdM p f (f.2.b, f.2.a)) : Pap K C)) (ev_call2 (f := fun (p : Pap K C) (s : Int × Int) => (Pap.mk (lieM p.m ⟨s.1, s.2, frontM p.m⟩) : Pap K C)) (x := Pap.mk p) (x2 := swapP (spotM p)) (ev_var rfl r1) (ev_call1 (f := swapP) (ev_call1 (f := fun (p : Pap K C) => spotM p.m) (x := Pap.mk p) (ev_var rfl r1) hs) trivial) hs) g1.i (by rw [← lie_moved hf]; unfold swapP spotM; rw [hf]) (fun v G' H' g r => o v G' H' (g1.trans g) r)
  · rw [hf] at o
    exact o G1 H1 g1
theorem r_put_about (T : Tg K mg) (U : TgP K mg C) (X : Exs K mg ad) : DfX P w K mg base 5 "put_about" ["paper"] (spR1 ad (fun (p : Pap K C) => GP p) (fun p => (aboutM p.m).map (Pap.mk (K := K) (C := C)))) := by
  have D1 := q_lying (P := P) (w := w) (base := base) T U
  have X1 := r_check_folded (P := P) (w := w) (base := base) T U X
  refine T.put_about.okX sc_put_about len_spR1 (fun cdv f A outer s H vs Q E hr h => ?_)
  obtain ⟨v, ⟨p⟩, G, rfl, i, r1, g, o⟩ := h
  have o : Out ad G H Q E ((aboutM p).map (Pap.mk (K := K) (C := C))) := o
  unfold aboutM at o
  refine ⟨_, (pss_cons (ps_expr (pe_dfS X1 hr (by first | decide | omega) (by rfl) (L2N.takes_of rfl rfl rfl rfl) (pa_cons (pv 0) pa_nil)))
    (pss_cons (ps_asg (pe_fld (pv 0) rfl) (pg_tupK (K := K) (n := 3) rfl (pg_tup rfl (pgs_cons (pg_name (i := 1) sc_put_about.nd rfl (by first | exact .inl rfl | exact .inr rfl)) (pgs_cons (pg_name (i := 2) sc_put_about.nd rfl (by first | exact .inl rfl | exact .inr rfl)) (pgs_cons (pg_name (i := 3) sc_put_about.nd rfl (by first | exact .inl rfl | exact .inr rfl)) pgs_nil))))))
    (pss_one (ps_ret (pe_df D1 hr (by first | decide | omega) (by rfl) (pa_cons (pv 0) (pa_cons (pe_tup (pa_cons (pv 1) (pa_cons (pv 2) (pa_cons (pe_op op_mod (pe_op op_add (pv 3) pe_int) pe_int) pa_nil)))) pa_nil))))))), ?_⟩
  refine sq_folded (G := G) (ev_var rfl r1) i (fun f hf G1 H1 g1 => ?_) (fun hf G1 H1 g1 => ?_)
  · rw [hf] at o
    have hs : p.fold.isSome = true := by rw [hf]; rfl
    refine sq_lie (K := K) (G := G1) (x := f.2) (ev_flie U.cp (ev_var rfl (Rep.mono g1.g r1)) hf) g1.i (fun G2 H2 g2 => ?_)
    exact st_retC (G := G2) (y := (Pap.mk { p with fold := some (f.1, ⟨f.2.a, f.2.b, (f.2.c + 1) % 3⟩) } : Pap K C)) (ev_call2 (f := fun (p : Pap K C) (l : Lie3 K) => (Pap.mk (lieM p.m l.t) : Pap K C)) (x := Pap.mk p) (x2 := Lie3.mk ⟨f.2.a, f.2.b, (f.2.c + 1) % 3⟩) (ev_var rfl (Rep.mono (g1.g.trans g2.g) r1)) (ev_lieOf (ev_tup3 (x := f.2.a) (y := f.2.b) (z := (f.2.c + 1) % 3) (ev_var rfl rfl) (ev_var rfl rfl) (ev_mod (ev_add (ev_var rfl rfl) ev_int) ev_int (by decide)))) hs) g2.i (by unfold lieM; rw [hf]; rfl) (fun v G' H' g r => o v G' H' ((g1.trans g2).trans g) r)
  · rw [hf] at o
    exact o G1 H1 g1
theorem r_top_of_slot (T : Tg K mg) (U : TgP K mg C) (O : OthHd w K mg) (X : Exs K mg ad) : DfX P w K mg base 45 "top_of_slot" ["paper", "slot"] (spR2 ad (fun (p : Pap K C) (_ : Int) => GP p) (fun p s => topM p.m s)) := by
  have D1 := q_ring (P := P) (w := w) (base := base) T O
  have X1 := r_check_folded (P := P) (w := w) (base := base) T U X
  have e_BadSlot := X.badSlot
  refine T.top_of_slot.okX sc_top_of_slot len_spR2 (fun cdv f A outer s H vs Q E hr h => ?_)
  obtain ⟨v, ⟨p⟩, v2, x2, G, rfl, i, r1, r2, g, o⟩ := h
  cases r2
  have g : GoodP 80000 p := g
  have o : Out ad G H Q E (topM p x2) := o
  unfold topM at o
  refine ⟨_, (pss_cons (ps_expr (pe_dfS X1 hr (by first | decide | omega) (by rfl) (L2N.takes_of rfl rfl rfl rfl) (pa_cons (pv 0) pa_nil)))
    (pss_cons (ps_if (PW.pt (pw_or (pt_cmpR op_lt (pv 1) pe_int (nomark _)) (pw_or1 (pt_cmpR op_gt (pv 1) pe_int (nomark _)))))
      (pss_one (L2N.ps_raise rfl (L2N.takes_of rfl rfl rfl rfl) (L2N.pmk_own PySem.F.excBase_ValueError e_BadSlot.x e_BadSlot.g e_BadSlot.k (raises_own e_BadSlot.b e_BadSlot.t) rfl)))
      pss_nil)
    (pss_one (ps_ret (pe_ix (ix_listK (K := K) rfl) (pe_df D1 hr (by first | decide | omega) (by rfl) (pa_cons (pe_fld (pv 0) rfl) (pa_cons (pe_fld (pv 0) rfl) pa_nil))) (pv 1) (fun _ _ => rfl)))))), ?_⟩
  refine sq_folded (G := G) (ev_var rfl r1) i (fun f hf G1 H1 g1 => ?_) (fun hf G1 H1 g1 => ?_)
  · rw [hf] at o
    have o : Out ad G H Q E (if 0 ≤ x2 ∧ x2 ≤ 5 then (.ok (ix (ringM f.1 f.2) x2) : Except Ek _) else .error .badSlot) := o
    have r1 := Rep.mono g1.g r1
    have gf := g.fold f hf
    refine sq_ifn (G := G1) (et_or (et_test (ev_lt (ev_var rfl rfl) ev_int)) (fun _ => et_test (ev_gt (ev_var rfl rfl) ev_int))) g1.i (fun hb G2 H2 g2 => ?_) (fun hb G2 H2 g2 => ?_)
    · rw [if_neg (fun z => by rw [decide_eq_false (by omega), decide_eq_false (by omega)] at hb; cases hb)] at o
      exact o G2 H2 (g1.trans g2)
    · have hb := Bool.or_eq_false_iff.mp hb
      have b1 := of_decide_eq_false hb.1
      have b2 := of_decide_eq_false hb.2
      rw [if_pos (by omega)] at o
      have r1 := Rep.mono g2.g r1
      exact st_ret (G := G2) (ev_ixL (xs := ringM f.1 f.2) (i := x2) (ev_call2 (f := fun p (l : Lie3 K) => ringM p l.t) (x := f.1) (x2 := Lie3.mk f.2) (ev_fplan U.cp (ev_var rfl r1) hf) (ev_flie U.cp (ev_var rfl r1) hf) ⟨gf.1, gf.2.1, gf.2.2.1, gf.2.2.2.1⟩) (ev_var rfl rfl) (by rw [ring_len]; omega)) g2.i (fun v G' H' g r => o v G' H' ((g1.trans g2).trans g) r)
  · rw [hf] at o
    exact o G1 H1 g1
theorem q_on_leaf (T : Tg K mg) (U : TgP K mg C) : Df P w K mg base 1 "on_leaf" ["paper", "copy", "side"] (sp3 (fun (_ : Pap K C) (_ : Int) (_ : Str) => True) (fun p c s => (LeafV.mk (onLeafM p.m.lv (c, s)) : LeafV K))) := by
  obtain ⟨a_BARE, m_BARE, hS⟩ := T.BARE
  refine T.on_leaf.ok sc_on_leaf (fun vs H Q E h => ?_) (fun cdv f A outer s H vs Q E hr h => ?_)
  · obtain ⟨v, x, v2, x2, v3, x3, G, rfl, _⟩ := h
    rfl
  obtain ⟨v, ⟨p⟩, v2, x2, v3, x3, G, rfl, i, r1, r2, r3, _, q⟩ := h
  cases r2; cases r3
  refine ⟨_, (pss_one (ps_ret (pe_dget2 (hu_of hr) (pe_fld (pv 0) rfl) (pe_tup (pa_cons (pv 1) (pa_cons (pv 2) pa_nil))) (pe_glob (v := .ref a_BARE) (by rfl) m_BARE rfl) ⟨rfl, rfl, rfl, rfl⟩))), ?_⟩
  refine st_retC (G := G) (y := (LeafV.mk (onLeafM p.lv (x2, x3)) : LeafV K)) (ev_tget2 (k := (x2, x3)) (z := (LeafV.mk BareL : LeafV K)) (ev_lvs U.cp (ev_var rfl r1)) (ev_tup2 (ev_var rfl rfl) (ev_var rfl rfl)) (ev_c ⟨a_BARE, rfl, hS _⟩)) i ?_ (fun v G' H' g r => q v G' H' g r)
  show (look (lvK K p.lv) (x2, x3)).getD _ = _
  rw [lvK_look]
  unfold onLeafM
  cases look p.lv (x2, x3) <;> rfl
theorem q_with_leaf (T : Tg K mg) (U : TgP K mg C) : Df P w K mg base 3 "with_leaf" ["paper", "copy", "side", "told"] (sp4 (fun (p : Pap K C) (_ : Int) (_ : Str) (_ : LeafV K) => p.m.fold.isSome = true ∧ GP p) (fun p c s t => (Pap.mk (withM p.m (c, s) t.p) : Pap K C))) := by
  have I_Paper := i_Paper (P := P) (w := w) (base := base) T U
  refine T.with_leaf.ok sc_with_leaf (fun vs H Q E h => ?_) (fun cdv f A outer s H vs Q E hr h => ?_)
  · obtain ⟨v, x, v2, x2, v3, x3, v4, x4, G, rfl, _⟩ := h
    rfl
  obtain ⟨v, ⟨p⟩, v2, x2, v3, x3, v4, ⟨t⟩, G, rfl, i, r1, r2, r3, r4, ⟨hf, g⟩, q⟩ := h
  cases r2; cases r3
  have g : GoodP 80000 p := g
  have hl := g.lv
  obtain ⟨f, hf⟩ := Option.isSome_iff_exists.mp hf
  have hf : p.fold = some f := hf
  refine ⟨_, (pss_cons (ps_lock (ps_setDcT (i := 4) (own := [("key", 5)]) rfl sc_with_leaf.nd rfl rfl (swD_true rfl rfl rfl (by decide +kernel)) (hu_of hr) (pi_keys (pe_fld (pv 0) rfl)) (blkOk_by (own := [("key", 5)]) (N := N_with_leaf) (sc := defScope s_with_leaf) (by decide +kernel)) (fun _ _ _ _ _ => (pg_name (i := 5) sc_with_leaf.nd rfl (by first | exact .inl rfl | exact .inr rfl))) (fun _ _ _ _ _ => (pv 5)) (fun _ _ _ _ _ => (pe_dget (td := tFld K (tVar 0) "leaves") (hu_of hr) (by exact (pe_fld (pv 0) rfl)) (pv 5) (fun _ _ => rfl)))))
    (pss_cons (ps_dput (hu_of hr) (pv 4) (pe_tup (pa_cons (pv 1) (pa_cons (pv 2) pa_nil))) (pv 3) rfl)
    (pss_one (ps_ret (pe_mc I_Paper hr (by first | decide | omega) (by rfl) takes_n5 (pa_cons (pe_fld (pv 0) rfl) (pa_cons (pe_fld (pv 0) rfl) (pa_cons (pe_fld (pv 0) rfl) (pa_cons (pv 4) pa_nil))))))))), ?_⟩
  refine sq_setML (i := 4) (G := G) (l := lvK K p.lv) (em_copy U.cp r1 (by omega) g.nd) i (fun d G1 H1 g1 nd md => ?_)
  have r1 := Rep.mono g1.g r1
  have r4 := Rep.mono g1.g r4
  refine sq_tput (G := G1) (i := 4) (d := d) (p := (x2, x3)) (x := (LeafV.mk t : LeafV K)) rfl md g1.i (Ev.at (ev_var rfl r4) g1.i) (ev_tup2 (ev_var rfl rfl) (ev_var rfl rfl)) (by rw [lvK_len]; omega) (fun G2 H2 o2 g2 md2 s2 => ?_)
  rw [lvK_put] at md2
  have gr2 : Gr M0 G H G2 (upd H2 d o2) := (g1.trans g2).mut (.inl nd) md2.1
  obtain ⟨G3, g3, r3, s3⟩ := md2.frz gr2 nd
  have r1 := Rep.mono (g2.g.trans s3) r1
  exact st_ret (G := G3) (x := (Pap.mk (withM p (x2, x3) t) : Pap K C)) (ev_pap (f := f) hf (ev_row (p := p) U.cp (ev_var rfl r1)) (ev_fplan (p := p) U.cp (ev_var rfl r1) hf) (ev_flie (p := p) U.cp (ev_var rfl r1) hf) (ev_var rfl r3)) g3.i (fun v G' H' g r => q v G' H' (g3.trans g) r)
end


section
variable {P : Program} {w : World} {K : Fg} {mg : Str → Option Value} {base : Heap} {C : Addr} {ad : Ek → Addr}
theorem r_painted (T : Tg K mg) (U : TgP K mg C) (O : OthHd w K mg) (X : Exs K mg ad) : DfX P w K mg base 46 "painted" ["paper", "slot", "colour"] (spR3 ad (fun (p : Pap K C) (_ : Int) (_ : Str) => GP p) (fun p s c => (paintM p.m s c).map (Pap.mk (K := K) (C := C)))) := by
  have D1 := q_on_leaf (P := P) (w := w) (base := base) T U
  have D2 := q_with_leaf (P := P) (w := w) (base := base) T U
  have X1 := r_top_of_slot (P := P) (w := w) (base := base) T U O X
  have e_BadColour := X.badColour
  obtain ⟨a_COLOURS, m_COLOURS, hS⟩ := T.COLOURS
  refine T.painted.okX sc_painted len_spR3 (fun cdv f A outer s H vs Q E hr h => ?_)
  obtain ⟨v, ⟨p⟩, v2, x2, v3, x3, G, rfl, i, r1, r2, r3, g, o⟩ := h
  cases r2; cases r3
  have g : GoodP 80000 p := g
  have o : Out ad G H Q E ((paintM p x2 x3).map (Pap.mk (K := K) (C := C))) := o
  unfold paintM at o
  refine ⟨_, (pss_cons (ps_asg (pe_dfS X1 hr (by first | decide | omega) (by rfl) (L2N.takes_of rfl rfl rfl rfl) (pa_cons (pv 0) (pa_cons (pv 1) pa_nil))) (pg_tupK (K := K) (n := 3) rfl (pg_tup rfl (pgs_cons (pg_name (i := 3) sc_painted.nd rfl (by first | exact .inl rfl | exact .inr rfl)) (pgs_cons (pg_name (i := 4) sc_painted.nd rfl (by first | exact .inl rfl | exact .inr rfl)) (pgs_cons (pg_name (i := 5) sc_painted.nd rfl (by first | exact .inl rfl | exact .inr rfl)) pgs_nil))))))
    (pss_cons (ps_if (pt_cmpR op_notIn_seq (pv 2) (pe_glob (v := .ref a_COLOURS) (by rfl) m_COLOURS rfl) (by rfl))
      (pss_one (L2N.ps_raise rfl (L2N.takes_of rfl rfl rfl rfl) (L2N.pmk_own PySem.F.excBase_ValueError e_BadColour.x e_BadColour.g e_BadColour.k (raises_own e_BadColour.b e_BadColour.t) rfl)))
      pss_nil)
    (pss_cons (ps_set (i := 6) sc_painted.nd rfl (by first | exact .inl rfl | exact .inr rfl) (pe_ix (ix_tupK (K := K) rfl) (pe_df D1 hr (by first | decide | omega) (by rfl) (pa_cons (pv 0) (pa_cons (pv 3) (pa_cons (pv 4) pa_nil)))) pe_int (fun _ _ => rfl)))
    (pss_one (ps_ret (pe_df D2 hr (by first | decide | omega) (by rfl) (pa_cons (pv 0) (pa_cons (pv 3) (pa_cons (pv 4) (pa_cons (pe_tup (pa_cons (pv 2) (pa_cons (pv 6) pa_nil))) pa_nil)))))))))), ?_⟩
  refine sq_triR (ad := ad) (G := G) (er_call2 (f := fun (p : Pap K C) s => topM p.m s) (x := Pap.mk p) (y := x2) (ev_var rfl r1) (ev_var rfl rfl) g) i (fun t e u1 u2 u3 G1 H1 g1 k1 k2 k3 => ?_) (fun k e G1 H1 g1 => ?_)
  · cases k1; cases k2; cases k3
    have e : topM p x2 = .ok t := e
    obtain ⟨f, hf, _, _, _, gt⟩ := top_ok e
    have hs : p.fold.isSome = true := by rw [hf]; rfl
    rw [e] at o
    have o : Out ad G H Q E ((if x3 ∈ coloursL then (.ok (withM p (t.a, t.b) (x3, (onLeafM p.lv (t.a, t.b)).2)) : Except Ek PapM) else .error .badColour).map (Pap.mk (K := K) (C := C))) := o
    have r1 := Rep.mono g1.g r1
    refine sq_ifn (G := G1) (et_test (ev_notInS (ys := coloursL) (ev_var (x := x3) rfl rfl) hS)) g1.i (fun hb G2 H2 g2 => ?_) (fun hb G2 H2 g2 => ?_)
    · rw [if_neg (of_decide_eq_false ((Bool.not_eq_true' _).mp hb))] at o
      exact o G2 H2 (g1.trans g2)
    · rw [if_pos (of_decide_eq_true ((Bool.not_eq_false' _).mp hb))] at o
      have r1 := Rep.mono g2.g r1
      refine sq_set (G := G2) (x := (onLeafM p.lv (t.a, t.b)).2) (ev_leaf1 (K := K) (x := onLeafM p.lv (t.a, t.b)) (ev_call3 (f := fun (p : Pap K C) c s => (LeafV.mk (onLeafM p.m.lv (c, s)) : LeafV K)) (x := Pap.mk p) (x2 := t.a) (x3 := t.b) (ev_var rfl r1) (ev_var rfl rfl) (ev_var rfl rfl) trivial)) g2.i (fun lv G3 H3 g3 k4 => ?_)
      cases k4
      have r1 := Rep.mono g3.g r1
      exact st_ret (G := G3) (x := (Pap.mk (withM p (t.a, t.b) (x3, (onLeafM p.lv (t.a, t.b)).2)) : Pap K C)) (ev_call4 (f := fun (p : Pap K C) c s (t : LeafV K) => (Pap.mk (withM p.m (c, s) t.p) : Pap K C)) (x := Pap.mk p) (x2 := t.a) (x3 := t.b) (x4 := LeafV.mk (x3, (onLeafM p.lv (t.a, t.b)).2)) (ev_var rfl r1) (ev_var rfl rfl) (ev_var rfl rfl) (ev_leafOf (ev_tup2 (x := x3) (y := (onLeafM p.lv (t.a, t.b)).2) (ev_var rfl rfl) (ev_var rfl rfl))) ⟨hs, g⟩) g3.i (fun v G' H' g' r => o v G' H' (((g1.trans g2).trans g3).trans g') r)
  · have e : topM p x2 = .error k := e
    rw [e] at o
    exact o G1 H1 g1
theorem r_marked (T : Tg K mg) (U : TgP K mg C) (O : OthHd w K mg) (X : Exs K mg ad) : DfX P w K mg base 46 "marked" ["paper", "slot", "letter"] (spR3 ad (fun (p : Pap K C) (_ : Int) (x : Str) => GP p ∧ x.length ≤ 90000) (fun p s c => (markM p.m s c).map (Pap.mk (K := K) (C := C)))) := by
  have D1 := q_on_leaf (P := P) (w := w) (base := base) T U
  have D2 := q_with_leaf (P := P) (w := w) (base := base) T U
  have D3 := q_is_letter (P := P) (w := w) (base := base) T
  have X1 := r_top_of_slot (P := P) (w := w) (base := base) T U O X
  have e_BadLetter := X.badLetter
  refine T.marked.okX sc_marked len_spR3 (fun cdv f A outer s H vs Q E hr h => ?_)
  obtain ⟨v, ⟨p⟩, v2, x2, v3, x3, G, rfl, i, r1, r2, r3, ⟨g, hx⟩, o⟩ := h
  cases r2; cases r3
  have g : GoodP 80000 p := g
  have o : Out ad G H Q E ((markM p x2 x3).map (Pap.mk (K := K) (C := C))) := o
  unfold markM at o
  refine ⟨_, (pss_cons (ps_asg (pe_dfS X1 hr (by first | decide | omega) (by rfl) (L2N.takes_of rfl rfl rfl rfl) (pa_cons (pv 0) (pa_cons (pv 1) pa_nil))) (pg_tupK (K := K) (n := 3) rfl (pg_tup rfl (pgs_cons (pg_name (i := 3) sc_marked.nd rfl (by first | exact .inl rfl | exact .inr rfl)) (pgs_cons (pg_name (i := 4) sc_marked.nd rfl (by first | exact .inl rfl | exact .inr rfl)) (pgs_cons (pg_name (i := 5) sc_marked.nd rfl (by first | exact .inl rfl | exact .inr rfl)) pgs_nil))))))
    (pss_cons (ps_if (pt_not (pt_val (pe_df D3 hr (by first | decide | omega) (by rfl) (pa_cons (pv 2) pa_nil))))
      (pss_one (L2N.ps_raise rfl (L2N.takes_of rfl rfl rfl rfl) (L2N.pmk_own PySem.F.excBase_ValueError e_BadLetter.x e_BadLetter.g e_BadLetter.k (raises_own e_BadLetter.b e_BadLetter.t) rfl)))
      pss_nil)
    (pss_cons (ps_asg (pe_df D1 hr (by first | decide | omega) (by rfl) (pa_cons (pv 0) (pa_cons (pv 3) (pa_cons (pv 4) pa_nil)))) (pg_tupK (K := K) (n := 2) rfl (pg_tup rfl (pgs_cons (pg_name (i := 6) sc_marked.nd rfl (by first | exact .inl rfl | exact .inr rfl)) (pgs_cons (pg_name (i := 7) sc_marked.nd rfl (by first | exact .inl rfl | exact .inr rfl)) pgs_nil)))))
    (pss_cons (ps_set (i := 8) sc_marked.nd rfl (by first | exact .inl rfl | exact .inr rfl) (pe_op op_add_str (pe_op op_add_str (pe_slice sl_str (pv 7) po_none (po_some (pv 5))) (pv 2)) (pe_slice sl_str (pv 7) (po_some (pe_op op_add (pv 5) pe_int)) po_none)))
    (pss_one (ps_ret (pe_df D2 hr (by first | decide | omega) (by rfl) (pa_cons (pv 0) (pa_cons (pv 3) (pa_cons (pv 4) (pa_cons (pe_tup (pa_cons (pv 6) (pa_cons (pv 8) pa_nil))) pa_nil))))))))))), ?_⟩
  refine sq_triR (ad := ad) (G := G) (er_call2 (f := fun (p : Pap K C) s => topM p.m s) (x := Pap.mk p) (y := x2) (ev_var rfl r1) (ev_var rfl rfl) g) i (fun t e u1 u2 u3 G1 H1 g1 k1 k2 k3 => ?_) (fun k e G1 H1 g1 => ?_)
  · cases k1; cases k2; cases k3
    have e : topM p x2 = .ok t := e
    obtain ⟨f, hf, _, _, _, gt⟩ := top_ok e
    have hs : p.fold.isSome = true := by rw [hf]; rfl
    rw [e] at o
    have o : Out ad G H Q E ((if letB x3 = true then (.ok (withM p (t.a, t.b) ((onLeafM p.lv (t.a, t.b)).1, setL (onLeafM p.lv (t.a, t.b)).2 t.c x3)) : Except Ek PapM) else .error .badLetter).map (Pap.mk (K := K) (C := C))) := o
    have r1 := Rep.mono g1.g r1
    have lg := leaf_good g (t.a, t.b)
    refine sq_ifn (G := G1) (et_not (et_B (ev_call1 (f := letB) (ev_var (x := x3) rfl rfl) hx))) g1.i (fun hb G2 H2 g2 => ?_) (fun hb G2 H2 g2 => ?_)
    · rw [if_neg (by rw [(Bool.not_eq_true' _).mp hb]; decide)] at o
      exact o G2 H2 (g1.trans g2)
    · have hl := (Bool.not_eq_false' _).mp hb
      rw [if_pos hl] at o
      have lx := (let_facts hl).1
      have r1 := Rep.mono g2.g r1
      refine sq_leafV (K := K) (G := G2) (x := onLeafM p.lv (t.a, t.b)) (ev_call3 (f := fun (p : Pap K C) c s => (LeafV.mk (onLeafM p.m.lv (c, s)) : LeafV K)) (x := Pap.mk p) (x2 := t.a) (x3 := t.b) (ev_var rfl r1) (ev_var rfl rfl) (ev_var rfl rfl) trivial) g2.i (fun G3 H3 g3 => ?_)
      have r1 := Rep.mono g3.g r1
      have l1 : (cutS (onLeafM p.lv (t.a, t.b)).2 none (some t.c)).length ≤ 3 ∧ (cutS (onLeafM p.lv (t.a, t.b)).2 (some (t.c + 1)) none).length ≤ 3 := by
        obtain ⟨a, b, d, e3⟩ := three lg.1
        rw [e3]
        have gc := gt.2
        generalize t.c = c at gc ⊢
        have : c = 0 ∨ c = 1 ∨ c = 2 := by omega
        rcases this with rfl | rfl | rfl <;> exact ⟨Nat.le_of_ble_eq_true rfl, Nat.le_of_ble_eq_true rfl⟩
      have l2 : (cutS (onLeafM p.lv (t.a, t.b)).2 none (some t.c) ++ x3 : Str).length ≤ 4 := by
        rw [TL.len_tl, TL.tl_append, List.length_append, ← TL.len_tl, ← TL.len_tl]
        omega
      refine sq_set (G := G3) (x := setL (onLeafM p.lv (t.a, t.b)).2 t.c x3) (ev_addS (ev_addS (ev_slS (lo := none) (hi := some t.c) (ev_var (x := (onLeafM p.lv (t.a, t.b)).2) rfl rfl) eo_none (eo_some (ev_var rfl rfl)) (by omega)) (ev_var (x := x3) rfl rfl) (by omega)) (ev_slS (lo := some (t.c + 1)) (hi := none) (ev_var (x := (onLeafM p.lv (t.a, t.b)).2) rfl rfl) (eo_some (ev_add (ev_var (x := t.c) rfl rfl) ev_int)) eo_none (by omega)) (by omega)) g3.i (fun lv G4 H4 g4 k4 => ?_)
      cases k4
      have r1 := Rep.mono g4.g r1
      exact st_ret (G := G4) (x := (Pap.mk (withM p (t.a, t.b) ((onLeafM p.lv (t.a, t.b)).1, setL (onLeafM p.lv (t.a, t.b)).2 t.c x3)) : Pap K C)) (ev_call4 (f := fun (p : Pap K C) c s (t : LeafV K) => (Pap.mk (withM p.m (c, s) t.p) : Pap K C)) (x := Pap.mk p) (x2 := t.a) (x3 := t.b) (x4 := LeafV.mk ((onLeafM p.lv (t.a, t.b)).1, setL (onLeafM p.lv (t.a, t.b)).2 t.c x3)) (ev_var rfl r1) (ev_var rfl rfl) (ev_var rfl rfl) (ev_leafOf (ev_tup2 (x := (onLeafM p.lv (t.a, t.b)).1) (y := setL (onLeafM p.lv (t.a, t.b)).2 t.c x3) (ev_var rfl rfl) (ev_var rfl rfl))) ⟨hs, g⟩) g4.i (fun v G' H' g' r => o v G' H' ((((g1.trans g2).trans g3).trans g4).trans g') r)
  · have e : topM p x2 = .error k := e
    rw [e] at o
    exact o G1 H1 g1
theorem r_washed (T : Tg K mg) (U : TgP K mg C) (O : OthHd w K mg) (X : Exs K mg ad) : DfX P w K mg base 46 "washed" ["paper", "slot"] (spR2 ad (fun (p : Pap K C) (_ : Int) => GP p) (fun p s => (washM p.m s).map (Pap.mk (K := K) (C := C)))) := by
  have D2 := q_with_leaf (P := P) (w := w) (base := base) T U
  have X1 := r_top_of_slot (P := P) (w := w) (base := base) T U O X
  obtain ⟨a_BARE, m_BARE, hS⟩ := T.BARE
  refine T.washed.okX sc_washed len_spR2 (fun cdv f A outer s H vs Q E hr h => ?_)
  obtain ⟨v, ⟨p⟩, v2, x2, G, rfl, i, r1, r2, g, o⟩ := h
  cases r2
  have g : GoodP 80000 p := g
  have o : Out ad G H Q E ((washM p x2).map (Pap.mk (K := K) (C := C))) := o
  unfold washM at o
  refine ⟨_, (pss_cons (ps_asg (pe_dfS X1 hr (by first | decide | omega) (by rfl) (L2N.takes_of rfl rfl rfl rfl) (pa_cons (pv 0) (pa_cons (pv 1) pa_nil))) (pg_tupK (K := K) (n := 3) rfl (pg_tup rfl (pgs_cons (pg_name (i := 2) sc_washed.nd rfl (by first | exact .inl rfl | exact .inr rfl)) (pgs_cons (pg_name (i := 3) sc_washed.nd rfl (by first | exact .inl rfl | exact .inr rfl)) (pgs_cons (pg_name (i := 4) sc_washed.nd rfl (by first | exact .inl rfl | exact .inr rfl)) pgs_nil))))))
    (pss_one (ps_ret (pe_df D2 hr (by first | decide | omega) (by rfl) (pa_cons (pv 0) (pa_cons (pv 2) (pa_cons (pv 3) (pa_cons (pe_glob (v := .ref a_BARE) (by rfl) m_BARE rfl) pa_nil)))))))), ?_⟩
  refine sq_triR (ad := ad) (G := G) (er_call2 (f := fun (p : Pap K C) s => topM p.m s) (x := Pap.mk p) (y := x2) (ev_var rfl r1) (ev_var rfl rfl) g) i (fun t e u1 u2 u3 G1 H1 g1 k1 k2 k3 => ?_) (fun k e G1 H1 g1 => ?_)
  · cases k1; cases k2; cases k3
    have e : topM p x2 = .ok t := e
    obtain ⟨f, hf, _, _, _, gt⟩ := top_ok e
    have hs : p.fold.isSome = true := by rw [hf]; rfl
    rw [e] at o
    have r1 := Rep.mono g1.g r1
    exact st_ret (G := G1) (x := (Pap.mk (withM p (t.a, t.b) BareL) : Pap K C)) (ev_call4 (f := fun (p : Pap K C) c s (t : LeafV K) => (Pap.mk (withM p.m (c, s) t.p) : Pap K C)) (x := Pap.mk p) (x2 := t.a) (x3 := t.b) (x4 := LeafV.mk BareL) (ev_var rfl r1) (ev_var rfl rfl) (ev_var rfl rfl) (ev_c ⟨a_BARE, rfl, hS _⟩) ⟨hs, g⟩) g1.i (fun v G' H' g' r => o v G' H' (g1.trans g') r)
  · have e : topM p x2 = .error k := e
    rw [e] at o
    exact o G1 H1 g1
theorem r_unfolded (T : Tg K mg) (U : TgP K mg C) (X : Exs K mg ad) : DfX P w K mg base 5 "unfolded" ["paper"] (spR1 ad (fun (p : Pap K C) => GP p) (fun p => (unfoldM p.m).map (Pap.mk (K := K) (C := C)))) := by
  have I_Paper := i_Paper (P := P) (w := w) (base := base) T U
  have X1 := r_check_folded (P := P) (w := w) (base := base) T U X
  refine T.unfolded.okX sc_unfolded len_spR1 (fun cdv f A outer s H vs Q E hr h => ?_)
  obtain ⟨v, ⟨p⟩, G, rfl, i, r1, g, o⟩ := h
  have o : Out ad G H Q E ((unfoldM p).map (Pap.mk (K := K) (C := C))) := o
  unfold unfoldM at o
  refine ⟨_, (pss_cons (ps_expr (pe_dfS X1 hr (by first | decide | omega) (by rfl) (L2N.takes_of rfl rfl rfl rfl) (pa_cons (pv 0) pa_nil)))
    (pss_one (ps_ret (pe_mc I_Paper hr (by first | decide | omega) (by rfl) takes_n5 (pa_cons (pe_fld (pv 0) rfl) (pa_cons pe_non (pa_cons pe_non (pa_cons (pe_fld (pv 0) rfl) pa_nil)))))))), ?_⟩
  refine sq_folded (G := G) (ev_var rfl r1) i (fun f hf G1 H1 g1 => ?_) (fun hf G1 H1 g1 => ?_)
  · rw [hf] at o
    have r1 := Rep.mono g1.g r1
    exact st_ret (G := G1) (x := (Pap.mk { p with fold := none } : Pap K C)) (ev_pap0 (p := { p with fold := none }) rfl (ev_row (p := p) U.cp (ev_var rfl r1)) (ev_lvs (p := p) U.cp (ev_var rfl r1))) g1.i (fun v G' H' g r => o v G' H' (g1.trans g) r)
  · rw [hf] at o
    exact o G1 H1 g1
theorem q_is_plan (T : Tg K mg) : Df P w K mg base 2 "is_plan" ["plan"] (sp1 (fun (_ : Plan) => True) isPlanM) := by
  obtain ⟨_, m1⟩ := T.LEAST_FACES
  obtain ⟨_, m2⟩ := T.MOST_FACES
  exact d_is_plan T.is_plan T.is_cut T.rising T.crossing m1 m2 T.bl
theorem r_check_plan (T : Tg K mg) (X : Exs K mg ad) : DfX P w K mg base 3 "check_plan" ["plan"] (spR1 ad (fun (_ : Plan) => True) (fun p => if isPlanM p = true then .ok () else .error .badPlan)) := by
  have e_BadPlan := X.badPlan
  have bl := T.bl
  refine T.check_plan.okX sc_check_plan len_spR1 (fun cdv f A outer s H vs Q E hr h => ?_)
  obtain ⟨v, p, G, rfl, i, r1, _, o⟩ := h
  have o : Out ad G H Q E (if isPlanM p = true then .ok () else .error .badPlan) := o
  refine ⟨_, (pss_one (ps_if (pt_not (pt_val (pe_df (q_is_plan T) hr (by first | decide | omega) (by rfl) (pa_cons (pv 0) pa_nil))))
      (pss_one (L2N.ps_raise rfl (L2N.takes_of rfl rfl rfl rfl) (L2N.pmk_own PySem.F.excBase_ValueError e_BadPlan.x e_BadPlan.g e_BadPlan.k (raises_own e_BadPlan.b e_BadPlan.t) rfl)))
      pss_nil)), ?_⟩
  refine st_if (G := G) (et_not (et_B (ev_call1 (f := isPlanM) (ev_var rfl r1) trivial))) i (fun hb G1 H1 g1 => ?_) (fun hb G1 H1 g1 => ?_)
  · rw [if_neg (by rw [(Bool.not_eq_true' _).mp hb]; decide)] at o
    exact o G1 H1 g1
  · rw [if_pos ((Bool.not_eq_false' _).mp hb)] at o
    exact o .non G1 H1 g1 rfl
theorem ev_dnew {κ α : Type} [Rep κ] [TK κ] [DecidableEq κ] [Rep α] {σ : L2.St} {G : Hp} : Ev tDNewT σ G (Dct.mk [] : Dct κ α) := fun H i Q q p np =>
  q _ _ _ (gr_new (o := .dT []) i np) ⟨p, [], rfl, upd_same, .nil⟩
theorem ev_firstlie (T : Tg K mg) : ∃ a, mg "FIRST_LIE" = some (.ref a) ∧ ∀ {σ : L2.St} {G : Hp}, Ev (tC (.ref a)) σ G (Lie3.mk ⟨0, 1, 0⟩ : Lie3 K) := by
  obtain ⟨a, m, hS⟩ := T.FIRST_LIE
  exact ⟨a, m, fun {σ G} => ev_c ⟨a, rfl, hS _⟩⟩
theorem r_new_paper (T : Tg K mg) (U : TgP K mg C) (O : OthHd w K mg) (X : Exs K mg ad) : DfX P w K mg base 44 "new_paper" ["plan"] (spR1 ad (fun (_ : Plan) => True) (fun p => (newM p).map (Pap.mk (K := K) (C := C)))) := by
  have I_Paper := i_Paper (P := P) (w := w) (base := base) T U
  have X1 := r_check_plan (P := P) (w := w) (base := base) T X
  have D1 := q_row_of (P := P) (w := w) (base := base) T O
  obtain ⟨a_FIRST_LIE, m_FIRST_LIE, eL⟩ := ev_firstlie T
  refine T.new_paper.okX sc_new_paper len_spR1 (fun cdv f A outer s H vs Q E hr h => ?_)
  obtain ⟨v, p, G, rfl, i, r1, _, o⟩ := h
  have o : Out ad G H Q E ((newM p).map (Pap.mk (K := K) (C := C))) := o
  unfold newM at o
  refine ⟨_, (pss_cons (ps_expr (pe_dfS X1 hr (by first | decide | omega) (by rfl) (L2N.takes_of rfl rfl rfl rfl) (pa_cons (pv 0) pa_nil)))
    (pss_one (ps_ret (pe_mc I_Paper hr (by first | decide | omega) (by rfl) takes_n5 (pa_cons (pe_df D1 hr (by first | decide | omega) (by rfl) (pa_cons (pv 0) pa_nil)) (pa_cons (pv 0) (pa_cons (pe_glob (v := .ref a_FIRST_LIE) (by rfl) m_FIRST_LIE rfl) (pa_cons pe_dnewT pa_nil)))))))), ?_⟩
  refine sq_dropR (ad := ad) (G := G) (er_call1 (x := p) (f := fun p => if isPlanM p = true then (.ok () : Except Ek Unit) else .error .badPlan) (ev_var rfl r1) trivial) i (fun y e G1 H1 g1 => ?_) (fun k e G1 H1 g1 => ?_)
  · have hp : isPlanM p = true := by
      apply Classical.byContradiction
      intro z
      rw [if_neg z] at e
      cases e
    rw [if_pos hp] at o
    have r1 := Rep.mono g1.g r1
    exact st_ret (G := G1) (x := (Pap.mk ⟨rowM p, some (p, ⟨0, 1, 0⟩), []⟩ : Pap K C)) (ev_pap (p := ⟨rowM p, some (p, ⟨0, 1, 0⟩), []⟩) (f := (p, ⟨0, 1, 0⟩)) rfl (ev_call1 (f := rowM) (ev_var rfl r1) hp) (ev_var rfl r1) eL ev_dnew) g1.i (fun v G' H' g r => o v G' H' (g1.trans g) r)
  · have hp : ¬ isPlanM p = true := fun z => by rw [if_pos z] at e; cases e
    rw [if_neg hp] at o e
    cases e
    exact o G1 H1 g1
theorem r_refolded (T : Tg K mg) (U : TgP K mg C) (O : OthHd w K mg) (X : Exs K mg ad) : DfX P w K mg base 44 "refolded" ["paper", "plan"] (spR2 ad (fun (p : Pap K C) (q : Plan) => refoldM p.m q ≠ .error .otherRow) (fun p q => (refoldM p.m q).map (Pap.mk (K := K) (C := C)))) := by
  have I_Paper := i_Paper (P := P) (w := w) (base := base) T U
  have X1 := r_check_plan (P := P) (w := w) (base := base) T X
  have D1 := q_row_of (P := P) (w := w) (base := base) T O
  have e_Folded := X.folded
  obtain ⟨a_FIRST_LIE, m_FIRST_LIE, eL⟩ := ev_firstlie T
  refine T.refolded.okX sc_refolded len_spR2 (fun cdv f A outer s H vs Q E hr h => ?_)
  obtain ⟨v, ⟨p⟩, v2, x2, G, rfl, i, r1, r2, hne, o⟩ := h
  have hne : refoldM p x2 ≠ .error .otherRow := hne
  have o : Out ad G H Q E ((refoldM p x2).map (Pap.mk (K := K) (C := C))) := o
  unfold refoldM at o hne
  refine ⟨_, (pss_cons (ps_if (pt_cmpR op_notN (pe_fld (pv 0) rfl) pe_non (nomark _))
      (pss_one (L2N.ps_raise rfl (L2N.takes_of rfl rfl rfl rfl) (L2N.pmk_own PySem.F.excBase_ValueError e_Folded.x e_Folded.g e_Folded.k (raises_own e_Folded.b e_Folded.t) rfl)))
      pss_nil)
    (pss_cons (ps_expr (pe_dfS X1 hr (by first | decide | omega) (by rfl) (L2N.takes_of rfl rfl rfl rfl) (pa_cons (pv 1) pa_nil)))
    (pss_cons (ps_set (i := 2) sc_refolded.nd rfl (by first | exact .inl rfl | exact .inr rfl) (pe_df D1 hr (by first | decide | omega) (by rfl) (pa_cons (pv 1) pa_nil)))
    (pss_cons (ps_if (pt_cmpR op_ne (pv 2) (pe_fld (pv 0) rfl) (nomark _))
      (pss_one ps_never)
      pss_nil)
    (pss_one (ps_ret (pe_mc I_Paper hr (by first | decide | omega) (by rfl) takes_n5 (pa_cons (pv 2) (pa_cons (pv 1) (pa_cons (pe_glob (v := .ref a_FIRST_LIE) (by rfl) m_FIRST_LIE rfl) (pa_cons (pe_fld (pv 0) rfl) pa_nil))))))))))), ?_⟩
  refine sq_ifn (G := G) (et_test (ev_notfN U.cp (ev_var rfl r1))) i (fun hb G1 H1 g1 => ?_) (fun hb G1 H1 g1 => ?_)
  · obtain ⟨f, hf⟩ := Option.isSome_iff_exists.mp hb
    rw [hf] at o
    exact o G1 H1 g1
  have hf : p.fold = none := by
    cases z : p.fold with
    | none => rfl
    | some f => rw [z] at hb; cases hb
  rw [hf] at o hne
  have o : Out ad G H Q E ((if isPlanM x2 = true then (if rowM x2 = p.row then (.ok { p with fold := some (x2, ⟨0, 1, 0⟩) } : Except Ek PapM) else .error .otherRow) else .error .badPlan).map (Pap.mk (K := K) (C := C))) := o
  have hne : (if isPlanM x2 = true then (if rowM x2 = p.row then (.ok { p with fold := some (x2, ⟨0, 1, 0⟩) } : Except Ek PapM) else .error .otherRow) else .error .badPlan) ≠ .error .otherRow := hne
  refine sq_dropR (ad := ad) (G := G1) (er_call1 (x := x2) (f := fun p => if isPlanM p = true then (.ok () : Except Ek Unit) else .error .badPlan) (ev_var rfl (Rep.mono g1.g r2)) trivial) g1.i (fun y e G2 H2 g2 => ?_) (fun k e G2 H2 g2 => ?_)
  · have hp : isPlanM x2 = true := by
      apply Classical.byContradiction
      intro z
      rw [if_neg z] at e
      cases e
    rw [if_pos hp] at o hne
    have g02 := g1.trans g2
    refine sq_set (G := G2) (x := rowM x2) (ev_call1 (f := rowM) (ev_var rfl (Rep.mono g02.g r2)) hp) g2.i (fun wv G3 H3 g3 k3 => ?_)
    cases k3
    have g03 := g02.trans g3
    have hr2 : rowM x2 = p.row := by
      apply Classical.byContradiction
      intro z
      rw [if_neg z] at hne
      exact hne rfl
    rw [if_pos hr2] at o
    refine sq_ifn (G := G3) (et_test (Ev.cast (ev_neS (ev_var (x := rowM x2) rfl rfl) (ev_row (p := p) U.cp (ev_var rfl (Rep.mono g03.g r1)))) (x' := false) (by rw [decide_eq_true hr2]; rfl))) g3.i (fun hb _ _ _ => by cases hb) (fun _ G4 H4 g4 => ?_)
    have g04 := g03.trans g4
    have r1 := Rep.mono g04.g r1
    exact st_ret (G := G4) (x := (Pap.mk { p with fold := some (x2, ⟨0, 1, 0⟩) } : Pap K C)) (ev_pap (p := { p with fold := some (x2, ⟨0, 1, 0⟩) }) (f := (x2, ⟨0, 1, 0⟩)) rfl (ev_var (x := p.row) rfl (show _ = _ by rw [hr2])) (ev_var rfl (Rep.mono g04.g r2)) eL (ev_lvs (p := p) U.cp (ev_var rfl r1))) g4.i (fun v G' H' g r => o v G' H' (g04.trans g) r)
  · have hp : ¬ isPlanM x2 = true := fun z => by rw [if_pos z] at e; cases e
    rw [if_neg hp] at o e
    cases e
    exact o G2 H2 (g1.trans g2)
end


section
variable {σ : L2.St} {G H : Hp} {ta tb tc td te : TE} {K : Fg}
/-- a tuple of five -/
theorem ev_sight {a c : Int} {b d e : Str} (ha : Ev ta σ G a) (hb : Ev tb σ G b) (hc : Ev tc σ G c) (hd : Ev td σ G d) (he : Ev te σ G e) : Ev (tTup (tCons ta (tCons tb (tCons tc (tCons td (tCons te tNil)))))) σ G (⟨a, b, c, d, e⟩ : Sight) := fun H i Q q =>
  ha H i _ fun v1 G1 H1 g1 r1 => (hb.mono g1.g) H1 g1.i _ fun v2 G2 H2 g2 r2 => (hc.mono (g1.g.trans g2.g)) H2 g2.i _ fun v3 G3 H3 g3 r3 => (hd.mono ((g1.g.trans g2.g).trans g3.g)) H3 g3.i _ fun v4 G4 H4 g4 r4 => (he.mono (((g1.g.trans g2.g).trans g3.g).trans g4.g)) H4 g4.i _ fun v5 G5 H5 g5 r5 => ⟨by show 5 ≤ sizeLine; decide, fun p np => by
    cases r1; cases r2; cases r3; cases r4; cases r5
    exact q _ _ _ (((((g1.trans g2).trans g3).trans g4).trans g5).trans (gr_new g5.i np)) ⟨p, rfl, upd_same⟩⟩
end
section
variable {P : Program} {w : World} {K : Fg} {mg : Str → Option Value} {base : Heap} {C : Addr} {ad : Ek → Addr}
theorem q_letters_as_seen (T : Tg K mg) : Df P w K mg base 1 "letters_as_seen" ["letters", "side", "corner"] (sp3 (fun (l _ : Str) (c : Int) => l.length = 3 ∧ 0 ≤ c ∧ c ≤ 2) seenL) := by
  refine T.letters_as_seen.ok sc_letters_as_seen (fun vs H Q E h => ?_) (fun cdv f A outer s H vs Q E hr h => ?_)
  · obtain ⟨v, x, v2, x2, v3, x3, G, rfl, _⟩ := h
    rfl
  obtain ⟨v, l, v2, x2, v3, c, G, rfl, i, r1, r2, r3, ⟨hl, h0, h2⟩, q⟩ := h
  cases r1; cases r2; cases r3
  obtain ⟨a, b, d, rfl⟩ := three hl
  have e0 : (tx [a, b, d] ++ tx [a, b, d] : Str) = tx [a, b, d, a, b, d] := tx_add _ _
  obtain ⟨z0, z1, z2, ez, es⟩ : ∃ z0 z1 z2, cutS (tx [a, b, d] ++ tx [a, b, d]) (some c) (some (c + 3)) = tx [z0, z1, z2] ∧ seenL (tx [a, b, d]) x2 c = if x2 = "fore" then tx [z0, z1, z2] else tx [z0, z2, z1] := by
    rw [e0]
    have : c = 0 ∨ c = 1 ∨ c = 2 := by omega
    rcases this with rfl | rfl | rfl
    · exact ⟨a, b, d, rfl, rfl⟩
    · exact ⟨b, d, a, rfl, rfl⟩
    · exact ⟨d, a, b, rfl, rfl⟩
  have l6 : (tx [a, b, d] ++ tx [a, b, d] : Str).length ≤ 100000 := by rw [e0]; exact Nat.le_of_ble_eq_true rfl
  have q : ∀ v G' H', Gr M0 G H G' H' → rep G' v (seenL (tx [a, b, d]) x2 c) → Q v H' := q
  rw [es] at q
  refine ⟨_, (pss_cons (ps_set (i := 3) sc_letters_as_seen.nd rfl (by first | exact .inl rfl | exact .inr rfl) (pe_slice sl_str (pe_op op_add_str (pv 0) (pv 0)) (po_some (pv 2)) (po_some (pe_op op_add (pv 2) pe_int))))
    (pss_cons (ps_if (pt_cmpR op_eq (pv 1) pe_str (nomark _))
      (pss_one (ps_ret (pv 3)))
      pss_nil)
    (pss_one (ps_ret (pe_op op_add_str (pe_op op_add_str (pe_ix ix_str (pv 3) pe_int (fun _ _ => rfl)) (pe_ix ix_str (pv 3) pe_int (fun _ _ => rfl))) (pe_ix ix_str (pv 3) pe_int (fun _ _ => rfl))))))), ?_⟩
  refine sq_set (G := G) (x := tx [z0, z1, z2]) (Ev.cast (ev_slS (lo := some c) (hi := some (c + 3)) (ev_addS (ev_var (x := tx [a, b, d]) rfl rfl) (ev_var (x := tx [a, b, d]) rfl rfl) (by show 3 + 3 ≤ 100000; decide)) (eo_some (ev_var rfl rfl)) (eo_some (ev_add (ev_var rfl rfl) ev_int)) l6) ez) i (fun tv G1 H1 g1 k1 => ?_)
  cases k1
  refine sq_ifn (G := G1) (et_test (ev_eqS (ev_var (x := x2) rfl rfl) ev_str)) g1.i (fun hb G2 H2 g2 => ?_) (fun hb G2 H2 g2 => ?_)
  · exact st_retC (G := G2) (y := if x2 = "fore" then tx [z0, z1, z2] else tx [z0, z2, z1]) (ev_var (x := tx [z0, z1, z2]) rfl rfl) g2.i (by rw [if_pos (of_decide_eq_true hb)]) (fun v G' H' g r => q v G' H' ((g1.trans g2).trans g) r)
  · have z3 : (tx [z0, z1, z2]).length ≤ 100000 := Nat.le_of_ble_eq_true rfl
    refine st_retC (G := G2) (y := if x2 = "fore" then tx [z0, z1, z2] else tx [z0, z2, z1]) (ev_addS (ev_addS (ev_ixS (z := tx [z0, z1, z2]) (n := 0) (c := z0) (ev_var rfl rfl) ev_int z3 rfl) (ev_ixS (z := tx [z0, z1, z2]) (n := 2) (c := z2) (ev_var rfl rfl) ev_int z3 rfl) (by show 1 + 1 ≤ 100000; decide)) (ev_ixS (z := tx [z0, z1, z2]) (n := 1) (c := z1) (ev_var rfl rfl) ev_int z3 rfl) (by rw [show (⟨#[z0]⟩ ++ ⟨#[z2]⟩ : Str) = tx [z0, z2] from tx_add [z0] [z2]]; show 2 + 1 ≤ 100000; decide)) g2.i ?_ (fun v G' H' g r => q v G' H' ((g1.trans g2).trans g) r)
    rw [if_neg (of_decide_eq_false hb), show (⟨#[z0]⟩ ++ ⟨#[z2]⟩ : Str) = tx [z0, z2] from tx_add [z0] [z2]]
    exact tx_add [z0, z2] [z1]
theorem q_with_leaves (T : Tg K mg) (U : TgP K mg C) : Df P w K mg base 2 "with_leaves" ["paper", "tops"] (sp2 (fun (p : Pap K C) (ts : List (Tri Int Str Int)) => GP p ∧ (∀ t ∈ ts, GoodT t) ∧ ts.length ≤ 6) (fun p ts => ts.map (sightM p.m))) := by
  have D1 := q_on_leaf (P := P) (w := w) (base := base) T U
  have D2 := q_letters_as_seen (P := P) (w := w) (base := base) T
  refine T.with_leaves.ok sc_with_leaves len_sp2 (fun cdv f A outer s H vs Q E hr h => ?_)
  obtain ⟨v, ⟨p⟩, v2, ts, G, rfl, i, r1, r2, ⟨g, gt, hl⟩, q⟩ := h
  have g : GoodP 80000 p := g
  have bl := T.bl
  refine ⟨_, (pss_cons (ps_set (i := 2) sc_with_leaves.nd rfl (by first | exact .inl rfl | exact .inr rfl) (pe_lst pa_nil))
    (pss_cons (ps_for PassesOwn.never rfl (pi_listK (K := K) rfl (pv 1)) (pg_tupK (K := K) (n := 3) rfl (pg_tup rfl (pgs_cons (pg_name (i := 3) sc_with_leaves.nd rfl (by first | exact .inl rfl | exact .inr rfl)) (pgs_cons (pg_name (i := 4) sc_with_leaves.nd rfl (by first | exact .inl rfl | exact .inr rfl)) (pgs_cons (pg_name (i := 5) sc_with_leaves.nd rfl (by first | exact .inl rfl | exact .inr rfl)) pgs_nil)))))
      (pss_cons (ps_asg (pe_df D1 hr (by first | decide | omega) (by rfl) (pa_cons (pv 0) (pa_cons (pv 3) (pa_cons (pv 4) pa_nil)))) (pg_tupK (K := K) (n := 2) rfl (pg_tup rfl (pgs_cons (pg_name (i := 6) sc_with_leaves.nd rfl (by first | exact .inl rfl | exact .inr rfl)) (pgs_cons (pg_name (i := 7) sc_with_leaves.nd rfl (by first | exact .inl rfl | exact .inr rfl)) pgs_nil)))))
      (pss_one (ps_expr (pe_bm PySem.F.plainAttrs_list PySem.F.slot_list_append PySem.F.type_list_append mt_append (pv 2) (pa_cons (pe_tup (pa_cons (pv 3) (pa_cons (pv 4) (pa_cons (pv 5) (pa_cons (pv 6) (pa_cons (pe_df D2 hr (by first | decide | omega) (by rfl) (pa_cons (pv 7) (pa_cons (pv 4) (pa_cons (pv 5) pa_nil)))) pa_nil)))))) pa_nil))))))
    (pss_one (ps_ret (pv 2))))), ?_⟩
  refine sq_newlist (α := Sight) (G := G) evs_nil i (by decide) (fun pa G1 H1 o g1 np ml s1 => ?_)
  have nH := up_none g1.same np
  have gd : Gr M0 G H G1 (upd H1 pa o) := g1.mut (.inl nH) (up_none g1.i np)
  refine sq_for (G := G1) (xs := ts) (fun k σ G' H' => Gr M0 G H G' H' ∧ Ml G' H' pa ((ts.take k).map (sightM p)) ∧ ∃ a3 a4 a5 a6 a7, σ = [some v, some v2, some (.ref pa), a3, a4, a5, a6, a7]) (ei_list (ev_var rfl (Rep.mono g1.g r2))) s1 ?_ ?_ ?_
  · intro G2 H2 g2
    exact ⟨gd.trans g2, ml.step0 g2, none, none, none, none, none, rfl⟩
  · intro k t vt σ' G2 H2 G3 H3 hk e1 e2 hP g3' r3
    obtain ⟨gr2, ml2, a3, a4, a5, a6, a7, rfl⟩ := hP
    have ht := gt t (List.mem_of_getElem? hk)
    have lg := leaf_good g (t.a, t.b)
    refine g3 r3 g3'.i (fun u1 u2 u3 k1 k2 k3 => ?_)
    cases k1; cases k2; cases k3
    have gr3 := gr2.trans g3'
    have rp := Rep.mono gr3.g r1
    refine sq_leafV (K := K) (G := G3) (x := onLeafM p.lv (t.a, t.b)) (ev_call3 (f := fun (p : Pap K C) c s => (LeafV.mk (onLeafM p.m.lv (c, s)) : LeafV K)) (x := Pap.mk p) (x2 := t.a) (x3 := t.b) (ev_var rfl rp) (ev_var rfl rfl) (ev_var rfl rfl) trivial) g3'.i (fun G4 H4 g4 => ?_)
    refine st_append (G := G4) (i := 2) (p := pa) (x := sightM p t) rfl ((ml2.step0 g3').step0 g4) (ev_sight (a := t.a) (b := t.b) (c := t.c) (ev_var rfl rfl) (ev_var rfl rfl) (ev_var rfl rfl) (ev_var rfl rfl) (ev_call3 (f := seenL) (x := (onLeafM p.lv (t.a, t.b)).2) (x2 := t.b) (x3 := t.c) (ev_var rfl rfl) (ev_var rfl rfl) (ev_var rfl rfl) ⟨lg.1, ht.2.1, ht.2.2⟩)) g4.i ?_ (fun G5 H5 o5 g5 ml5 s5 => ?_)
    · rw [List.length_map, List.length_take]; omega
    refine ⟨G5, (g3'.g.trans g4.g).trans g5.g, s5, ((gr3.trans g4).trans g5).mut (.inl nH) ml5.1, ?_, _, _, _, _, _, rfl⟩
    rw [List.take_add_one, hk, List.map_append]
    exact ml5
  · intro σ' G2 H2 e1 e2 hP
    obtain ⟨gr2, ml2, a3, a4, a5, a6, a7, rfl⟩ := hP
    rw [List.take_length] at ml2
    obtain ⟨n10, acc, ea, pa'⟩ := ml2
    exact ⟨.ref pa, rfl, q (.ref pa) (upd G2 pa (.lst acc)) H2 (gr2.still nH n10 ea) ⟨pa, acc, rfl, upd_same, paired_mono (same_new n10) pa'⟩⟩
theorem r_seen_on_top (T : Tg K mg) (U : TgP K mg C) (O : OthHd w K mg) (X : Exs K mg ad) : DfX P w K mg base 46 "seen_on_top" ["paper"] (spR1 ad (fun (p : Pap K C) => GP p) (fun p => seenM p.m)) := by
  have D1 := q_ring (P := P) (w := w) (base := base) T O
  have D2 := q_with_leaves (P := P) (w := w) (base := base) T U
  have X1 := r_check_folded (P := P) (w := w) (base := base) T U X
  refine T.seen_on_top.okX sc_seen_on_top len_spR1 (fun cdv f A outer s H vs Q E hr h => ?_)
  obtain ⟨v, ⟨p⟩, G, rfl, i, r1, g, o⟩ := h
  have g : GoodP 80000 p := g
  have o : Out ad G H Q E (seenM p) := o
  unfold seenM at o
  refine ⟨_, (pss_cons (ps_expr (pe_dfS X1 hr (by first | decide | omega) (by rfl) (L2N.takes_of rfl rfl rfl rfl) (pa_cons (pv 0) pa_nil)))
    (pss_one (ps_ret (pe_df D2 hr (by first | decide | omega) (by rfl) (pa_cons (pv 0) (pa_cons (pe_df D1 hr (by first | decide | omega) (by rfl) (pa_cons (pe_fld (pv 0) rfl) (pa_cons (pe_fld (pv 0) rfl) pa_nil))) pa_nil)))))), ?_⟩
  refine sq_folded (G := G) (ev_var rfl r1) i (fun f hf G1 H1 g1 => ?_) (fun hf G1 H1 g1 => ?_)
  · rw [hf] at o
    have r1 := Rep.mono g1.g r1
    have gf := g.fold f hf
    exact st_ret (G := G1) (ev_call2 (f := fun (p : Pap K C) ts => ts.map (sightM p.m)) (x := Pap.mk p) (x2 := ringM f.1 f.2) (ev_var rfl r1) (ev_call2 (f := fun p (l : Lie3 K) => ringM p l.t) (x := f.1) (x2 := Lie3.mk f.2) (ev_fplan U.cp (ev_var rfl r1) hf) (ev_flie U.cp (ev_var rfl r1) hf) ⟨gf.1, gf.2.1, gf.2.2.1, gf.2.2.2.1⟩) ⟨g, ring_good _ _, Nat.le_of_eq (ring_len _ _)⟩) g1.i (fun v G' H' g r => o v G' H' (g1.trans g) r)
  · rw [hf] at o
    exact o G1 H1 g1

def spChg (ad : Ek → Addr) (K : Fg) (C : Addr) : Sp := fun vs H Q E => ∃ v vt p a G, vs = [v, .str (Ac.word a), vt] ∧ Same G H ∧ rep G v (Pap.mk p : Pap K C) ∧ rep G vt (Ac.things a) ∧ GoodP 80000 p ∧ Ac.ok p a ∧ Out ad G H Q E ((actM p a).map (Pap.mk (K := K) (C := C)))
theorem r_changed (T : Tg K mg) (U : TgP K mg C) (O : OthHd w K mg) (X : Exs K mg ad) (CH : ChangesW w K mg) : DfX P w K mg base 47 "changed" ["paper", "word", "things"] (spChg ad K C) := by
  obtain ⟨a_CHANGES, m_CHANGES, ⟨f1, k1, m1⟩, ⟨f2, k2, m2⟩, ⟨f3, k3, m3⟩, ⟨f4, k4, m4⟩, ⟨f5, k5, m5⟩, ⟨f6, k6, m6⟩, ⟨f7, k7, m7⟩, ⟨f8, k8, m8⟩, ⟨f9, k9, m9⟩⟩ := CH
  refine T.changed.okX sc_changed (fun vs H Q E h => ?_) (fun cdv f A outer s H vs Q E hr h => ?_)
  · obtain ⟨v, vt, p, a, G, rfl, _⟩ := h
    rfl
  obtain ⟨v, vt, p, a, G, rfl, i, r1, r2, g, ok, o⟩ := h
  have bl := T.bl
  obtain ⟨b, xs, rfl, eb, pr⟩ := r2
  have Hb : SqL K H b xs := .inl (.inl (i _ _ eb))
  refine ⟨_, (pss_cons (ps_set (i := 3) sc_changed.nd rfl (by first | exact .inl rfl | exact .inr rfl) (pe_ix ix_kdict (pe_glob (v := .ref a_CHANGES) (by rfl) m_CHANGES rfl) (pv 1) (fun _ _ => rfl)))
    (pss_one (ps_ret (pe_callDX (P := P) (w := w) (K := K) (mg := mg) (base := base) (k := 46) (i := 3) rfl rfl rfl rfl rfl (hr.mono (by first | decide | omega)) rfl (by first | exact Or.inl rfl | exact Or.inr (Or.inl rfl) | exact Or.inr (Or.inr rfl)) (L2N.takes_of rfl rfl rfl rfl) (pa_cons (pv 0) (pa_starK (K := K) rfl (pv 2) pa_nil)))))), ?_⟩
  have fin : ∀ (word : Str) (f : Addr) (sp : Sp), KDct K w a_CHANGES word (.ref f) → HeldX P w K mg base 46 f sp → sp (v :: (xs ++ [])) H Q E → tSeq (tAsg (tOp (rIxD K w) (tC (.ref a_CHANGES)) (tVar 1)) (gName 3)) (tRet (tCallDX P w K mg base 46 3 (fun cls d _ H' => E cls d H') (tCons (tVar 0) (StX.tStar K (tVar 2) tNil)))) { nx := fun _ H' => Q .non H', rt := Q } (start N_changed [v, .str word, .ref b]) H := fun word f sp hk hh hs =>
    ⟨.str word, rfl, a_CHANGES, word, .ref f, rfl, rfl, hk, f, sp, rfl, hh, v, rfl, .ref b, rfl, b, xs, rfl, .inr Hb, hs⟩
  cases a with
  | pinch x =>
    cases pr with
    | cons q0 t0 =>
      cases t0
      exact fin "pinch" f1 _ k1 ((r_pinched (P := P) (w := w) (base := base) T U X).held m1 (by decide)) ⟨_, _, _, x, G, rfl, i, r1, q0, g, o⟩
  | unpinch x =>
    cases pr with
    | cons q0 t0 =>
      cases t0
      exact fin "unpinch" f2 _ k2 ((r_unpinched (P := P) (w := w) (base := base) T U X).held m2 (by decide)) ⟨_, _, _, x, G, rfl, i, r1, q0, g, o⟩
  | over =>
    cases pr
    exact fin "over" f3 _ k3 ((r_put_over (P := P) (w := w) (base := base) T U X).held m3 (by decide)) ⟨_, _, G, rfl, i, r1, g, o⟩
  | about =>
    cases pr
    exact fin "about" f4 _ k4 ((r_put_about (P := P) (w := w) (base := base) T U X).held m4 (by decide)) ⟨_, _, G, rfl, i, r1, g, o⟩
  | paint s c =>
    cases pr with
    | cons q0 t0 =>
      cases t0 with
      | cons q1 t1 =>
        cases t1
        exact fin "paint" f5 _ k5 ((r_painted (P := P) (w := w) (base := base) T U O X).held m5 (by decide)) ⟨_, _, _, s, _, c, G, rfl, i, r1, q0, q1, g, o⟩
  | mark s c =>
    cases pr with
    | cons q0 t0 =>
      cases t0 with
      | cons q1 t1 =>
        cases t1
        exact fin "mark" f6 _ k6 ((r_marked (P := P) (w := w) (base := base) T U O X).held m6 (by decide)) ⟨_, _, _, s, _, c, G, rfl, i, r1, q0, q1, ⟨g, ok⟩, o⟩
  | wash s =>
    cases pr with
    | cons q0 t0 =>
      cases t0
      exact fin "wash" f7 _ k7 ((r_washed (P := P) (w := w) (base := base) T U O X).held m7 (by decide)) ⟨_, _, _, s, G, rfl, i, r1, q0, g, o⟩
  | unfold =>
    cases pr
    exact fin "unfold" f8 _ k8 ((r_unfolded (P := P) (w := w) (base := base) T U X).held m8 (by decide)) ⟨_, _, G, rfl, i, r1, g, o⟩
  | refold q =>
    cases pr with
    | cons q0 t0 =>
      cases t0
      exact fin "refold" f9 _ k9 ((r_refolded (P := P) (w := w) (base := base) T U O X).held m9 (by decide)) ⟨_, _, _, q, G, rfl, i, r1, q0, ok, o⟩
end


/-- what the text has of its two classes -/
structure TgH (K : Fg) (mg : Str → Option Value) (C CH : Addr) : Prop where
  pa : TgP K mg C
  ch : ClH K CH
  init : TxN K mg "House" CH "House.__init__" ["self"] s_House___init__
  f___len__ : TxM K CH "__len__" "House.__len__" ["self"] s_House___len__
  f_do : TxM K CH "do" "House.do" ["self", "deed"] s_House_do
  f_paper_behind : TxM K CH "paper_behind" "House.paper_behind" ["self", "deed"] s_House_paper_behind
  f_paper_to_add : TxM K CH "paper_to_add" "House.paper_to_add" ["self", "name", "plan"] s_House_paper_to_add
  f_paper_named : TxM K CH "paper_named" "House.paper_named" ["self", "name"] s_House_paper_named
  f_put : TxM K CH "put" "House.put" ["self", "name", "paper"] s_House_put
  f_back : TxM K CH "back" "House.back" ["self"] s_House_back
  f_again : TxM K CH "again" "House.again" ["self"] s_House_again
  f_deeds : TxM K CH "deeds" "House.deeds" ["self"] s_House_deeds
  f_twin : TxM K CH "twin" "House.twin" ["self"] s_House_twin
  f_names : TxM K CH "names" "House.names" ["self"] s_House_names
  f_folded : TxM K CH "folded" "House.folded" ["self", "name"] s_House_folded
  f_row : TxM K CH "row" "House.row" ["self", "name"] s_House_row
  f_plan : TxM K CH "plan" "House.plan" ["self", "name"] s_House_plan
  f_lie : TxM K CH "lie" "House.lie" ["self", "name"] s_House_lie
  f_seen : TxM K CH "seen" "House.seen" ["self", "name"] s_House_seen
  f_beneath : TxM K CH "beneath" "House.beneath" ["self", "name"] s_House_beneath
  f_leaf : TxM K CH "leaf" "House.leaf" ["self", "name", "copy", "side"] s_House_leaf
section
variable {P : Program} {w : World} {K : Fg} {mg : Str → Option Value} {base : Heap} {C CH : Addr} {ad : Ek → Addr}
theorem i_House (T : Tg K mg) (U : TgH K mg C CH) : Mc P w K mg base 1 "House" CH ["self"] (spHI K C CH) := by
  refine U.init.ok sc_House___init__ (fun vs H Q E h => ?_) (fun cdv f A outer s H vs Q E hr h => ?_)
  · obtain ⟨a, dx, G, rfl, _⟩ := h
    rfl
  obtain ⟨a, dx, G, rfl, i, na, ea, q⟩ := h
  refine ⟨_, (pss_cons (ps_fld (pv 0) pe_dnewK rfl)
    (pss_cons (ps_fld (pv 0) (pe_lst pa_nil) rfl)
    (pss_one (ps_fld (pv 0) (pe_lst pa_nil) rfl)))), ?_⟩
  intro pp npp
  have ap := ne_of_some ea npp
  refine ⟨.ref a, rfl, a, CH, dx, [], rfl, (upd_ne ap).trans ea, U.ch.c, U.ch.n1, by decide, ?_⟩
  refine ⟨by show 0 ≤ sizeLine; decide, fun sp nsp => ?_⟩
  have as : a ≠ sp := fun z => by rw [← z, upd_same] at nsp; cases nsp
  have ps : pp ≠ sp := fun z => by rw [← z, upd_ne (Ne.symm ap), upd_same] at nsp; cases nsp
  have nsp' : H sp = none := by rw [upd_ne (Ne.symm as), upd_ne (Ne.symm ps)] at nsp; exact nsp
  refine ⟨.ref a, rfl, a, CH, dx, _, rfl, (upd_ne as).trans upd_same, U.ch.c, U.ch.n2, (show 1 < 1000 by decide), ?_⟩
  refine ⟨by show 0 ≤ sizeLine; decide, fun tp ntp => ?_⟩
  have at_ : a ≠ tp := fun z => by rw [← z, upd_same] at ntp; cases ntp
  have st : sp ≠ tp := fun z => by rw [← z, upd_ne (Ne.symm as), upd_same] at ntp; cases ntp
  have pt : pp ≠ tp := fun z => by rw [← z, upd_ne (Ne.symm ap), upd_ne ps, upd_ne (Ne.symm ap), upd_same] at ntp; cases ntp
  have ntp' : H tp = none := by rw [upd_ne (Ne.symm at_), upd_ne (Ne.symm st), upd_ne (Ne.symm at_), upd_ne (Ne.symm pt)] at ntp; exact ntp
  refine ⟨.ref a, rfl, a, CH, dx, _, rfl, (upd_ne at_).trans upd_same, U.ch.c, U.ch.n3, (show 2 < 1000 by decide), ?_⟩
  have gp := up_none i npp
  have gs := up_none i nsp'
  have gt := up_none i ntp'
  refine q ⟨a, pp, sp, tp⟩ G _ rfl ((((((Gr.refl (M := Ms a) i).mut (.inl npp) gp).mut (.inr rfl) na).mut (.inl nsp') gs).mut (.inr rfl) na |>.mut (.inl ntp') gt).mut (.inr rfl) na) npp nsp' ntp' ?_
  refine ⟨na, ⟨dx, upd_same⟩, ⟨gp, [], ?_, .nil⟩, ⟨gs, [], ?_, .nil⟩, ⟨gt, [], ?_, .nil⟩, st⟩
  · rw [upd_ne (Ne.symm ap), upd_ne pt, upd_ne (Ne.symm ap), upd_ne ps, upd_ne (Ne.symm ap)]; exact upd_same
  · rw [upd_ne (Ne.symm as), upd_ne st, upd_ne (Ne.symm as)]; exact upd_same
  · rw [upd_ne (Ne.symm at_)]; exact upd_same
theorem m_paper_named (T : Tg K mg) (U : TgH K mg C CH) (X : Exs K mg ad) : Mo P w K mg base 1 CH "paper_named" ["self", "name"] (spH1 ad K C CH (fun h n => (namedM h n).map (Pap.mk (K := K) (C := C)))) := by
  have e_NoPaper := X.noPaper
  refine U.f_paper_named.ok U.ch.c sc_House_paper_named len_spH1 (fun cdv f A outer s H vs Q E hr h => ?_)
  obtain ⟨c, name, h, G, n, rfl, i, ho, g, o⟩ := h
  have o : Out ad G H Q E ((namedM h name).map (Pap.mk (K := K) (C := C))) := o
  unfold namedM at o
  refine ⟨_, (pss_cons (ps_if (pt_cmp (pc_dnotin (hu_of hr) (pv 1) (pe_fld (pv 0) rfl)) (by rfl))
      (pss_one (L2N.ps_raise rfl (L2N.takes_of rfl rfl rfl rfl) (L2N.pmk_own PySem.F.excBase_ValueError e_NoPaper.x e_NoPaper.g e_NoPaper.k (raises_own e_NoPaper.b e_NoPaper.t) rfl)))
      pss_nil)
    (pss_one (ps_ret (pe_dget (hu_of hr) (pe_fld (pv 0) rfl) (pv 1) (fun _ _ => rfl))))), ?_⟩
  refine sq_ifnH (G := G) (et_testH (eh_pnotin U.ch rfl ho i (ev_var (x := name) rfl rfl))) (fun hb G1 H1 g1 => ?_) (fun hb G1 H1 g1 => ?_)
  · cases e : look h.ps name with
    | none => rw [e] at o; exact o G1 H1 g1
    | some p => rw [e] at hb; cases hb
  · cases e : look h.ps name with
    | none => rw [e] at hb; cases hb
    | some p =>
      rw [e] at o
      exact st_retE (eh_pget U.ch rfl (ho.step0 g1) g1.i (ev_var (x := name) rfl rfl) e) (fun v G' H' g' r => o v G' H' (g1.trans g') r)
theorem m_seen (T : Tg K mg) (U : TgH K mg C CH) (O : OthHd w K mg) (X : Exs K mg ad) : Mo P w K mg base 47 CH "seen" ["self", "name"] (spH1 ad K C CH (fun h n => bindE (namedM h n) seenM)) := by
  have M_paper_named := m_paper_named (P := P) (w := w) (base := base) T U X
  have X1 := r_seen_on_top (P := P) (w := w) (base := base) T U.pa O X
  refine U.f_seen.ok U.ch.c sc_House_seen len_spH1 (fun cdv f A outer s H vs Q E hr h => ?_)
  obtain ⟨c, name, h, G, n, rfl, i, ho, g, o⟩ := h
  have o : Out ad G H Q E (bindE (namedM h name) seenM) := o
  refine ⟨_, (pss_one (ps_ret (pe_dfS X1 hr (by first | decide | omega) (by rfl) (L2N.takes_of rfl rfl rfl rfl) (pa_cons (pe_mo M_paper_named hr (by first | decide | omega) (L2N.takes_of rfl rfl rfl rfl) (pv 0) (pa_cons (pv 1) pa_nil)) pa_nil)))), ?_⟩
  refine st_retRH (ad := ad) (erh_call1b (f := fun (p : Pap K C) => seenM p.m) (erh_m1 (f := fun h n => (namedM h n).map (Pap.mk (K := K) (C := C))) rfl ho i g (ev_var (x := name) rfl rfl) rfl) (fun x e => ?_)) ?_
  · obtain ⟨p, hp, rfl⟩ := map_ok e
    unfold namedM at hp
    cases e2 : look h.ps name with
    | none => rw [e2] at hp; cases hp
    | some p' => rw [e2] at hp; cases hp; exact g.paper e2
  · cases hp : namedM h name with
    | ok p => rw [hp] at o; exact o
    | error k => rw [hp] at o; exact o

theorem m_put (T : Tg K mg) (U : TgH K mg C CH) : Mo P w K mg base 1 CH "put" ["self", "name", "paper"] (spPut K C CH) := by
  refine U.f_put.ok U.ch.c sc_House_put (fun vs H Q E h => ?_) (fun cdv f A outer s H vs Q E hr h => ?_)
  · obtain ⟨c, name, v, o, h, G, rfl, _⟩ := h
    rfl
  obtain ⟨c, name, v, o, h, G, rfl, i, ho, r1, hd, hl, q⟩ := h
  refine ⟨_, (pss_one (ps_if (pt_cmpR op_isN (pv 2) pe_non (nomark _))
      (pss_one (ps_ddel (pe_fld (pv 0) rfl) (pv 1)))
      (pss_one (ps_dput (hu_of hr) (pe_fld (pv 0) rfl) (pv 1) (pv 2) rfl)))), ?_⟩
  refine st_if (G := G) (et_test (ev_isOP (K := K) (C := C) (o := o) (ev_var rfl r1))) i (fun hb G1 H1 g1 => ?_) (fun hb G1 H1 g1 => ?_)
  · cases o with
    | some p => cases hb
    | none => exact st_hdel U.ch rfl (ho.step0 g1) g1.i (ev_var (x := name) rfl rfl) (hd rfl) (fun G' H' g' ho' => q G' H' ((Gr.toMs g1).trans g' (fun z hz => .inl (by rw [hz]; exact ho'.p.1))) ho')
  · cases o with
    | none => cases hb
    | some p => exact st_hput U.ch rfl (ho.step0 g1) g1.i (ev_var (x := (Pap.mk p : Pap K C)) rfl (Rep.mono (α := OPap K C) (x := OPap.mk (some p)) g1.g r1)) (ev_var (x := name) rfl rfl) hl (fun G' H' g' ho' => q G' H' ((Gr.toMs g1).trans g' (fun z hz => .inl (by rw [hz]; exact ho'.p.1))) ho')
theorem m_paper_to_add (T : Tg K mg) (U : TgH K mg C CH) (O : OthHd w K mg) (X : Exs K mg ad) : Mo P w K mg base 45 CH "paper_to_add" ["self", "name", "plan"] (spAdd ad K C CH) := by
  have D1 := q_is_name (P := P) (w := w) (base := base) T
  have X1 := r_new_paper (P := P) (w := w) (base := base) T U.pa O X
  have e_BadName := X.badName
  have e_Taken := X.taken
  have e_Full := X.full
  have bl := T.bl
  obtain ⟨_, m_MOST_PAPERS⟩ := T.MOST_PAPERS
  refine U.f_paper_to_add.ok U.ch.c sc_House_paper_to_add (fun vs H Q E h => ?_) (fun cdv f A outer s H vs Q E hr h => ?_)
  · obtain ⟨c, name, v, q, h, G, n, rfl, _⟩ := h
    rfl
  obtain ⟨c, name, v, q, h, G, n, rfl, i, ho, g, r1, hn, o⟩ := h
  unfold addM at o
  refine ⟨_, (pss_cons (ps_if (pt_not (pt_val (pe_df D1 hr (by first | decide | omega) (by rfl) (pa_cons (pv 1) pa_nil))))
      (pss_one (L2N.ps_raise rfl (L2N.takes_of rfl rfl rfl rfl) (L2N.pmk_own PySem.F.excBase_ValueError e_BadName.x e_BadName.g e_BadName.k (raises_own e_BadName.b e_BadName.t) rfl)))
      pss_nil)
    (pss_cons (ps_if (pt_cmp (pc_din (hu_of hr) (pv 1) (pe_fld (pv 0) rfl)) (by rfl))
      (pss_one (L2N.ps_raise rfl (L2N.takes_of rfl rfl rfl rfl) (L2N.pmk_own PySem.F.excBase_ValueError e_Taken.x e_Taken.g e_Taken.k (raises_own e_Taken.b e_Taken.t) rfl)))
      pss_nil)
    (pss_cons (ps_set (i := 3) sc_House_paper_to_add.nd rfl (by first | exact .inl rfl | exact .inr rfl) (pe_dfS X1 hr (by first | decide | omega) (by rfl) (L2N.takes_of rfl rfl rfl rfl) (pa_cons (pv 2) pa_nil)))
    (pss_cons (ps_if (pt_cmpR op_ge (pe_callB call_len_dK (by rfl) (bl "len" (by decide)) (by decide +kernel) (pa_cons (pe_fld (pv 0) rfl) pa_nil)) (pe_glob (v := .int 12) (by rfl) m_MOST_PAPERS ⟨_, rfl⟩) (nomark _))
      (pss_one (L2N.ps_raise rfl (L2N.takes_of rfl rfl rfl rfl) (L2N.pmk_own PySem.F.excBase_ValueError e_Full.x e_Full.g e_Full.k (raises_own e_Full.b e_Full.t) rfl)))
      pss_nil)
    (pss_one (ps_ret (pv 3))))))), ?_⟩
  refine sq_ifn (G := G) (et_not (et_B (ev_call1 (f := nameB) (ev_var (x := name) rfl rfl) hn))) i (fun hb G1 H1 g1 => ?_) (fun hb G1 H1 g1 => ?_)
  · rw [if_neg (by rw [(Bool.not_eq_true' _).mp hb]; decide)] at o
    exact o G1 H1 g1
  rw [if_pos ((Bool.not_eq_false' _).mp hb)] at o
  refine sq_ifnH (G := G1) (et_testH (eh_pin U.ch rfl (ho.step0 g1) g1.i (ev_var (x := name) rfl rfl))) (fun hb G2 H2 g2 => ?_) (fun hb G2 H2 g2 => ?_)
  · rw [if_pos hb] at o
    exact o G2 H2 (g1.trans g2)
  rw [if_neg (by rw [hb]; decide)] at o
  have g02 := g1.trans g2
  refine sq_setR (ad := ad) (G := G2) (er_call1 (x := q) (f := fun p => (newM p).map (Pap.mk (K := K) (C := C))) (ev_var rfl (Rep.mono g02.g r1)) trivial) g2.i (fun y e v3 G3 H3 g3 r3 => ?_) (fun k e G3 H3 g3 => ?_)
  · obtain ⟨p, hp, rfl⟩ := map_ok e
    rw [hp] at o
    have o : Out ad G H Q E ((if 12 ≤ h.ps.length then (.error .full : Except Ek PapM) else .ok p).map (Pap.mk (K := K) (C := C))) := o
    have g03 := g02.trans g3
    refine sq_ifnH (G := G3) (b := decide ((12 : Int) ≤ ((h.ps.length : Nat) : Int))) (et_testH (eh_geI (eh_plen U.ch rfl (ho.step0 g03) g3.i) ev_int)) (fun hb G4 H4 g4 => ?_) (fun hb G4 H4 g4 => ?_)
    · rw [if_pos (by have := of_decide_eq_true hb; omega)] at o
      exact o G4 H4 (g03.trans g4)
    · rw [if_neg (by have := of_decide_eq_false hb; omega)] at o
      exact st_ret (G := G4) (ev_var rfl (Rep.mono g4.g r3)) g4.i (fun v G' H' g' r => o v G' H' ((g03.trans g4).trans g') r)
  · rw [map_err e] at o
    exact o G3 H3 (g02.trans g3)
end


section
variable {P : Program} {w : World} {K : Fg} {mg : Str → Option Value} {base : Heap} {C CH : Addr} {ad : Ek → Addr}
def Dd.word : Dd → Str
  | .fold _ _ => "fold"
  | .drop _ => "drop"
  | .act _ a => a.word
def Dd.rest : Dd → List Th
  | .fold _ q => [.p q]
  | .drop _ => []
  | .act _ a => a.things
theorem ths_eq (d : Dd) : d.ths = .s d.word :: .s d.name :: d.rest := by cases d <;> rfl
theorem kinds_d (d : Dd) : ∃ ks, kindsOf d.word = some ks ∧ ks.length + 1 = d.ths.length := by
  cases d with
  | fold n q => exact ⟨_, rfl, rfl⟩
  | drop n => exact ⟨_, rfl, rfl⟩
  | act n a => cases a <;> exact ⟨_, rfl, rfl⟩
theorem r_check_deed (T : Tg K mg) (X : Exs K mg ad) (TH : ThingsW w K mg) : DfX P w K mg base 1 "check_deed" ["deed"] (spR1 ad (fun (t : Tup Th) => ∃ d : Dd, t.l = d.ths) (fun _ => (.ok () : Except Ek Unit))) := by
  have e_BadDeed := X.badDeed
  have bl := T.bl
  obtain ⟨a_THINGS, m_THINGS, hs, hk⟩ := TH
  refine T.check_deed.okX sc_check_deed len_spR1 (fun cdv f A outer s H vs Q E hr h => ?_)
  obtain ⟨v, ⟨t⟩, G, rfl, i, r1, ⟨d, hd⟩, o⟩ := h
  obtain rfl : t = d.ths := hd
  obtain ⟨ks, k1, k2⟩ := kinds_d d
  obtain ⟨b, kd, hS⟩ := hk _ (kinds_mem k1)
  have kd : KDct K w a_THINGS d.word (.ref b) := kd
  have hS : ∀ H, SqT K H b (ks.map V.str) := hS
  have l2 : 2 ≤ d.ths.length := by rw [ths_eq]; simp
  refine ⟨_, (pss_cons (ps_if (PW.pt (pw_or (pt_cmpR op_eq (pe_callB (call_lenK (K := K) rfl) (by rfl) (bl "len" (by decide)) (by decide +kernel) (pa_cons (pv 0) pa_nil)) pe_int (nomark _)) (pw_or1 (pt_cmpR (op_notInKD (K := K) (w := w) rfl rfl) (pe_ix (ix_tupK (K := K) rfl) (pv 0) pe_int (fun _ _ => rfl)) (pe_glob (v := .ref a_THINGS) (by rfl) m_THINGS rfl) (by rfl)))))
      (pss_one (L2N.ps_raise rfl (L2N.takes_of rfl rfl rfl rfl) (L2N.pmk_own PySem.F.excBase_ValueError e_BadDeed.x e_BadDeed.g e_BadDeed.k (raises_own e_BadDeed.b e_BadDeed.t) rfl)))
      pss_nil)
    (pss_one (ps_if (pt_cmpR op_ne (pe_callB (call_lenK (K := K) rfl) (by rfl) (bl "len" (by decide)) (by decide +kernel) (pa_cons (pv 0) pa_nil)) (pe_op op_add pe_int (pe_callB (call_lenK (K := K) rfl) (by rfl) (bl "len" (by decide)) (by decide +kernel) (pa_cons (pe_ix ix_kdict (pe_glob (v := .ref a_THINGS) (by rfl) m_THINGS rfl) (pe_ix (ix_tupK (K := K) rfl) (pv 0) pe_int (fun _ _ => rfl)) (fun _ _ => rfl)) pa_nil))) (nomark _))
      (pss_one (L2N.ps_raise rfl (L2N.takes_of rfl rfl rfl rfl) (L2N.pmk_own PySem.F.excBase_ValueError e_BadDeed.x e_BadDeed.g e_BadDeed.k (raises_own e_BadDeed.b e_BadDeed.t) rfl)))
      pss_nil))), ?_⟩
  have e0 : ∀ {σ : L2.St} {G : Hp}, σ[0]? = some (some v) → rep G v (Tup.mk d.ths) → Ev (tOp (rIxT K) (tVar 0) (tC (.int 0))) σ G d.word := fun {σ G} hv r => ev_sTh (Ev.cast (ev_ixT (xs := Tup.mk d.ths) (i := 0) (ev_var hv r) ev_int ⟨Int.le_refl _, by show (0 : Int) < d.ths.length; omega⟩) (by show ix d.ths 0 = _; rw [ths_eq]; rfl))
  refine sq_ifn (G := G) (b := false) (et_or' (et_test (Ev.cast (ev_eqI (ev_lenT (xs := Tup.mk d.ths) (ev_var rfl r1)) ev_int) (decide_eq_false (by show ¬ ((d.ths.length : Nat) : Int) = 0; omega)))) (et_test (ev_notInKD (z := d.word) (e0 rfl r1) kd hs))) i (fun hb _ _ _ => by cases hb) (fun _ G1 H1 g1 => ?_)
  have r1 := Rep.mono g1.g r1
  have lk : Ev (tCB (rLen K) (tCons (tOp (rIxD K w) (tC (.ref a_THINGS)) (tOp (rIxT K) (tVar 0) (tC (.int 0)))) tNil)) (start N_check_deed [v]) G1 ((ks.map V.str).length : Int) := fun H5 i5 Q5 q5 =>
    (e0 rfl r1) H5 i5 _ fun u G6 H6 g6 r6 => by
      cases r6
      exact ⟨a_THINGS, d.word, .ref b, rfl, rfl, kd, b, ks.map V.str, rfl, .inr (hS H6), q5 _ G6 H6 g6 rfl⟩
  refine st_if (G := G1) (b := false) (et_test (Ev.cast (ev_neI (ev_lenT (xs := Tup.mk d.ths) (ev_var rfl r1)) (ev_add ev_int lk)) (by rw [List.length_map, decide_eq_true (by show ((d.ths.length : Nat) : Int) = 1 + ((ks.length : Nat) : Int); omega)]; rfl))) g1.i (fun hb _ _ _ => by cases hb) (fun _ G2 H2 g2 => o .non G2 H2 (g1.trans g2) rfl)
theorem act_words (a : Ac) : ¬ a.word = ("fold" : Str) ∧ ¬ a.word = ("drop" : Str) := by
  have key : ∀ x ∈ (["pinch", "unpinch", "over", "about", "paint", "mark", "wash", "unfold", "refold"] : List Str), ¬ x = ("fold" : Str) ∧ ¬ x = ("drop" : Str) := by decide +kernel
  exact key _ (by cases a <;> simp [Ac.word])
theorem m_paper_behind (T : Tg K mg) (U : TgH K mg C CH) (O : OthHd w K mg) (X : Exs K mg ad) (CHW : ChangesW w K mg) : Mo P w K mg base 48 CH "paper_behind" ["self", "deed"] (spPB ad K C CH) := by
  have M_paper_named := m_paper_named (P := P) (w := w) (base := base) T U X
  have M_paper_to_add := m_paper_to_add (P := P) (w := w) (base := base) T U O X
  have X1 := r_changed (P := P) (w := w) (base := base) T U.pa O X CHW
  have bl := T.bl
  refine U.f_paper_behind.ok U.ch.c sc_House_paper_behind (fun vs H Q E h => ?_) (fun cdv f A outer s H vs Q E hr h => ?_)
  · obtain ⟨c, v, d, h, G, n, rfl, _⟩ := h
    rfl
  obtain ⟨c, v, d, h, G, n, rfl, i, ho, g, r1, ok, o⟩ := h
  refine ⟨_, (pss_cons (ps_asg (pv 1) (pg_starT (K := K) rfl rfl (pgs_cons (pg_name (i := 2) sc_House_paper_behind.nd rfl (by first | exact .inl rfl | exact .inr rfl)) (pgs_cons (pg_name (i := 3) sc_House_paper_behind.nd rfl (by first | exact .inl rfl | exact .inr rfl)) (pgs_starred (pg_name (i := 4) sc_House_paper_behind.nd rfl (by first | exact .inl rfl | exact .inr rfl)) pgs_nil)))))
    (pss_cons (ps_if (pt_cmpR op_eq (pv 2) pe_str (nomark _))
      (pss_one (ps_ret (pe_mo M_paper_to_add hr (by first | decide | omega) (L2N.takes_of rfl rfl rfl rfl) (pv 0) (pa_cons (pv 3) (pa_cons (pe_ix (ix_listK (K := K) rfl) (pv 4) pe_int (fun _ _ => rfl)) pa_nil)))))
      pss_nil)
    (pss_cons (ps_set (i := 5) sc_House_paper_behind.nd rfl (by first | exact .inl rfl | exact .inr rfl) (pe_mo M_paper_named hr (by first | decide | omega) (L2N.takes_of rfl rfl rfl rfl) (pv 0) (pa_cons (pv 3) pa_nil)))
    (pss_cons (ps_if (pt_cmpR op_eq (pv 2) pe_str (nomark _))
      (pss_one (ps_ret pe_non))
      pss_nil)
    (pss_one (ps_ret (pe_dfS X1 hr (by first | decide | omega) (by rfl) (L2N.takes_of rfl rfl rfl rfl) (pa_cons (pv 5) (pa_cons (pv 2) (pa_cons (pv 4) pa_nil)))))))))), ?_⟩
  have hlr : d.rest.length ≤ 10000 := by
    cases d with
    | fold n q => exact Nat.le_of_ble_eq_true rfl
    | drop n => exact Nat.le_of_ble_eq_true rfl
    | act n a => cases a <;> exact Nat.le_of_ble_eq_true rfl
  rw [ths_eq] at r1
  refine sq_starT (K := K) (G := G) (x := Th.s d.word) (y := Th.s d.name) (xs := d.rest) (ev_var rfl r1) i hlr (fun u1 u2 p_ G1 H1 g1 k1 k2 k3 => ?_)
  have k1 : u1 = .str d.word := k1
  have k2 : u2 = .str d.name := k2
  subst k1 k2
  have ho1 := ho.step0 g1
  have o := o.after g1
  have named : ∀ {σ : L2.St} {W : WX}, σ[0]? = some (some (.ref c.a)) → σ[3]? = some (some (.str d.name)) → ∀ {G2 H2 : Hp}, Gr M0 G1 H1 G2 H2 → EvRH (tMo CH "paper_named" (spH1 ad K C CH (fun h n => (namedM h n).map (Pap.mk (K := K) (C := C)))) (WE W) (tVar 0) (tCons (tVar 3) tNil)) σ G2 H2 ad W ((namedM h d.name).map (Pap.mk (K := K) (C := C))) := fun {σ W} hv hn {G2 H2} g2 =>
    erh_m1 (f := fun h n => (namedM h n).map (Pap.mk (K := K) (C := C))) hv (ho1.step0 g2) g2.i g (ev_var (x := d.name) hn rfl) rfl
  cases d with
  | fold n q =>
    refine sq_ifn (G := G1) (b := true) (et_test (Ev.cast (ev_eqS (ev_var (x := ("fold" : Str)) rfl rfl) ev_str) (by decide +kernel))) g1.i (fun _ G2 H2 g2 => ?_) (fun hb _ _ _ => by cases hb)
    have ho2 := ho1.step0 g2
    obtain ⟨dx, e2⟩ := ho2.e
    refine ⟨.ref c.a, rfl, c.a, dx, _, rfl, e2, rfl, .str n, rfl, (ev_pTh (Ev.cast (ev_ixL (xs := [Th.p q]) (i := 0) (ev_var rfl (Rep.mono g2.g k3)) ev_int ⟨Int.le_refl _, by show (0 : Int) < 1; decide⟩) rfl)) H2 g2.i _ (fun v5 G5 H5 g5 r5 => ?_)⟩
    have o := o.after (g2.trans g5)
    refine ⟨c, n, v5, q, h, G5, _, rfl, g5.i, ho2.step0 g5, g, r5, ok, ?_⟩
    have o : Out ad G5 H5 Q E (((addM h n q).map some).map (OPap.mk (K := K) (C := C))) := o
    cases e : addM h n q with
    | ok p => rw [e] at o; exact fun v G' H' g' r => o v G' H' g' r
    | error k => rw [e] at o; exact o
  | drop n =>
    refine sq_ifn (G := G1) (b := false) (et_test (Ev.cast (ev_eqS (ev_var (x := ("drop" : Str)) rfl rfl) ev_str) (by decide +kernel))) g1.i (fun hb _ _ _ => by cases hb) (fun _ G2 H2 g2 => ?_)
    have o : Out ad G1 H1 Q E (((namedM h n).map (fun _ => (none : Option PapM))).map (OPap.mk (K := K) (C := C))) := o
    refine sq_setRH (ad := ad) (named rfl rfl g2) (fun y e v5 G3 H3 g3 r3 => ?_) (fun k e G3 H3 g3 => ?_)
    · obtain ⟨p, hp, rfl⟩ := map_ok e
      have hp : namedM h n = .ok p := hp
      rw [hp] at o
      refine sq_ifn (G := G3) (b := true) (et_test (Ev.cast (ev_eqS (ev_var (x := ("drop" : Str)) rfl rfl) ev_str) (by decide +kernel))) g3.i (fun _ G4 H4 g4 => ?_) (fun hb _ _ _ => by cases hb)
      exact o .non G4 H4 ((g2.trans g3).trans g4) rfl
    · have e : namedM h n = .error k := map_err e
      rw [e] at o
      exact o G3 H3 (g2.trans g3)
  | act n a =>
    have wne : decide (a.word = ("fold" : Str)) = false ∧ decide (a.word = ("drop" : Str)) = false := ⟨decide_eq_false (act_words a).1, decide_eq_false (act_words a).2⟩
    refine sq_ifn (G := G1) (b := false) (et_test (Ev.cast (ev_eqS (ev_var (x := a.word) rfl rfl) ev_str) wne.1)) g1.i (fun hb _ _ _ => by cases hb) (fun _ G2 H2 g2 => ?_)
    have o : Out ad G1 H1 Q E ((match namedM h n with | .error e => (.error e : Except Ek (Option PapM)) | .ok p => (actM p a).map some).map (OPap.mk (K := K) (C := C))) := o
    refine sq_setRH (ad := ad) (named rfl rfl g2) (fun y e v5 G3 H3 g3 r3 => ?_) (fun k e G3 H3 g3 => ?_)
    · obtain ⟨p, hp, rfl⟩ := map_ok e
      have hp : namedM h n = .ok p := hp
      rw [hp] at o
      have lk : look h.ps n = some p := by
        unfold namedM at hp
        cases z : look h.ps n with
        | none => rw [z] at hp; cases hp
        | some p' => rw [z] at hp; cases hp; rfl
      refine sq_ifn (G := G3) (b := false) (et_test (Ev.cast (ev_eqS (ev_var (x := a.word) rfl rfl) ev_str) wne.2)) g3.i (fun hb _ _ _ => by cases hb) (fun _ G4 H4 g4 => ?_)
      have g24 := (g2.trans g3).trans g4
      refine ⟨v5, rfl, .str a.word, rfl, .ref p_, rfl, v5, .ref p_, p, a, G4, rfl, g4.i, Rep.mono g4.g r3, Rep.mono g24.g k3, g.paper lk, ok p lk, ?_⟩
      have o := o.after g24
      have o : Out ad G4 H4 Q E (((actM p a).map some).map (OPap.mk (K := K) (C := C))) := o
      cases e : actM p a with
      | ok q => rw [e] at o; exact fun v G' H' g' r => o v G' H' g' r
      | error k => rw [e] at o; exact o
    · have e : namedM h n = .error k := map_err e
      rw [e] at o
      exact o G3 H3 (g2.trans g3)
theorem m_do (T : Tg K mg) (U : TgH K mg C CH) (O : OthHd w K mg) (X : Exs K mg ad) (CHW : ChangesW w K mg) (TH : ThingsW w K mg) : Mo P w K mg base 49 CH "do" ["self", "deed"] (spDo ad K C CH) := by
  have M_paper_behind := m_paper_behind (P := P) (w := w) (base := base) T U O X CHW
  have M_put := m_put (P := P) (w := w) (base := base) T U
  have X1 := r_check_deed (P := P) (w := w) (base := base) T X TH
  have bl := T.bl
  refine U.f_do.ok U.ch.c sc_House_do (fun vs H Q E h => ?_) (fun cdv f A outer s H vs Q E hr h => ?_)
  · obtain ⟨c, v, d, h, G, n, rfl, _⟩ := h
    rfl
  obtain ⟨c, v, d, h, G, n, rfl, i, ho, g, r1, ok, o⟩ := h
  refine ⟨_, (pss_cons (ps_expr (pe_dfS X1 hr (by first | decide | omega) (by rfl) (L2N.takes_of rfl rfl rfl rfl) (pa_cons (pv 1) pa_nil)))
    (pss_cons (ps_set (i := 2) sc_House_do.nd rfl (by first | exact .inl rfl | exact .inr rfl) (pe_mo M_paper_behind hr (by first | decide | omega) (L2N.takes_of rfl rfl rfl rfl) (pv 0) (pa_cons (pv 1) pa_nil)))
    (pss_cons (ps_set (i := 3) sc_House_do.nd rfl (by first | exact .inl rfl | exact .inr rfl) (pe_dget1 (hu_of hr) (pe_fld (pv 0) rfl) (pe_ix (ix_tupK (K := K) rfl) (pv 1) pe_int (fun _ _ => rfl)) ⟨rfl, rfl, rfl, rfl⟩))
    (pss_cons (ps_expr (pe_bm PySem.F.plainAttrs_list PySem.F.slot_list_append PySem.F.type_list_append mt_append (pe_fld (pv 0) rfl) (pa_cons (pe_tup (pa_cons (pv 1) (pa_cons (pv 3) (pa_cons (pv 2) pa_nil)))) pa_nil)))
    (pss_cons (ps_fld (pv 0) (pe_lst pa_nil) rfl)
    (pss_one (ps_expr (pe_mo M_put hr (by first | decide | omega) takes_n5 (pv 0) (pa_cons (pe_ix (ix_tupK (K := K) rfl) (pv 1) pe_int (fun _ _ => rfl)) (pa_cons (pv 2) pa_nil)))))))))), ?_⟩
  refine sq_dropR (ad := ad) (G := G) (er_call1 (x := Tup.mk d.ths) (f := fun (_ : Tup Th) => (.ok () : Except Ek Unit)) (ev_var rfl r1) ⟨d, rfl⟩) i (fun _ _ G1 H1 g1 => ?_) (fun k e _ _ _ => by cases e)
  have ho1 := ho.step0 g1
  have pb : ∀ {W : WX}, EvRH (tMo CH "paper_behind" (spPB ad K C CH) (WE W) (tVar 0) (tCons (tVar 1) tNil)) [some (.ref c.a), some v, none, none] G1 H1 ad W ((pbM h d).map (OPap.mk (K := K) (C := C))) := fun {W} Q o => by
    obtain ⟨dx, e⟩ := ho1.e
    exact ⟨.ref c.a, rfl, c.a, dx, _, rfl, e, rfl, v, rfl, c, v, d, h, G1, n, rfl, g1.i, ho1, g, Rep.mono g1.g r1, ok, o⟩
  refine sq_setRH (ad := ad) pb (fun y e v2 G2 H2 g2 r2 => ?_) (fun k e G2 H2 g2 => ?_)
  · obtain ⟨b, hb, rfl⟩ := map_ok e
    rw [hb] at o
    have g02 := g1.trans g2
    have ho2 := ho.step0 g02
    have rd := Rep.mono g02.g r1
    have l2 : 2 ≤ d.ths.length := by rw [ths_eq]; simp
    have nm : ∀ {σ : L2.St} {G : Hp}, σ[1]? = some (some v) → rep G v (Tup.mk d.ths) → Ev (tOp (rIxT K) (tVar 1) (tC (.int 1))) σ G d.name := fun {σ G} hv r => ev_sTh (Ev.cast (ev_ixT (xs := Tup.mk d.ths) (i := 1) (ev_var hv r) ev_int ⟨by decide, by show (1 : Int) < d.ths.length; omega⟩) (by show ix d.ths 1 = _; rw [ths_eq]; rfl))
    refine sq_setE (eh_pget1 (K := K) (C := C) (name := d.name) U.ch rfl ho2 g2.i (fun G5 H5 g5 => nm rfl (Rep.mono g5.g rd))) (fun v3 G3 H3 g3 r3 => ?_)
    have g03 := g02.trans g3
    have ho3 := ho.step0 g03
    have rd3 := Rep.mono g3.g rd
    have r23 := Rep.mono g3.g r2
    have hs := g.s
    have hm := g.m
    refine sq_happ (x := (d, look h.ps d.name, b)) U.ch rfl ho3 g3.i (by omega) (Ev.at (ev_tup3 (x := (Tup.mk d.ths : Tup Th)) (y := (OPap.mk (look h.ps d.name) : OPap K C)) (z := (OPap.mk b : OPap K C)) (ev_var rfl rd3) (ev_var rfl r3) (ev_var rfl r23)) g3.i) (fun G4 H4 g4 ho4 => ?_)
    refine sq_hclr U.ch rfl ho4 g4.i (fun l H5 nl g5 ho5 => ?_)
    have rd5 := Rep.mono g4.g rd3
    have r25 := Rep.mono g4.g r23
    obtain ⟨dx5, e5⟩ := ho5.e
    refine ⟨.ref c.a, rfl, c.a, dx5, _, rfl, e5, rfl, (nm rfl rd5) H5 g5.i _ (fun v6 G6 H6 g6 r6 => ?_)⟩
    cases r6
    refine ⟨v2, rfl, ⟨c.a, c.pp, c.sp, l⟩, d.name, v2, b, ⟨h.ps, h.st ++ [(d, look h.ps d.name, b)], []⟩, G6, rfl, g6.i, ho5.step0 g6, Rep.mono g6.g r25, ?_, ?_, fun G7 H7 g7 ho7 => ?_⟩
    · rintro rfl
      cases d with
      | fold m q =>
        have hb : (addM h m q).map some = .ok none := hb
        obtain ⟨_, _, z⟩ := map_ok hb
        cases z
      | drop m =>
        have hb : (namedM h m).map (fun _ => (none : Option PapM)) = .ok none := hb
        obtain ⟨p, hp, _⟩ := map_ok hb
        show (look h.ps m).isSome = true
        unfold namedM at hp
        cases z : look h.ps m with
        | none => rw [z] at hp; cases hp
        | some p' => rfl
      | act m a =>
        have hb : (match namedM h m with | .error e => (.error e : Except Ek (Option PapM)) | .ok p => (actM p a).map some) = .ok none := hb
        cases z : namedM h m with
        | error k => rw [z] at hb; cases hb
        | ok p =>
          rw [z] at hb
          have hb : (actM p a).map some = .ok none := hb
          obtain ⟨_, _, z2⟩ := map_ok hb
          cases z2
    · show h.ps.length < 1000
      have := g.l
      omega
    · have gA : Gr (MD c) G H G4 H4 := (Gr.toMs g03).trans (g4.up fun a (z : a = c.sp) => .inr (.inr z)) (fun a z => ?_)
      have gB : Gr (MD c) G H G4 H5 := gA.trans (g5.up fun a (z : a = c.a) => .inl z) (fun a z => ?_)
      have gC : Gr (MD c) G H G6 H6 := gB.trans (Gr.toMs g6) (fun a z => ?_)
      have gD : Gr (MD c) G H G7 H7 := gC.trans (g7.up fun a (z : a = c.pp) => .inr (.inl z)) (fun a z => ?_)
      · exact o l G7 H7 gD (by
          have n4 := nl
          cases q : H l with
          | none => rfl
          | some u => 
            by_cases m : l = c.sp
            · obtain ⟨_, vs4, e4, _⟩ := ho4.s
              rw [m, e4] at n4
              cases n4
            · have z := g4.h l u m (g03.same l u q)
              rw [z] at n4
              cases n4) ho7
      · exact .inl (z.elim (fun e => e ▸ ho7.n) fun z => z.elim (fun e => e ▸ ho7.p.1) fun e => e ▸ ho7.s.1)
      · have ho6 := ho5.step0 g6
        exact .inl (z.elim (fun e => e ▸ ho6.n) fun z => z.elim (fun e => e ▸ ho6.p.1) fun e => e ▸ ho6.s.1)
      · exact .inl (z.elim (fun e => e ▸ ho4.n) fun z => z.elim (fun e => e ▸ ho4.p.1) fun e => e ▸ ho4.s.1)
      · exact .inl (z.elim (fun e => e ▸ ho4.n) fun z => z.elim (fun e => e ▸ ho4.p.1) fun e => e ▸ ho4.s.1)
  · have e := map_err e
    rw [e] at o
    exact o G2 H2 (g1.trans g2)

end



section
variable {P : Program} {w : World} {K : Fg} {mg : Str → Option Value} {base : Heap} {C CH CP : Addr} {ad : Ek → Addr}
theorem q__law_kin (T : Tg K mg) (XK : ExsK K mg ad CP) {p : Addr × Obj} {cls : Value} {d : Option Addr} (hz : L2N.Zn cls d p.2) (hf : ∃ vs, p.2.data = .fields vs) : DfE P w K mg base 1 "_law_kin" ["_law_e"] (spKin ad p.1 cls d) p := by
  have bl := T.bl
  have m_BadPlan := XK.x.badPlan.g
  have m_BadWay := XK.x.badWay.g
  have m_Full := XK.x.full.g
  have m_BadName := XK.x.badName.g
  have m_Taken := XK.x.taken.g
  have m_NoPaper := XK.x.noPaper.g
  have m_BadSlot := XK.x.badSlot.g
  have m_BadColour := XK.x.badColour.g
  have m_BadLetter := XK.x.badLetter.g
  have m_Unfolded := XK.x.unfolded.g
  have m_Folded := XK.x.folded.g
  have m_OtherRow := XK.o
  have m_BadDeed := XK.x.badDeed.g
  have m_NoPinch := XK.x.noPinch.g
  refine T._law_kin.okE sc__law_kin (fun vs H Q E h => ?_) (fun cdv f A outer s H vs Q E hot hr h => ?_)
  · obtain ⟨k, G, _, rfl, _⟩ := h
    rfl
  obtain ⟨k, G, ke, rfl, i, q⟩ := h
  refine ⟨_, (pss_cons (ps_set (i := 1) sc__law_kin.nd rfl (by first | exact .inl rfl | exact .inr rfl) (pe_lst (pa_cons (pe_tup (pa_cons pe_str (pa_cons (pe_callB (call_isX (cls := cls) (d := d) (K := K) rfl List.mem_cons_self hz hf) (by rfl) (bl "isinstance" (by decide)) (by decide +kernel) (pa_cons (pv 0) (pa_cons (pe_glob (v := .ref _) (by rfl) m_BadPlan rfl) pa_nil))) pa_nil))) (pa_cons (pe_tup (pa_cons pe_str (pa_cons (pe_callB (call_isX (cls := cls) (d := d) (K := K) rfl List.mem_cons_self hz hf) (by rfl) (bl "isinstance" (by decide)) (by decide +kernel) (pa_cons (pv 0) (pa_cons (pe_glob (v := .ref _) (by rfl) m_BadWay rfl) pa_nil))) pa_nil))) (pa_cons (pe_tup (pa_cons pe_str (pa_cons (pe_callB (call_isX (cls := cls) (d := d) (K := K) rfl List.mem_cons_self hz hf) (by rfl) (bl "isinstance" (by decide)) (by decide +kernel) (pa_cons (pv 0) (pa_cons (pe_glob (v := .ref _) (by rfl) m_Full rfl) pa_nil))) pa_nil))) pa_nil)))))
    (pss_cons (ps_set (i := 1) sc__law_kin.nd rfl (by first | exact .inl rfl | exact .inr rfl) (pe_op op_cat (pv 1) (pe_lst (pa_cons (pe_tup (pa_cons pe_str (pa_cons (pe_callB (call_isX (cls := cls) (d := d) (K := K) rfl List.mem_cons_self hz hf) (by rfl) (bl "isinstance" (by decide)) (by decide +kernel) (pa_cons (pv 0) (pa_cons (pe_glob (v := .ref _) (by rfl) m_BadName rfl) pa_nil))) pa_nil))) (pa_cons (pe_tup (pa_cons pe_str (pa_cons (pe_callB (call_isX (cls := cls) (d := d) (K := K) rfl List.mem_cons_self hz hf) (by rfl) (bl "isinstance" (by decide)) (by decide +kernel) (pa_cons (pv 0) (pa_cons (pe_glob (v := .ref _) (by rfl) m_Taken rfl) pa_nil))) pa_nil))) pa_nil)))))
    (pss_cons (ps_set (i := 1) sc__law_kin.nd rfl (by first | exact .inl rfl | exact .inr rfl) (pe_op op_cat (pv 1) (pe_lst (pa_cons (pe_tup (pa_cons pe_str (pa_cons (pe_callB (call_isX (cls := cls) (d := d) (K := K) rfl List.mem_cons_self hz hf) (by rfl) (bl "isinstance" (by decide)) (by decide +kernel) (pa_cons (pv 0) (pa_cons (pe_glob (v := .ref _) (by rfl) m_NoPaper rfl) pa_nil))) pa_nil))) (pa_cons (pe_tup (pa_cons pe_str (pa_cons (pe_callB (call_isX (cls := cls) (d := d) (K := K) rfl List.mem_cons_self hz hf) (by rfl) (bl "isinstance" (by decide)) (by decide +kernel) (pa_cons (pv 0) (pa_cons (pe_glob (v := .ref _) (by rfl) m_BadSlot rfl) pa_nil))) pa_nil))) pa_nil)))))
    (pss_cons (ps_set (i := 1) sc__law_kin.nd rfl (by first | exact .inl rfl | exact .inr rfl) (pe_op op_cat (pv 1) (pe_lst (pa_cons (pe_tup (pa_cons pe_str (pa_cons (pe_callB (call_isX (cls := cls) (d := d) (K := K) rfl List.mem_cons_self hz hf) (by rfl) (bl "isinstance" (by decide)) (by decide +kernel) (pa_cons (pv 0) (pa_cons (pe_glob (v := .ref _) (by rfl) m_BadColour rfl) pa_nil))) pa_nil))) (pa_cons (pe_tup (pa_cons pe_str (pa_cons (pe_callB (call_isX (cls := cls) (d := d) (K := K) rfl List.mem_cons_self hz hf) (by rfl) (bl "isinstance" (by decide)) (by decide +kernel) (pa_cons (pv 0) (pa_cons (pe_glob (v := .ref _) (by rfl) m_BadLetter rfl) pa_nil))) pa_nil))) pa_nil)))))
    (pss_cons (ps_set (i := 1) sc__law_kin.nd rfl (by first | exact .inl rfl | exact .inr rfl) (pe_op op_cat (pv 1) (pe_lst (pa_cons (pe_tup (pa_cons pe_str (pa_cons (pe_callB (call_isX (cls := cls) (d := d) (K := K) rfl List.mem_cons_self hz hf) (by rfl) (bl "isinstance" (by decide)) (by decide +kernel) (pa_cons (pv 0) (pa_cons (pe_glob (v := .ref _) (by rfl) m_Unfolded rfl) pa_nil))) pa_nil))) (pa_cons (pe_tup (pa_cons pe_str (pa_cons (pe_callB (call_isX (cls := cls) (d := d) (K := K) rfl List.mem_cons_self hz hf) (by rfl) (bl "isinstance" (by decide)) (by decide +kernel) (pa_cons (pv 0) (pa_cons (pe_glob (v := .ref _) (by rfl) m_Folded rfl) pa_nil))) pa_nil))) pa_nil)))))
    (pss_cons (ps_set (i := 1) sc__law_kin.nd rfl (by first | exact .inl rfl | exact .inr rfl) (pe_op op_cat (pv 1) (pe_lst (pa_cons (pe_tup (pa_cons pe_str (pa_cons (pe_callB (call_isX (cls := cls) (d := d) (K := K) rfl List.mem_cons_self hz hf) (by rfl) (bl "isinstance" (by decide)) (by decide +kernel) (pa_cons (pv 0) (pa_cons (pe_glob (v := .ref _) (by rfl) m_OtherRow rfl) pa_nil))) pa_nil))) (pa_cons (pe_tup (pa_cons pe_str (pa_cons (pe_callB (call_isX (cls := cls) (d := d) (K := K) rfl List.mem_cons_self hz hf) (by rfl) (bl "isinstance" (by decide)) (by decide +kernel) (pa_cons (pv 0) (pa_cons (pe_glob (v := .ref _) (by rfl) m_BadDeed rfl) pa_nil))) pa_nil))) pa_nil)))))
    (pss_cons (ps_expr (pe_bm PySem.F.plainAttrs_list PySem.F.slot_list_append PySem.F.type_list_append mt_append (pv 1) (pa_cons (pe_tup (pa_cons pe_str (pa_cons (pe_callB (call_isX (cls := cls) (d := d) (K := K) rfl List.mem_cons_self hz hf) (by rfl) (bl "isinstance" (by decide)) (by decide +kernel) (pa_cons (pv 0) (pa_cons (pe_glob (v := .ref _) (by rfl) m_NoPinch rfl) pa_nil))) pa_nil))) pa_nil)))
    (pss_one (ps_ret (pe_bm PySem.F.plainAttrs_str PySem.F.slot_str_join PySem.F.type_str_join (mt_joinK (K := K) rfl) pe_str (pa_cons (pe_lcH (own := [("_law_word", 2), ("_law_so", 3)]) ⟨p, hot, List.mem_cons_self⟩ sc__law_kin.nd (pv 1) (blkOk_by (own := [("_law_word", 2), ("_law_so", 3)]) (N := N__law_kin) (sc := defScope s__law_kin) (by decide +kernel)) (fun _ _ _ _ _ p9 h9 => (pg_tupK (K := K) (n := 2) rfl (pg_tupH ⟨p9, h9, List.mem_cons_self⟩ (pgs_cons (pg_name (i := 2) sc__law_kin.nd rfl (by first | exact .inl rfl | exact .inr rfl)) (pgs_cons (pg_name (i := 3) sc__law_kin.nd rfl (by first | exact .inl rfl | exact .inr rfl)) pgs_nil))))) (fun _ _ _ _ _ p9 h9 => pts_one (pt_val (pv 3))) (fun _ _ _ _ _ p9 h9 => (pv 2))) pa_nil))))))))))), ?_⟩
  refine sq_set (G := G) (x := [(("BadPlan" : Str), decide (k = .badPlan)), ("BadWay", decide (k = .badWay)), ("Full", decide (k = .full))]) (ev_lst (evs_cons (ev_tup2 ev_str (ev_isK XK ke rfl (by decide))) (evs_cons (ev_tup2 ev_str (ev_isK XK ke rfl (by decide))) (evs_cons (ev_tup2 ev_str (ev_isK XK ke rfl (by decide))) evs_nil))) (by show 3 ≤ 100000; decide)) i (fun v1 G1 H1 g1 r1 => ?_)
  refine sq_set (G := G1) (ev_catL (ev_var rfl r1) (ev_lst (xs := [(("BadName" : Str), decide (k = .badName)), ("Taken", decide (k = .taken))]) (evs_cons (ev_tup2 ev_str (ev_isK XK ke rfl (by decide))) (evs_cons (ev_tup2 ev_str (ev_isK XK ke rfl (by decide))) evs_nil)) (by show 2 ≤ 100000; decide)) (by show 5 ≤ 100000; decide)) g1.i (fun v2 G2 H2 g2 r2 => ?_)
  refine sq_set (G := G2) (ev_catL (ev_var rfl r2) (ev_lst (xs := [(("NoPaper" : Str), decide (k = .noPaper)), ("BadSlot", decide (k = .badSlot))]) (evs_cons (ev_tup2 ev_str (ev_isK XK ke rfl (by decide))) (evs_cons (ev_tup2 ev_str (ev_isK XK ke rfl (by decide))) evs_nil)) (by show 2 ≤ 100000; decide)) (by show 7 ≤ 100000; decide)) g2.i (fun v3 G3 H3 g3 r3 => ?_)
  refine sq_set (G := G3) (ev_catL (ev_var rfl r3) (ev_lst (xs := [(("BadColour" : Str), decide (k = .badColour)), ("BadLetter", decide (k = .badLetter))]) (evs_cons (ev_tup2 ev_str (ev_isK XK ke rfl (by decide))) (evs_cons (ev_tup2 ev_str (ev_isK XK ke rfl (by decide))) evs_nil)) (by show 2 ≤ 100000; decide)) (by show 9 ≤ 100000; decide)) g3.i (fun v4 G4 H4 g4 r4 => ?_)
  refine sq_set (G := G4) (ev_catL (ev_var rfl r4) (ev_lst (xs := [(("Unfolded" : Str), decide (k = .unfolded)), ("Folded", decide (k = .folded))]) (evs_cons (ev_tup2 ev_str (ev_isK XK ke rfl (by decide))) (evs_cons (ev_tup2 ev_str (ev_isK XK ke rfl (by decide))) evs_nil)) (by show 2 ≤ 100000; decide)) (by show 11 ≤ 100000; decide)) g4.i (fun v5 G5 H5 g5 r5 => ?_)
  refine sq_catN (G := G5) (ev_var rfl r5) (ev_lst (xs := [(("OtherRow" : Str), decide (k = .otherRow)), ("BadDeed", decide (k = .badDeed))]) (evs_cons (ev_tup2 ev_str (ev_isK XK ke rfl (by decide))) (evs_cons (ev_tup2 ev_str (ev_isK XK ke rfl (by decide))) evs_nil)) (by show 2 ≤ 100000; decide)) g5.i (by show 13 ≤ 100000; decide) (fun pa G6 H6 o6 g6 np ml6 s6 => ?_)
  have g06 := ((((g1.trans g2).trans g3).trans g4).trans g5).trans g6
  have gd : Gr M0 G H G6 (upd H6 pa o6) := g06.mut (.inl (up_none g06.same np)) ml6.1
  refine sq_append (G := G6) (i := 1) (p := pa) (x := (("NoPinch" : Str), decide (k = .noPinch))) rfl ml6 (ev_tup2 ev_str (ev_isK XK ke rfl (by decide))) s6 (by show 13 < 100000; decide) (fun G7 H7 o7 g7 ml7 s7 => ?_)
  have gd7 : Gr M0 G H G7 (upd H7 pa o7) := (gd.trans g7).mut (.inl (up_none g06.same np)) ml7.1
  obtain ⟨G8, g8, r8, s8⟩ := ml7.frz gd7 (up_none g06.same np)
  have key : Txt.join " " ((([(("BadPlan" : Str), decide (k = .badPlan)), ("BadWay", decide (k = .badWay)), ("Full", decide (k = .full))] ++ [(("BadName" : Str), decide (k = .badName)), ("Taken", decide (k = .taken))] ++ [(("NoPaper" : Str), decide (k = .noPaper)), ("BadSlot", decide (k = .badSlot))] ++ [(("BadColour" : Str), decide (k = .badColour)), ("BadLetter", decide (k = .badLetter))] ++ [(("Unfolded" : Str), decide (k = .unfolded)), ("Folded", decide (k = .folded))] ++ [(("OtherRow" : Str), decide (k = .otherRow)), ("BadDeed", decide (k = .badDeed))] ++ [(("NoPinch" : Str), decide (k = .noPinch))] : List (Str × Bool)).filter fun e => e.2).map fun e => e.1) = kinW k := by
    clear ke q
    cases k <;> rfl
  rw [← key] at q
  refine st_ret (G := G8) (ev_joinS (ev_lcf (f := fun e : Str × Bool => e.1) (p := fun e : Str × Bool => e.2) (ei_list (ev_var rfl r8)) (by show 14 ≤ 100000; decide) (fun x hx v G9 s9 rx => gb_pair' rx fun u1 u2 k1 k2 => ⟨rfl, et_test (ev_var rfl k2), fun _ => ev_var rfl k1⟩)) ?_) g8.i (fun v G9 H9 g9 r9 => ?_)
  · clear key q ke
    cases k <;> decide +kernel
  · cases r9
    exact q G9 H9 (g8.trans g9)
end


section
variable {σ : L2.St} {G H : Hp} {te ta tb : TE} {K : Fg} {mg : Str → Option Value} {ad : Ek → Addr} {C CH CP : Addr} {c : HA} {h : HM} {n : Nat} {W : WX}
theorem sq_here {D : Ends} {u t : TS} (h : t { D with nx := u D } σ H) : tSeq t u D σ H := h
theorem as_any {D : Ends} {i : Nat} (h : te σ H fun v H1 => D.nx (σ.set i (some v)) H1) : tAsg te (gName i) D σ H := h
theorem op_any {r : R2} {Q : VK} (h : ta σ H fun v H1 => tb σ H1 fun w H2 => r v w H2 Q) : tOp r ta tb σ H Q := h
theorem int_isN {Q : VK} (h : te σ H fun v H1 => rIsN v .non H1 fun w H2 => rInt1 [w] H2 Q) : tCB rInt1 (tCons (tOp rIsN te (tC .non)) tNil) σ H Q := h
theorem boot_VE : bootBuiltins "ValueError" = some (.type "ValueError") := rfl
theorem rd_do {i : Nat} {d : Dd} {Q : VK} (hv : σ[i]? = some (some (.ref c.a))) (ho : Ho K C CH G H c h) (s : Same G H) (g : GoodH n h) (ht : Ev te σ G (Tup.mk d.ths)) (ok : d.ok h)
    (k : ∀ b, pbM h d = .ok b → ∀ l G' H', Gr (MD c) G H G' H' → H l = none → Ho K C CH G' H' ⟨c.a, c.pp, c.sp, l⟩ (doneM h d b) → Q .non H')
    (ke : ∀ e, pbM h d = .error e → ∀ G' H', Gr M0 G H G' H' → WE W σ (.ref (ad e)) none H') : tMo CH "do" (spDo ad K C CH) (WE W) (tVar i) (tCons te tNil) σ H Q := by
  obtain ⟨dx, ed⟩ := ho.e
  refine ⟨.ref c.a, hv, c.a, dx, _, rfl, ed, rfl, ht H s _ fun v G1 H1 g1 r1 => ⟨c, v, d, h, G1, n, rfl, g1.i, ho.step0 g1, g, r1, ok, ?_⟩⟩
  cases e : pbM h d with
  | ok b => exact fun l G' H' g' nl ho' => k b e l G' H' ((Gr.toMs g1).trans g' fun a z => .inl (z.elim (fun e => e ▸ ho'.n) fun z => z.elim (fun e => e ▸ ho'.p.1) fun e => e ▸ ho'.s.1)) (up_none g1.same nl) ho'
  | error x => exact fun G' H' g' => ke x e G' H' (g1.trans g')
theorem ev_kinE {a : Addr} {cls : Value} {d : Option Addr} {k : Ek} (ke : KnownE ad cls d k) {i : Nat} (hv : σ[i]? = some (some (.ref a))) : Ev (tCall (spKin ad a cls d) [] E0 (tCons (tVar i) tNil)) σ G (kinW k) := fun H i Q q => ⟨.ref a, hv, k, G, ke, rfl, i, fun G' H' g => q _ G' H' g rfl⟩
theorem ExsK.pinch (X : ExsK K mg ad CP) {k : Ek} (hk : k ∈ usedK) (ho : k ≠ .otherRow) : PySem.W.exmOne K (.ref (ad k)) (.ref CP) = some true := exm_is X.p (by
  rw [(X.e k hk ho).sub]
  congr 1
  simp [List.contains_cons])
theorem kinW_nil (k : Ek) : kinW k ++ "" = kinW k := by cases k <;> rfl
theorem kinW_len (k : Ek) : (kinW k).length ≤ 20 := by cases k <;> decide +kernel
end
section
variable {P : Program} {w : World} {K : Fg} {mg : Str → Option Value} {base : Heap} {C CH CP : Addr} {ad : Ek → Addr}
theorem q__law_do (T : Tg K mg) (U : TgH K mg C CH) (O : OthHd w K mg) (XK : ExsK K mg ad CP) (CHW : ChangesW w K mg) (TH : ThingsW w K mg) : Df P w K mg base 51 "_law_do" ["_law_house", "_law_deed"] (spDoW ad K C CH) := by
  have M_do := m_do (P := P) (w := w) (base := base) T U O XK.x CHW TH
  have bl := T.bl
  have e_PinchError := XK.p
  have hVE := XK.ve
  refine T._law_do.ok sc__law_do (fun vs H Q E h => ?_) (fun cdv f A outer s H vs Q E hr h => ?_)
  · obtain ⟨c, v, d, h, G, n, rfl, _⟩ := h
    rfl
  obtain ⟨c, v, d, h, G, n, rfl, i, ho, g, r1, ok, q⟩ := h
  refine ⟨_, (pss_cons (ps_set (i := 2) sc__law_do.nd rfl (by first | exact .inl rfl | exact .inr rfl) pe_str)
    (pss_cons (L2N.ps_try_as (tb := _) (i := 3) (Wout := fun _ _ _ _ => False) rfl rfl sc__law_do.nd rfl rfl ⟨rfl, by decide, .inl e_PinchError.g⟩ takes_n5
      (fun W pn xe tk po => (pss_one (ps_set (i := 2) sc__law_do.nd rfl (by first | exact .inl rfl | exact .inr rfl) (pe_ix (ix_listK (K := K) rfl) (pe_lst (pa_cons pe_str (pa_cons pe_str pa_nil))) (pe_callTy call_int1 (by rfl) (bl "int" (by decide)) (by decide +kernel) (pa_cons (pe_cmpR op_isN (pe_mo M_do hr (by first | decide | omega) tk (pv 0) (pa_cons (pv 1) pa_nil)) pe_non (nomark _)) pa_nil)) (fun _ _ => rfl)))))
      (fun a oe cls d pn hz hf => (pss_one (ps_set (i := 2) sc__law_do.nd rfl (by first | exact .inl rfl | exact .inr rfl) (pe_op op_add_str (pe_dfE (q__law_kin (p := (a, oe)) T XK hz hf) (roomHm hr _) (by first | decide | omega) ⟨rfl, hf.choose, hf.choose_spec, hz.2.2 _ hf.choose_spec⟩ List.mem_cons_self (by rfl) (pa_cons (pv 3) pa_nil)) (pe_ix (ix_listK (K := K) rfl) (pe_lst (pa_cons pe_str (pa_cons pe_str pa_nil))) (pe_callTy call_int1 (by rfl) (bl "int" (by decide)) (by decide +kernel) (pa_cons (pe_callB (call_isX (cls := cls) (d := d) (K := K) rfl List.mem_cons_self hz hf) (by rfl) (bl "isinstance" (by decide)) (by decide +kernel) (pa_cons (pv 3) (pa_cons (pe_bltn (v := .ty "ValueError") (by rfl) hVE boot_VE rfl) pa_nil))) pa_nil)) (fun _ _ => rfl)))))))
    (pss_one (ps_ret (pv 2))))), ?_⟩
  refine sq_set (G := G) (ev_str (n := "")) i (fun v1 G1 H1 g1 r9 => ?_)
  cases r9
  refine sq_here (as_any (op_any ?_))
  refine (ev_lst (G := G1) (xs := (["told", ""] : List Str)) (evs_cons ev_str (evs_cons ev_str evs_nil)) (by show 2 ≤ 100000; decide)) H1 g1.i _ (fun lv G2 H2 g2 r2 => ?_)
  have g02 := g1.trans g2
  refine int_isN ?_
  refine rd_do (ad := ad) (i := 0) (d := d) (n := n) rfl (ho.step0 g02) g2.i g (ev_var (i := 1) rfl (Rep.mono g02.g r1)) ok (fun b e l G3 H3 g3 nl ho3 => ?_) (fun k e G3 H3 g3 => ?_)
  · rw [e] at q
    obtain ⟨p1, vs1, rfl, e1, pa1⟩ := r2
    refine ⟨rfl, .inr ⟨true, rfl, ?_⟩⟩
    have g03 : Gr (MD c) G H G3 H3 := (Gr.toMs g02).trans g3 fun a z => .inl (z.elim (fun e => e ▸ ho3.n) fun z => z.elim (fun e => e ▸ ho3.p.1) fun e => e ▸ ho3.s.1)
    refine (ev_ixL (K := K) (σ := []) (ta := tC (.ref p1)) (tb := tC (.int 1)) (xs := (["told", ""] : List Str)) (i := 1) (G := G3) (ev_c ⟨p1, vs1, rfl, g3.g _ _ e1, paired_mono g3.g pa1⟩) ev_int ⟨by decide, by decide⟩) H3 g3.i _ (fun w4 G4 H4 g4 r4 => ?_)
    cases r4
    exact ⟨.str "", rfl, q l G4 H4 (g03.trans (Gr.toMs g4) fun a z => .inl (z.elim (fun e => e ▸ (ho3.step0 g4).n) fun z => z.elim (fun e => e ▸ (ho3.step0 g4).p.1) fun e => e ▸ (ho3.step0 g4).s.1)) (up_none g02.same nl) (ho3.step0 g4)⟩
  · rw [e] at q
    have hk := pb_used e
    have hno : k ≠ .otherRow := fun z => pb_other ok (z ▸ e)
    have ke : KnownE ad (.ref (ad k)) none k := ⟨rfl, rfl, hk, hno⟩
    refine ⟨true, XK.pinch hk hno, fun _ a na => ?_, fun z => by cases z⟩
    refine st_set (G := G3) (x := kinW k) (Ev.cast (ev_addS (x := kinW k) (y := "") (ev_kinE ke rfl) (Ev.cast (ev_ixL (K := K) (xs := (["odd", ""] : List Str)) (i := 1) (ev_lst (evs_cons ev_str (evs_cons ev_str evs_nil)) (by show 2 ≤ 100000; decide)) (ev_intB (b := true) (ev_isVE XK ke rfl)) ⟨by decide, by decide⟩) rfl) (by have := kinW_len k; show _ + 0 ≤ 100000; omega)) (kinW_nil k)) g3.i (fun w4 G4 H4 g4 r4 => ?_)
    cases r4
    exact ⟨.str (kinW k), rfl, q G4 H4 ((g02.trans g3).trans g4)⟩
end


section
variable {P : Program} {w : World} {K : Fg} {mg : Str → Option Value} {base : Heap} {C CH : Addr} {ad : Ek → Addr}
theorem m_names (T : Tg K mg) (U : TgH K mg C CH) : Mo P w K mg base 1 CH "names" ["self"] (spNames K C CH) := by
  have bl := T.bl
  refine U.f_names.ok U.ch.c sc_House_names (fun vs H Q E h => ?_) (fun cdv f A outer s H vs Q E hr h => ?_)
  · obtain ⟨c, h, G, n, rfl, _⟩ := h
    rfl
  obtain ⟨c, h, G, n, rfl, i, ho, g, q⟩ := h
  have hl := g.l
  refine ⟨_, (pss_one (ps_ret (pe_callB (call_sortedD rfl) (by rfl) (bl "sorted" (by decide)) (by decide +kernel) (pa_cons (pe_fld (pv 0) rfl) pa_nil)))), ?_⟩
  exact eh_names (i := 0) U.ch rfl ho i (by omega) _ (fun v G' H' g' r => q v G' H' g' r)

theorem q__law_colours_stand (T : Tg K mg) (U : TgH K mg C CH) (O : OthHd w K mg) (X : Exs K mg ad) : Df P w K mg base 48 "_law_colours_stand" ["_law_house", "_law_names"] (spStand K C CH) := by
  have M_seen := m_seen (P := P) (w := w) (base := base) T U O X
  have bl := T.bl
  refine T._law_colours_stand.ok sc__law_colours_stand (fun vs H Q E h => ?_) (fun cdv f A outer s H vs Q E hr h => ?_)
  · obtain ⟨c, h, G, n, nv, xs, rfl, _⟩ := h
    rfl
  obtain ⟨c, h, G, n, nv, xs, rfl, i, ho, g, r1, hl, sh, q⟩ := h
  refine ⟨_, (pss_cons (ps_for PassesOwn.never rfl (pi_enumK (K := K) rfl (by rfl) (bl "enumerate" (by decide)) (pa_cons (pv 1) pa_nil)) (pg_tupK (K := K) (n := 2) rfl (pg_tup rfl (pgs_cons (pg_name (i := 2) sc__law_colours_stand.nd rfl (by first | exact .inl rfl | exact .inr rfl)) (pgs_cons (pg_name (i := 3) sc__law_colours_stand.nd rfl (by first | exact .inl rfl | exact .inr rfl)) pgs_nil))))
      (pss_cons (ps_setLc (i := 4) (own := [("_law_one", 5)]) rfl sc__law_colours_stand.nd rfl rfl (sw_true rfl rfl rfl (by decide +kernel)) (pi_listK (K := K) rfl (pe_mo M_seen hr (by first | decide | omega) takes_n5 (pv 0) (pa_cons (pv 3) pa_nil))) (blkOk_by (own := [("_law_one", 5)]) (N := N__law_colours_stand) (sc := defScope s__law_colours_stand) (by decide +kernel)) (fun _ _ _ _ _ => (pg_name (i := 5) sc__law_colours_stand.nd rfl (by first | exact .inl rfl | exact .inr rfl))) (fun _ _ _ _ _ => pts_nil) (fun _ _ _ _ _ => (pe_ix (ix_tupK (K := K) rfl) (pv 5) pe_int (fun _ _ => rfl))))
      (pss_cons (ps_set (i := 6) sc__law_colours_stand.nd rfl (by first | exact .inl rfl | exact .inr rfl) (pe_op op_rep (pe_lst (pa_cons pe_str pa_nil)) pe_int))
      (pss_cons (ps_asg (pe_ix (ix_listK (K := K) rfl) (pe_lst (pa_cons pe_str (pa_cons pe_str (pa_cons pe_str pa_nil)))) (pe_op op_mod (pv 2) pe_int) (fun _ _ => rfl)) (pg_sub (pv 6) (pe_op op_mod (pv 2) pe_int) set_list))
      (pss_one (ps_if (pt_cmpR (op_neDK (K := K) rfl hr.units) (pv 4) (pv 6) (nomark _))
        (pss_one (ps_ret pe_bl))
        pss_nil))))))
    (pss_one (ps_ret pe_bl))), ?_⟩
  refine sq_for (G := G) (xs := enumI xs) (fun k σ G' H' => ∃ a2 a3 a4 a6, σ = [some (.ref c.a), some nv, a2, a3, a4, none, a6] ∧ Gr M0 G H G' H') (ei_enumL (K := K) (ev_var (i := 1) rfl r1)) i (fun G1 H1 g1 => ⟨none, none, none, none, rfl, g1⟩) ?_ ?_
  · rintro k ⟨t1, x⟩ v σ' G1 H1 G2 H2 hk e1 e2 ⟨a2, a3, a4, a6, rfl, gP⟩ g2 rt
    obtain ⟨rfl, hx⟩ := enum_get hk
    refine gp rt g2.i (fun u1 u2 k1 k2 => ?_)
    cases k1; cases k2
    obtain ⟨p, pl, l, s1, s2, s3⟩ := sh k x hx
    have g02 := gP.trans g2
    refine sq_setE (x := ((ringM pl l).map (sightM p)).map fun s => s.d) (eh_lc (f := fun s : Sight => s.d) (eih_list (eh_seenN (ad := ad) (f := (pl, l)) (i := 0) (c := c) (h := h) (n := n) (G := G2) (H := H2) rfl (ho.step0 g02) g2.i g (ev_var (x := x) (i := 3) rfl rfl) s1 s2)) (by rw [List.length_map, ring_len]; decide) (fun s hs v G3 _ r3 => gb_name ⟨rfl, ev_sight3 (ev_var (i := 5) rfl r3) ev_int⟩)) (fun v4 G3 H3 g3 r4 => ?_)
    have e4 : ((ringM pl l).map (sightM p)).map (fun s => s.d) = (List.replicate 6 ("" : Str)).set (k % 6) (((["red", "blue", "gold"] : List Str)[k % 3]?).getD "") := by
      rw [← s3, List.map_map]; rfl
    rw [e4] at r4
    refine sq_repN (G := G3) (i := 6) (xs := ([""] : List Str)) (n := 6) (ev_lst (evs_cons ev_str evs_nil) (by show 1 ≤ 100000; decide)) ev_int g3.i (by decide) (by decide) (by decide) (fun p6 G4 H4 o4 g4 np4 ml4 s4 => ?_)
    have g04 := g3.trans g4
    have n2 := up_none g04.same np4
    have gd : Gr M0 G2 H2 G4 (upd H4 p6 o4) := g04.mut (.inl n2) ml4.1
    refine sq_putI (i := 6) (p := p6) (xs := List.replicate 6 ("" : Str)) (x := ((["red", "blue", "gold"] : List Str)[k % 3]?).getD "") (n := (k : Int) % 6) rfl ml4 (Ev.cast (ev_ixL (xs := (["red", "blue", "gold"] : List Str)) (i := (k : Int) % 3) (ev_lst (evs_cons ev_str (evs_cons ev_str (evs_cons ev_str evs_nil))) (by show 3 ≤ 100000; decide)) (ev_mod (ev_var (x := (k : Int)) (i := 2) rfl rfl) ev_int (by decide)) ⟨by omega, by show _ < 3; omega⟩) (by unfold ix; rw [show ((k : Int) % 3).toNat = k % 3 by omega]; rfl)) (ev_mod (ev_var (x := (k : Int)) (i := 2) rfl rfl) ev_int (by decide)) s4 (by omega) (by rw [List.length_replicate]; omega) (fun G5 H5 o5 g5 ml5 s5 => ?_)
    have gd5 : Gr M0 G2 H2 G5 (upd H5 p6 o5) := (gd.trans g5).mut (.inl n2) ml5.1
    obtain ⟨G6, g6, r6, s6⟩ := ml5.frz gd5 n2
    rw [show ((k : Int) % 6).toNat = k % 6 by omega] at r6
    obtain ⟨w1, w2⟩ := colours_data (k % 6) (by omega) (k % 3) (by omega)
    refine st_if (G := G6) (b := false) (et_test (Ev.cast (ev_neW (ev_dat (ev_var (i := 4) rfl (Rep.mono ((g4.g.trans g5.g).trans s6) r4))) (ev_dat (ev_var (i := 6) rfl r6)) w1 w1) (by rw [w2]; rfl))) g6.i (fun zz => by cases zz) (fun _ G7 H7 g7 => ?_)
    exact ⟨G7, g2.g.trans (g6.g.trans g7.g), g7.i, _, _, _, _, rfl, (g02.trans g6).trans g7⟩
  · rintro σ' G1 H1 e1 e2 ⟨a2, a3, a4, a6, rfl, gP⟩
    exact q G1 H1 gP
end



def isWhole (d : PyData) : Bool := isTy "int" d && !isTy "bool" d
section
variable {P : Program} {w : World} {K : Fg} {mg : Str → Option Value} {base : Heap}
theorem d_whole (T : Tx K mg "_law_whole" ["_law_found"] s__law_whole) (bl : Bl mg) : Df P w K mg base 1 "_law_whole" ["_law_found"] (sp1 (fun (_ : PyData) => True) isWhole) := by
  refine T.ok sc__law_whole (fun vs H Q E h => ?_) (fun cdv f A outer s H vs Q E hr h => ?_)
  · obtain ⟨v, x, G, rfl, _⟩ := h
    rfl
  obtain ⟨v, x, G, rfl, i, r1, _, q⟩ := h
  refine ⟨_, (pss_one (ps_ret (pe_and (pe_callB (call_isiKK (K := K) rfl) (by rfl) (bl "isinstance" (by decide)) (by decide +kernel) (pa_cons (pv 0) (pa_cons (pe_bltn (v := .ty "int") (by rfl) (bl "int" (by decide)) boot_int rfl) pa_nil))) (pe_one (pe_not (pe_callB (call_isiKK (K := K) rfl) (by rfl) (bl "isinstance" (by decide)) (by decide +kernel) (pa_cons (pv 0) (pa_cons (pe_bltn (v := .ty "bool") (by rfl) (bl "bool" (by decide)) boot_bool rfl) pa_nil)))))))), ?_⟩
  refine st_ret (G := G) (ev_andV (ev_isi (d := x) (by walk_at "pf_ev") (by decide)) fun _ => ev_notV (ev_isi (d := x) (by walk_at "pf_ev") (by decide))) i (fun v G' H' g r => q v G' H' g r)
theorem an_none (n : Nat) (f : PyData) : alikeN n f .none = isNone f := by cases n <;> cases f <;> simp [alikeN, isNone]
theorem an_bool (n : Nat) (f : PyData) (b : Bool) : (isTy "bool" f && alikeN n f (.bool b)) = alikeN n f (.bool b) := by cases n <;> cases f <;> simp [alikeN, isTy, tyD]
theorem an_str (n : Nat) (f : PyData) (b : Str) : (isTy "str" f && alikeN n f (.str b)) = alikeN n f (.str b) := by cases n <;> cases f <;> simp [alikeN, isTy, tyD]
theorem an_int (n : Nat) (f : PyData) (b : Int) : (isWhole f && alikeN n f (.int b)) = alikeN n f (.int b) := by cases n <;> cases f <;> simp [alikeN, isTy, tyD, isWhole]
theorem or_nd {a : Bool} {p : Prop} [Decidable p] (ha : a = true) (h : (!a || !decide p) = true) : ¬ p := by
  subst ha
  intro hp
  rw [decide_eq_true hp] at h
  cases h
theorem or_np {a : Bool} {p : Prop} [Decidable p] (h : (!a || !decide p) = false) : p := by
  by_cases hp : p
  · exact hp
  · rw [decide_eq_false hp, Bool.not_false, Bool.or_true] at h
    cases h
theorem an_len1 {m : Nat} {fs ds : List PyData} (h : ¬ ((fs.length : Int) = ds.length)) : alikeN (m + 1) (.list fs) (.list ds) = false := by
  rw [alikeN, decide_eq_false (by omega)]; rfl
theorem an_len2 {m : Nat} {fs ds : List PyData} (h : ¬ ((fs.length : Int) = ds.length)) : alikeN (m + 1) (.tuple fs) (.tuple ds) = false := by
  rw [alikeN, decide_eq_false (by omega)]; rfl
theorem an_eq1 {m : Nat} {fs ds : List PyData} (h : fs.length = ds.length) : ((rng 0 (ds.length : Int)).map fun k => alikeN m (ix fs k) (ix ds k)).all id = alikeN (m + 1) (.list fs) (.list ds) := by
  rw [alikeN, decide_eq_true h, Bool.true_and]
theorem an_eq2 {m : Nat} {fs ds : List PyData} (h : fs.length = ds.length) : ((rng 0 (ds.length : Int)).map fun k => alikeN m (ix fs k) (ix ds k)).all id = alikeN (m + 1) (.tuple fs) (.tuple ds) := by
  rw [alikeN, decide_eq_true h, Bool.true_and]
theorem eq_bool (n : Nat) {f : PyData} {b : Bool} (h : isTy "bool" f = true) : ∀ G v u, RD G f v → RD G (.bool b) u → scal v u = true ∧ decide (v = u) = alikeN n f (.bool b) := by
  intro G v u h1 h2
  cases f with
  | bool c =>
    rw [show v = .bl c from h1, show u = .bl b from h2, v_bl_eq]
    exact ⟨rfl, by cases n <;> simp [alikeN]⟩
  | _ => simp [isTy, tyD] at h
theorem eq_str (n : Nat) {f : PyData} {b : Str} (h : isTy "str" f = true) : ∀ G v u, RD G f v → RD G (.str b) u → scal v u = true ∧ decide (v = u) = alikeN n f (.str b) := by
  intro G v u h1 h2
  cases f with
  | str c =>
    rw [show v = .str c from h1, show u = .str b from h2, v_str_eq]
    exact ⟨rfl, by cases n <;> simp [alikeN]⟩
  | _ => simp [isTy, tyD] at h
theorem eq_int (n : Nat) {f : PyData} {b : Int} (h : isWhole f = true) : ∀ G v u, RD G f v → RD G (.int b) u → scal v u = true ∧ decide (v = u) = alikeN n f (.int b) := by
  intro G v u h1 h2
  cases f with
  | int c =>
    rw [show v = .int c from h1, show u = .int b from h2, v_int_eq]
    exact ⟨rfl, by cases n <;> simp [alikeN]⟩
  | _ => simp [isTy, tyD, isWhole] at h
theorem d_alike (T : Tx K mg "_law_alike" ["_law_found", "_law_due"] s__law_alike) (TW : Tx K mg "_law_whole" ["_law_found"] s__law_whole) (bl : Bl mg) : ∀ n : Nat, Df P w K mg base (n + 2) "_law_alike" ["_law_found", "_law_due"]
    (sp2 (fun (_ d : PyData) => OkN n d) (alikeN n)) := by
  have D__law_whole := d_whole (P := P) (w := w) (base := base) TW bl
  have main : ∀ n : Nat, (∀ m, n = m + 1 → Df P w K mg base (m + 2) "_law_alike" ["_law_found", "_law_due"] (sp2 (fun (_ d : PyData) => OkN m d) (alikeN m))) →
      Df P w K mg base (n + 2) "_law_alike" ["_law_found", "_law_due"] (sp2 (fun (_ d : PyData) => OkN n d) (alikeN n)) := by
    intro n IH
    refine T.ok (k := n + 1) sc__law_alike (fun vs H Q E h => ?_) (fun cdv f A outer s H vs Q E hr h => ?_)
    · obtain ⟨v, x, v2, x2, G, rfl, _⟩ := h
      rfl
    obtain ⟨v, x, v2, x2, G, rfl, i, r1, r2, ok, q⟩ := h
    by_cases hs : isSeq x2 = true
    · obtain ⟨m, rfl⟩ : ∃ m, n = m + 1 := by
        cases n with
        | zero => rw [ok.1] at hs; cases hs
        | succ m => exact ⟨m, rfl⟩
      have D__law_alike := IH m rfl
      refine ⟨_, (pss_cons (ps_if (pt_cmpR op_isN (pv 1) pe_non (nomark _))
      (pss_one (ps_ret (pe_cmpR op_isN (pv 0) pe_non (nomark _))))
      pss_nil)
    (pss_cons (ps_if (pt_val (pe_callB (call_isiKK (K := K) rfl) (by rfl) (bl "isinstance" (by decide)) (by decide +kernel) (pa_cons (pv 1) (pa_cons (pe_bltn (v := .ty "bool") (by rfl) (bl "bool" (by decide)) boot_bool rfl) pa_nil))))
      (pss_one (ps_ret (pe_and (pe_callB (call_isiKK (K := K) rfl) (by rfl) (bl "isinstance" (by decide)) (by decide +kernel) (pa_cons (pv 0) (pa_cons (pe_bltn (v := .ty "bool") (by rfl) (bl "bool" (by decide)) boot_bool rfl) pa_nil))) (pe_one (pe_cmpR op_eq (pv 0) (pv 1) (nomark _))))))
      pss_nil)
    (pss_cons (ps_if (pt_val (pe_callB (call_isiKK (K := K) rfl) (by rfl) (bl "isinstance" (by decide)) (by decide +kernel) (pa_cons (pv 1) (pa_cons (pe_bltn (v := .ty "int") (by rfl) (bl "int" (by decide)) boot_int rfl) pa_nil))))
      (pss_one (ps_ret (pe_and (pe_df D__law_whole hr (by first | decide | omega) (by rfl) (pa_cons (pv 0) pa_nil)) (pe_one (pe_cmpR op_eq (pv 0) (pv 1) (nomark _))))))
      pss_nil)
    (pss_cons (ps_if (pt_val (pe_callB (call_isiKK (K := K) rfl) (by rfl) (bl "isinstance" (by decide)) (by decide +kernel) (pa_cons (pv 1) (pa_cons (pe_bltn (v := .ty "str") (by rfl) (bl "str" (by decide)) boot_str rfl) pa_nil))))
      (pss_one (ps_ret (pe_and (pe_callB (call_isiKK (K := K) rfl) (by rfl) (bl "isinstance" (by decide)) (by decide +kernel) (pa_cons (pv 0) (pa_cons (pe_bltn (v := .ty "str") (by rfl) (bl "str" (by decide)) boot_str rfl) pa_nil))) (pe_one (pe_cmpR op_eq (pv 0) (pv 1) (nomark _))))))
      pss_nil)
    (pss_cons (ps_if (PW.pt (pw_or (pt_cmpR op_ne (pe_callB (call_isiKK (K := K) rfl) (by rfl) (bl "isinstance" (by decide)) (by decide +kernel) (pa_cons (pv 1) (pa_cons (pe_bltn (v := .ty "list") (by rfl) (bl "list" (by decide)) boot_list rfl) pa_nil))) (pe_callB (call_isiKK (K := K) rfl) (by rfl) (bl "isinstance" (by decide)) (by decide +kernel) (pa_cons (pv 0) (pa_cons (pe_bltn (v := .ty "list") (by rfl) (bl "list" (by decide)) boot_list rfl) pa_nil))) (nomark _)) (pw_or1 (pt_cmpR op_ne (pe_callB (call_isiKK (K := K) rfl) (by rfl) (bl "isinstance" (by decide)) (by decide +kernel) (pa_cons (pv 1) (pa_cons (pe_bltn (v := .ty "tuple") (by rfl) (bl "tuple" (by decide)) boot_tuple rfl) pa_nil))) (pe_callB (call_isiKK (K := K) rfl) (by rfl) (bl "isinstance" (by decide)) (by decide +kernel) (pa_cons (pv 0) (pa_cons (pe_bltn (v := .ty "tuple") (by rfl) (bl "tuple" (by decide)) boot_tuple rfl) pa_nil))) (nomark _)))))
      (pss_one (ps_ret pe_bl))
      pss_nil)
    (pss_cons (ps_if (PW.pt (pw_or (pt_not (pt_val (pe_callB (call_isiTK (K := K) rfl) (by rfl) (bl "isinstance" (by decide)) (by decide +kernel) (pa_cons (pv 0) (pa_cons (pe_tup (pa_cons (pe_bltn (v := .ty "list") (by rfl) (bl "list" (by decide)) boot_list rfl) (pa_cons (pe_bltn (v := .ty "tuple") (by rfl) (bl "tuple" (by decide)) boot_tuple rfl) pa_nil))) pa_nil))))) (pw_or1 (pt_cmpR op_ne (pe_callB (call_lenK (K := K) rfl) (by rfl) (bl "len" (by decide)) (by decide +kernel) (pa_cons (pv 0) pa_nil)) (pe_callB (call_lenK (K := K) rfl) (by rfl) (bl "len" (by decide)) (by decide +kernel) (pa_cons (pv 1) pa_nil)) (nomark _)))))
      (pss_one (ps_ret pe_bl))
      pss_nil)
    (pss_one (ps_ret (pe_callB (cr_allK (K := K) rfl rfl) (by rfl) (bl "all" (by decide)) (by decide +kernel) (pa_cons (pe_lc (own := [("_law_at", 2)]) rfl sc__law_alike.nd (pi_range1 (by rfl) (bl "range" (by decide)) (pa_cons (pe_callB (call_lenK (K := K) rfl) (by rfl) (bl "len" (by decide)) (by decide +kernel) (pa_cons (pv 1) pa_nil)) pa_nil)) (blkOk_by (own := [("_law_at", 2)]) (N := N__law_alike) (sc := defScope s__law_alike) (by decide +kernel)) (fun _ _ _ _ _ => (pg_name (i := 2) sc__law_alike.nd rfl (by first | exact .inl rfl | exact .inr rfl))) (fun _ _ _ _ _ => pts_nil) (fun _ _ _ _ _ => (pe_df D__law_alike hr (by first | decide | omega) (by rfl) (pa_cons (pe_ix (ix_seqK (K := K) rfl) (pv 0) (pv 2) (fun _ _ => rfl)) (pa_cons (pe_ix (ix_seqK (K := K) rfl) (pv 1) (pv 2) (fun _ _ => rfl)) pa_nil))))) pa_nil)))))))))), ?_⟩
      have no : ∀ {A : Prop}, (isNone x2 = true ∨ isTy "bool" x2 = true ∨ isTy "int" x2 = true ∨ isTy "str" x2 = true) → A := by
        intro A h
        exfalso
        cases x2 <;> simp [isTy, tyD, isSeq, isNone] at h hs
      refine sq_ifn (G := G) (et_test (ev_isN (d := x2) (by walk_at "pf_ev"))) i (fun hb _ _ _ => no (.inl hb)) (fun _ G1 H1 g1 => ?_)
      refine sq_ifn (G := G1) (et_B (ev_isi (d := x2) (by walk_at "pf_ev") (by decide))) g1.i (fun hb _ _ _ => no (.inr (.inl hb))) (fun _ G2 H2 g2 => ?_)
      refine sq_ifn (G := G2) (et_B (ev_isi (d := x2) (by walk_at "pf_ev") (by decide))) g2.i (fun hb _ _ _ => no (.inr (.inr (.inl hb)))) (fun _ G3 H3 g3 => ?_)
      refine sq_ifn (G := G3) (et_B (ev_isi (d := x2) (by walk_at "pf_ev") (by decide))) g3.i (fun hb _ _ _ => no (.inr (.inr (.inr hb)))) (fun _ G4 H4 g4 => ?_)
      have g14 := ((g1.trans g2).trans g3).trans g4
      refine sq_ifn (G := G4) (et_or (et_test (ev_neB (ev_isi (d := x2) (by walk_at "pf_ev") (by decide)) (ev_isi (d := x) (by walk_at "pf_ev") (by decide)))) (fun _ => et_test (ev_neB (ev_isi (d := x2) (by walk_at "pf_ev") (by decide)) (ev_isi (d := x) (by walk_at "pf_ev") (by decide))))) g4.i (fun hb G' H' g => ?_) (fun hb5 G5 H5 g5 => ?_)
      · refine st_ret (G := G') ev_bl g.i (fun v G2 H2 g2 r => q v G2 H2 ((g14.trans g).trans g2) ?_)
        have e : alikeN (m + 1) x x2 = false := by
          cases x2 <;> cases x <;> simp [isTy, tyD, isSeq, alikeN] at hb hs ⊢
        rw [e]; exact r
      have g15 := g14.trans g5
      have hk2 : (∃ fs ds, x = .list fs ∧ x2 = .list ds) ∨ (∃ fs ds, x = .tuple fs ∧ x2 = .tuple ds) := by
        cases x2 <;> cases x <;> simp [isTy, tyD, isSeq] at hb5 hs ⊢
      have hk : isSeq x = true := by
        rcases hk2 with ⟨fs, ds, rfl, rfl⟩ | ⟨fs, ds, rfl, rfl⟩ <;> rfl
      refine sq_ifn (G := G5) (et_or (et_not (et_B (ev_isiT (d := x) (by walk_at "pf_ev") (by decide) (by decide)))) (fun _ => et_test (ev_neI (ev_lenD (d := x) (by walk_at "pf_ev") hk) (ev_lenD (d := x2) (by walk_at "pf_ev") hs)))) g5.i (fun hb G' H' g => ?_) (fun hb6 G6 H6 g6 => ?_)
      · refine st_ret (G := G') ev_bl g.i (fun v G2 H2 g2 r => q v G2 H2 ((g15.trans g).trans g2) ?_)
        have e : alikeN (m + 1) x x2 = false := by
          rcases hk2 with ⟨fs, ds, rfl, rfl⟩ | ⟨fs, ds, rfl, rfl⟩
          · exact an_len1 (or_nd (by simp [isTy, tyD]) hb)
          · exact an_len2 (or_nd (by simp [isTy, tyD]) hb)
        rw [e]; exact r
      have hl : (itemsD x).length = (itemsD x2).length := by
        rcases hk2 with ⟨fs, ds, rfl, rfl⟩ | ⟨fs, ds, rfl, rfl⟩
        · have z : ((fs.length : Int) = ds.length) := or_np hb6
          exact Int.ofNat.inj z
        · have z : ((fs.length : Int) = ds.length) := or_np hb6
          exact Int.ofNat.inj z
      have e : ((rng 0 ((itemsD x2).length : Int)).map fun k => alikeN m (ix (itemsD x) k) (ix (itemsD x2) k)).all id = alikeN (m + 1) x x2 := by
        rcases hk2 with ⟨fs, ds, rfl, rfl⟩ | ⟨fs, ds, rfl, rfl⟩
        · exact an_eq1 hl
        · exact an_eq2 hl
      have okl := ok.2.1
      refine st_ret (G := G6) ((ev_all (ev_lc (f := fun k => alikeN m (ix (itemsD x) k) (ix (itemsD x2) k)) (ei_r1 (ev_lenD (d := x2) (by walk_at "pf_ev") hs) (by omega)) (by rw [rng_len]; omega) ?_)).cast e) g6.i (fun v G2 H2 g2 r => q v G2 H2 ((g15.trans g6).trans g2) r)
      intro c hc v4 G4' s4 r4
      rw [rng_mem] at hc
      refine gb_name ⟨rfl, ?_⟩
      refine ev_call2 (x := ix (itemsD x) c) (x2 := ix (itemsD x2) c) (ev_ixD (d := x) ?_ ?_ hk (by omega)) (ev_ixD (d := x2) ?_ ?_ hs (by omega)) ?_
      all_goals try walk_at "pf_ev"
      have hc2 : c.toNat < (itemsD x2).length := by omega
      have ec : ix (itemsD x2) c = (itemsD x2)[c.toNat] := by unfold ix; rw [List.getElem?_eq_getElem hc2]; rfl
      rw [ec]
      exact ok.2.2 _ (List.getElem_mem hc2)
    · have hs : isSeq x2 = false := by simpa using hs
      refine ⟨_, (pss_cons (ps_if (pt_cmpR op_isN (pv 1) pe_non (nomark _))
      (pss_one (ps_ret (pe_cmpR op_isN (pv 0) pe_non (nomark _))))
      pss_nil)
    (pss_cons (ps_if (pt_val (pe_callB (call_isiKK (K := K) rfl) (by rfl) (bl "isinstance" (by decide)) (by decide +kernel) (pa_cons (pv 1) (pa_cons (pe_bltn (v := .ty "bool") (by rfl) (bl "bool" (by decide)) boot_bool rfl) pa_nil))))
      (pss_one (ps_ret (pe_and (pe_callB (call_isiKK (K := K) rfl) (by rfl) (bl "isinstance" (by decide)) (by decide +kernel) (pa_cons (pv 0) (pa_cons (pe_bltn (v := .ty "bool") (by rfl) (bl "bool" (by decide)) boot_bool rfl) pa_nil))) (pe_one (pe_cmpR op_eq (pv 0) (pv 1) (nomark _))))))
      pss_nil)
    (pss_cons (ps_if (pt_val (pe_callB (call_isiKK (K := K) rfl) (by rfl) (bl "isinstance" (by decide)) (by decide +kernel) (pa_cons (pv 1) (pa_cons (pe_bltn (v := .ty "int") (by rfl) (bl "int" (by decide)) boot_int rfl) pa_nil))))
      (pss_one (ps_ret (pe_and (pe_df D__law_whole hr (by first | decide | omega) (by rfl) (pa_cons (pv 0) pa_nil)) (pe_one (pe_cmpR op_eq (pv 0) (pv 1) (nomark _))))))
      pss_nil)
    (pss_cons (ps_if (pt_val (pe_callB (call_isiKK (K := K) rfl) (by rfl) (bl "isinstance" (by decide)) (by decide +kernel) (pa_cons (pv 1) (pa_cons (pe_bltn (v := .ty "str") (by rfl) (bl "str" (by decide)) boot_str rfl) pa_nil))))
      (pss_one (ps_ret (pe_and (pe_callB (call_isiKK (K := K) rfl) (by rfl) (bl "isinstance" (by decide)) (by decide +kernel) (pa_cons (pv 0) (pa_cons (pe_bltn (v := .ty "str") (by rfl) (bl "str" (by decide)) boot_str rfl) pa_nil))) (pe_one (pe_cmpR op_eq (pv 0) (pv 1) (nomark _))))))
      pss_nil)
    pss_never)))), ?_⟩
      refine sq_ifn (G := G) (et_test (ev_isN (d := x2) (by walk_at "pf_ev"))) i (fun hb G' H' g => ?_) (fun hb G1 H1 g1 => ?_)
      · have e : x2 = .none := by cases x2 <;> first | rfl | cases hb
        subst e
        refine st_ret (G := G') (ev_isN (d := x) (by walk_at "pf_ev")) g.i (fun v G2 H2 g2 r => q v G2 H2 (g.trans g2) (by rw [an_none]; exact r))
      refine sq_ifn (G := G1) (et_B (ev_isi (d := x2) (by walk_at "pf_ev") (by decide))) g1.i (fun hb G' H' g => ?_) (fun hb2 G2 H2 g2 => ?_)
      · obtain ⟨b, rfl⟩ : ∃ b, x2 = .bool b := by cases x2 <;> first | exact ⟨_, rfl⟩ | simp [isTy, tyD] at hb
        refine st_ret (G := G') ((ev_andV (ev_isi (d := x) (by walk_at "pf_ev") (by decide)) (fun h => ev_eqD (d := x) (e := .bool b) (by walk_at "pf_ev") (by walk_at "pf_ev") _ (eq_bool n h))).cast (an_bool n x b)) g.i (fun v G2 H2 g2 r => q v G2 H2 ((g1.trans g).trans g2) r)
      have g12 := g1.trans g2
      refine sq_ifn (G := G2) (et_B (ev_isi (d := x2) (by walk_at "pf_ev") (by decide))) g2.i (fun hb G' H' g => ?_) (fun hb3 G3 H3 g3 => ?_)
      · obtain ⟨b, rfl⟩ : ∃ b, x2 = .int b := by cases x2 <;> first | exact ⟨_, rfl⟩ | simp [isTy, tyD] at hb hb2
        refine st_ret (G := G') ((ev_andV (ev_call1 (x := x) (by walk_at "pf_ev") trivial) (fun h => ev_eqD (d := x) (e := .int b) (by walk_at "pf_ev") (by walk_at "pf_ev") _ (eq_int n h))).cast (an_int n x b)) g.i (fun v G2 H2 g2 r => q v G2 H2 ((g12.trans g).trans g2) r)
      have g13 := g12.trans g3
      refine sq_ifn (G := G3) (et_B (ev_isi (d := x2) (by walk_at "pf_ev") (by decide))) g3.i (fun hb G' H' g => ?_) (fun hb4 G4 H4 g4 => ?_)
      · obtain ⟨b, rfl⟩ : ∃ b, x2 = .str b := by cases x2 <;> first | exact ⟨_, rfl⟩ | simp [isTy, tyD] at hb hb2
        refine st_ret (G := G') ((ev_andV (ev_isi (d := x) (by walk_at "pf_ev") (by decide)) (fun h => ev_eqD (d := x) (e := .str b) (by walk_at "pf_ev") (by walk_at "pf_ev") _ (eq_str n h))).cast (an_str n x b)) g.i (fun v G2 H2 g2 r => q v G2 H2 ((g13.trans g).trans g2) r)
      · exfalso
        have okd : isDict x2 = false := by cases n <;> first | exact ok.2 | exact ok.1
        cases x2 <;> simp [isTy, tyD, isSeq, isNone, isDict] at hb hb2 hb3 hb4 hs okd
  intro n
  induction n with
  | zero => exact main 0 fun m h => by cases h
  | succ n ih => exact main (n + 1) fun m h => by cases h; exact ih
end


section
variable {P : Program} {w : World} {K : Fg} {mg : Str → Option Value} {base : Heap}
theorem d_pull (T : Tx K mg "_law_pull" ["_law_bag_here", "_law_many"] s__law_pull) (bl : Bl mg) : Df P w K mg base 1 "_law_pull" ["_law_bag_here", "_law_many"] spPull := by
  refine T.ok sc__law_pull (fun vs H Q E h => ?_) (fun cdv f A outer s H vs Q E hr h => ?_)
  · obtain ⟨b, many, G, rfl, _⟩ := h
    rfl
  obtain ⟨b, many, G, rfl, i, ⟨nb, cv, c1, c2, c3, cells, eb, rc, p1, p2, p3, p4⟩, hm, hl, q⟩ := h
  refine ⟨_, (pss_cons (ps_if (pt_cmpR op_lt (pe_ix (ix_listK (K := K) rfl) (pv 0) pe_int (fun _ _ => rfl)) pe_int (nomark _))
      (pss_cons (ps_augS (pv 0) pe_int (get_listK (K := K) rfl) pe_int ip_add set_list)
      (pss_cons (ps_set (i := 2) sc__law_pull.nd rfl (by first | exact .inl rfl | exact .inr rfl) (pe_ix (ix_listK (K := K) rfl) (pv 0) pe_int (fun _ _ => rfl)))
      (C8.pss_cut (ps_if (pt_cmpR op_le (pe_ix (ix_listK (K := K) rfl) (pv 0) pe_int (fun _ _ => rfl)) (pe_callB (call_lenK (K := K) rfl) (by rfl) (bl "len" (by decide)) (by decide +kernel) (pa_cons (pe_ix (ix_listK (K := K) rfl) (pv 0) pe_int (fun _ _ => rfl)) pa_nil)) (nomark _))
        (pss_cons (ps_set (i := 2) sc__law_pull.nd rfl (by first | exact .inl rfl | exact .inr rfl) (pe_ix (ix_listK (K := K) rfl) (pe_ix (ix_listK (K := K) rfl) (pv 0) pe_int (fun _ _ => rfl)) (pe_op op_sub (pe_ix (ix_listK (K := K) rfl) (pv 0) pe_int (fun _ _ => rfl)) pe_int) (fun _ _ => rfl)))
        (pss_one (ps_if (pt_cmpR op_ge (pv 2) (pe_op op_pow pe_int pe_int) (nomark _))
          (pss_cons (ps_asg (pe_op op_fdivW (pv 2) (pv 1)) (pg_sub (pv 0) pe_int set_list))
          (pss_one (ps_ret (pe_op op_mod (pv 2) (pv 1)))))
          pss_nil)))
        pss_nil)
      (pss_cons (ps_set (i := 3) sc__law_pull.nd rfl (by first | exact .inl rfl | exact .inr rfl) (pe_op op_mod (pe_op op_add (pe_op op_add (pv 2) (pe_op op_mul (pe_ix (ix_listK (K := K) rfl) (pv 0) pe_int (fun _ _ => rfl)) pe_int)) (pe_op op_mul (pe_ix (ix_listK (K := K) rfl) (pv 0) pe_int (fun _ _ => rfl)) pe_int)) pe_int))
      (pss_cons (ps_set (i := 3) sc__law_pull.nd rfl (by first | exact .inl rfl | exact .inr rfl) (pe_op op_mod (pe_op op_add (pe_op op_mul (pv 3) (pv 3)) pe_int) pe_int))
      (pss_one (ps_ret (pe_op op_mod (pe_op op_fdivW (pe_op op_mod (pe_op op_add (pe_op op_mul (pv 3) (pv 3)) (pe_ix (ix_listK (K := K) rfl) (pv 0) pe_int (fun _ _ => rfl))) pe_int) pe_int) (pv 1)))))))))
      pss_nil)
    (pss_cons (ps_set (i := 4) sc__law_pull.nd rfl (by first | exact .inl rfl | exact .inr rfl) (pe_op op_mod (pe_ix (ix_listK (K := K) rfl) (pv 0) pe_int (fun _ _ => rfl)) (pv 1)))
    (pss_cons (ps_asg (pe_op op_fdivW (pe_ix (ix_listK (K := K) rfl) (pv 0) pe_int (fun _ _ => rfl)) (pv 1)) (pg_sub (pv 0) pe_int set_list))
    (pss_one (ps_ret (pv 4)))))), ?_⟩
  have cd : CDivW 0 many := ⟨hm, hl⟩
  have c19 : CDivW 0 19 := ⟨by decide, by decide⟩
  have ia : Same (upd G b (.lst [cv, .int c1, .int c2, .int c3])) H := same_still i eb
  have sG : ∀ o, Same G (upd G b o) := fun o => same_new nb
  refine sq_ifF (G := G) (et_test (ev_lt (ev_at (i := 0) (n := 2) rfl upd_same rfl rfl) ev_int)) ia i (fun hb H1 g1 s1 => ?_) (fun hb H1 g1 s1 => ?_)
  · -- the next cell
    refine sq_up (i := 0) (n := 1) (a := c1) (k := 1) rfl (s1 _ _ eb) rfl ?_
    have i0 : Same G (upd H1 b (.lst [cv, .int (c1 + 1), .int c2, .int c3])) := same_mut g1.i nb
    have e0 : (upd H1 b (.lst [cv, .int (c1 + 1), .int c2, .int c3])) b = some (.lst [cv, .int (c1 + 1), .int c2, .int c3]) := upd_same
    have gb0 : Gr (Mb b) G H G (upd H1 b (.lst [cv, .int (c1 + 1), .int c2, .int c3])) := gr_bag (gr_b0 g1) nb
    show tSeq _ _ _ _ (upd H1 b (.lst [cv, .int (c1 + 1), .int c2, .int c3]))
    generalize upd H1 b (.lst [cv, .int (c1 + 1), .int c2, .int c3]) = Ha at i0 e0 gb0
    have ea : ∀ {H : Hp}, Same G H → H b = some (.lst [cv, .int (c1 + 1), .int c2, .int c3]) → Same (upd G b (.lst [cv, .int (c1 + 1), .int c2, .int c3])) H := fun i e => same_still i e
    refine sq_setF (G := G) (ev_at (x := c1 + 1) (i := 0) (n := 1) rfl (upd_same (H := G)) rfl rfl) (ea i0 e0) i0 (fun v H2 g2 s2 r2 => ?_)
    cases r2
    have e2 := s2 _ _ e0
    refine sq_cut (fun σ' H' => ∃ seed : Int, 0 ≤ seed ∧ σ' = [some (.ref b), some (.int many), some (.int seed), none, none] ∧ Same H2 H') ?_ ?_
    · refine st_ifF (G := G) (et_test (ev_le (ev_at (i := 0) (n := 1) rfl (upd_same (H := G)) rfl rfl) (ev_lenL (ev_at (x := cells) (i := 0) (n := 0) rfl (upd_same (H := G)) rfl (Rep.mono (sG _) rc))))) (ea g2.i e2) g2.i (fun hc H3 g3 s3 => ?_) (fun hc H3 g3 s3 => ?_)
      · have hc : c1 + 1 ≤ cells.length := of_decide_eq_true hc
        have e3 := s3 _ _ e2
        refine sq_setF (G := G) (ev_ixL (xs := cells) (ev_at (i := 0) (n := 0) rfl (upd_same (H := G)) rfl (Rep.mono (sG _) rc)) (ev_sub (ev_at (i := 0) (n := 1) rfl (upd_same (H := G)) rfl rfl) ev_int) (by omega)) (ea g3.i e3) g3.i (fun v H4 g4 s4 r4 => ?_)
        cases r4
        have hx : 0 ≤ ix cells (c1 + 1 - 1) := by
          unfold ix
          rw [List.getElem?_eq_getElem (show (c1 + 1 - 1).toNat < cells.length by omega)]
          exact p4 _ (List.getElem_mem _)
        generalize ix cells (c1 + 1 - 1) = seed at hx
        have e4 := s4 _ _ e3
        refine st_ifF (G := G) (et_test (ev_ge (ev_var rfl rfl) (ev_pow ev_int ev_int ⟨by decide, by decide, by decide⟩))) g4.i g4.i (fun hd H5 g5 s5 => ?_) (fun hd H5 g5 s5 => ?_)
        · have e5 := s5 _ _ e4
          refine sq_put (G := G) (i := 0) (n := 2) rfl e5 (by show 2 < 4; decide) (ev_fdivW (i := seed) (ev_var rfl rfl) (ev_var rfl rfl) ⟨hm, hl⟩) g5.i g5.i nb (fun v H6 s6 i6 r6 => ?_)
          cases r6
          refine st_retF (G := G) (ev_mod (i := seed) (ev_var rfl rfl) (ev_var rfl rfl) hm) i6 i6 (fun v H7 g7 s7 r7 => ?_)
          cases r7
          refine q _ H7 (Int.emod_nonneg _ (by omega)) (Int.emod_lt_of_pos _ hm) ?_ ⟨nb, cv, c1 + 1, seed / many, c3, cells, s7 _ _ upd_same, rc, by omega, Int.ediv_nonneg hx (by omega), p3, p4⟩
          exact gr_bt (gr_bag (gr_bt gb0 ⟨Same.refl G, i0.trans (s2.trans (s3.trans (s4.trans (s5.trans s6)))), SB.of (s2.trans (s3.trans (s4.trans (s5.trans s6)))), fun _ _ e => .inl e⟩ nb) nb) (gr_b0 g7) nb
        · exact ⟨seed, hx, rfl, s3.trans (s4.trans s5)⟩
      · exact ⟨c1 + 1, by omega, rfl, s3⟩
    · rintro σ' H3 ⟨seed, hs0, rfl, s3⟩
      have e3 := s3 _ _ e2
      have i3 : Same G H3 := g2.i.trans s3
      refine sq_setF (G := G) (ev_mod (ev_add (ev_add (i := seed) (ev_var rfl rfl) (ev_mul (ev_at (x := c3) (i := 0) (n := 3) rfl (upd_same (H := G)) rfl rfl) ev_int (.inr ⟨by decide, by decide⟩))) (ev_mul (ev_at (x := c1 + 1) (i := 0) (n := 1) rfl (upd_same (H := G)) rfl rfl) ev_int (.inr ⟨by decide, by decide⟩))) ev_int (by decide)) (ea i3 e3) i3 (fun v H4 g4 s4 r4 => ?_)
      cases r4
      have b1 : ∀ z : Int, 0 ≤ z % 2147483629 ∧ z % 2147483629 < 2147483629 := fun z => ⟨Int.emod_nonneg _ (by decide), Int.emod_lt_of_pos _ (by decide)⟩
      have b1 := b1 (seed + c3 * 31 + (c1 + 1) * 69061)
      generalize (seed + c3 * 31 + (c1 + 1) * 69061) % 2147483629 = bl1 at b1
      refine sq_setF (G := G) (ev_mod (ev_add (ev_mul (i := bl1) (j := bl1) (ev_var rfl rfl) (ev_var rfl rfl) (.inr ⟨by omega, by omega⟩)) ev_int) ev_int (by decide)) g4.i g4.i (fun v H5 g5 s5 r5 => ?_)
      cases r5
      have b2 : ∀ z : Int, 0 ≤ z % 2147483587 ∧ z % 2147483587 < 2147483587 := fun z => ⟨Int.emod_nonneg _ (by decide), Int.emod_lt_of_pos _ (by decide)⟩
      have b2 := b2 (bl1 * bl1 + 40961)
      generalize (bl1 * bl1 + 40961) % 2147483587 = bl2 at b2
      have e5 := s5 _ _ (s4 _ _ e3)
      refine st_retF (G := G) (ev_mod (ev_fdivW (ev_mod (ev_add (ev_mul (i := bl2) (j := bl2) (ev_var rfl rfl) (ev_var rfl rfl) (.inr ⟨by omega, by omega⟩)) (ev_at (x := c1 + 1) (i := 0) (n := 1) rfl (upd_same (H := G)) rfl rfl)) ev_int (by decide)) ev_int ⟨by decide, by decide⟩) (ev_var rfl rfl) hm) (ea g5.i e5) g5.i (fun v H6 g6 s6 r6 => ?_)
      cases r6
      refine q _ H6 (Int.emod_nonneg _ (by omega)) (Int.emod_lt_of_pos _ hm) ?_ ⟨nb, cv, c1 + 1, c2, c3, cells, s6 _ _ e5, rc, by omega, p2, p3, p4⟩
      exact gr_bt gb0 ⟨Same.refl G, i0.trans (s2.trans (s3.trans (s4.trans (s5.trans s6)))), SB.of (s2.trans (s3.trans (s4.trans (s5.trans s6)))), fun _ _ e => .inl e⟩ nb
  · -- of the rest
    have hb2 : ¬ c2 < 2 := of_decide_eq_false hb
    show tSeq _ _ _ _ _
    have e1 := s1 _ _ eb
    refine sq_setF (G := G) (ev_mod (ev_at (i := 0) (n := 2) rfl (upd_same (H := G)) rfl rfl) (ev_var rfl rfl) hm) (same_still g1.i e1) g1.i (fun v H2 g2 s2 r2 => ?_)
    cases r2
    have e2 := s2 _ _ e1
    refine sq_put (G := G) (i := 0) (n := 2) rfl e2 (by show 2 < 4; decide) (ev_fdivW (ev_at (i := 0) (n := 2) rfl (upd_same (H := G)) rfl rfl) (ev_var rfl rfl) ⟨hm, hl⟩) (same_still g2.i e2) g2.i nb (fun v H3 s3 i3 r3 => ?_)
    cases r3
    refine st_ret (G := G) (x := c2 % many) (ev_var rfl rfl) i3 (fun v G4 H4 g4 r4 => ?_)
    cases r4
    have gb : Gr (Mb b) G H G (upd H3 b (.lst [cv, .int c1, .int (c2 / many), .int c3])) := gr_bag ⟨Same.refl G, i.trans (s1.trans (s2.trans s3)), SB.of (s1.trans (s2.trans s3)), fun _ _ e => .inl e⟩ nb
    have g4' : Gr (Mb b) G (upd H3 b (.lst [cv, .int c1, .int (c2 / many), .int c3])) G H4 := ⟨Same.refl G, g4.g.trans g4.i, SB.of g4.same, fun _ _ e => .inl e⟩
    refine q _ H4 (Int.emod_nonneg _ (by omega)) (Int.emod_lt_of_pos _ hm) (gr_bt gb g4' nb) ⟨nb, cv, c1, c2 / many, c3, cells, g4.same _ _ upd_same, rc, p1, Int.ediv_nonneg p2 (by omega), p3, p4⟩
theorem d_bag (T : Tx K mg "_law_bag" ["_law_script"] s__law_bag) (bl : Bl mg) : Df P w K mg base 1 "_law_bag" ["_law_script"] (spBag K) := by
  refine T.ok sc__law_bag (fun vs H Q E h => ?_) (fun cdv f A outer s H vs Q E hr h => ?_)
  · obtain ⟨a, ns, G, rfl, _⟩ := h
    rfl
  obtain ⟨a, ns, G, rfl, i, hq, hl, q⟩ := h
  refine ⟨_, (pss_cons (ps_setLc (i := 1) (own := [("_law_one", 2)]) rfl sc__law_bag.nd rfl rfl (sw_true rfl rfl rfl (by decide +kernel)) (pi_listK (K := K) rfl (pe_slice (sl_listK (K := K) rfl) (pv 0) po_none (po_some pe_int))) (blkOk_by (own := [("_law_one", 2)]) (N := N__law_bag) (sc := defScope s__law_bag) (by decide +kernel)) (fun _ _ _ _ _ => (pg_name (i := 2) sc__law_bag.nd rfl (by first | exact .inl rfl | exact .inr rfl))) (fun _ _ _ _ _ => pts_nil) (fun _ _ _ _ _ => (pe_callB call_abs (by rfl) (bl "abs" (by decide)) (by decide +kernel) (pa_cons (pv 2) pa_nil))))
    (pss_cons (ps_set (i := 3) sc__law_bag.nd rfl (by first | exact .inl rfl | exact .inr rfl) (pe_op op_add pe_int (pe_callB (call_lenK (K := K) rfl) (by rfl) (bl "len" (by decide)) (by decide +kernel) (pa_cons (pv 1) pa_nil))))
    (pss_cons (ps_for PassesOwn.never rfl (pi_listK (K := K) rfl (pe_slice (sl_listK (K := K) rfl) (pv 0) po_none (po_some pe_int))) (pg_name (i := 2) sc__law_bag.nd rfl (by first | exact .inl rfl | exact .inr rfl))
      (pss_one (ps_set (i := 3) sc__law_bag.nd rfl (by first | exact .inl rfl | exact .inr rfl) (pe_op op_mod (pe_op op_add (pe_op op_add (pe_op op_mul (pv 3) pe_int) (pe_callB call_abs (by rfl) (bl "abs" (by decide)) (by decide +kernel) (pa_cons (pv 2) pa_nil))) (pe_op op_mul pe_int (pe_callTy call_int1 (by rfl) (bl "int" (by decide)) (by decide +kernel) (pa_cons (pe_cmpR op_lt (pv 2) pe_int (nomark _)) pa_nil)))) pe_int))))
    (pss_one (ps_ret (pe_lst (pa_cons (pv 1) (pa_cons pe_int (pa_cons pe_int (pa_cons (pv 3) pa_nil)))))))))), ?_⟩
  refine sq_set (G := G) (ev_lc (f := fun (n : Int) => if n < 0 then -n else n) (ei_list (ev_script rfl hq hl)) (by omega) ?_) i (fun cv G1 H1 g1 r1 => ?_)
  · intro n hn v G1 s1 r1
    exact gb_name ⟨rfl, ev_abs (ev_var rfl r1)⟩
  refine sq_set (G := G1) (x := 1 + ((ns.map fun (n : Int) => if n < 0 then -n else n).length : Int)) (ev_add ev_int (ev_lenL (ev_var rfl r1))) g1.i (fun v G2 H2 g2 r2 => ?_)
  cases r2
  have g12 := g1.trans g2
  refine sq_for (G := G2) (xs := ns) (fun k σ G' H' => ∃ o salt, σ = [some (.ref a), some cv, o, some (.int salt)] ∧ 0 ≤ salt ∧ Gr M0 G H G' H' ∧ rep G' cv (ns.map fun (n : Int) => if n < 0 then -n else n)) (ei_list (ev_script rfl ((g1.g.trans g2.g).seq hq) hl)) g2.i ?_ ?_ ?_
  · intro G3 H3 g3
    exact ⟨none, _, rfl, by omega, g12.trans g3, Rep.mono (g2.g.trans g3.g) r1⟩
  · intro k n v σ' G3 H3 G4 H4 hk e1 e2 hP g4 r4
    obtain ⟨o, salt, rfl, h0, gr, rc⟩ := hP
    cases r4
    refine gn ?_
    refine st_set (G := G4) (ev_mod (ev_add (ev_add (ev_mul (i := salt) (ev_var rfl rfl) ev_int (.inr ⟨by decide, by decide⟩)) (ev_abs (i := n) (ev_var rfl rfl))) (ev_mul ev_int (ev_intB (ev_lt (i := n) (ev_var rfl rfl) ev_int)) (.inl ⟨by decide, by decide⟩))) ev_int (by decide)) g4.i (fun v G5 H5 g5 r5 => ?_)
    cases r5
    exact ⟨G5, g4.g.trans g5.g, g5.i, _, _, rfl, Int.emod_nonneg _ (by decide), (gr.trans g4).trans g5, Rep.mono (g4.g.trans g5.g) rc⟩
  · intro σ' G3 H3 e1 e2 hP
    obtain ⟨o, salt, rfl, h0, gr, rc⟩ := hP
    refine ⟨cv, rfl, .int salt, rfl, (by show 4 ≤ sizeLine; decide), fun p np => ?_⟩
    have nG : G3 p = none := up_none e2 np
    refine q p G3 _ (gr.mut (.inl (up_none gr.same np)) nG) (up_none gr.same np) ⟨nG, cv, 0, 0, salt, _, upd_same, rc, by decide, by decide, h0, fun x hx => ?_⟩
    obtain ⟨n, _, rfl⟩ := List.mem_map.mp hx
    show 0 ≤ if n < 0 then -n else n
    split <;> omega
end


section
variable {P : Program} {w : World} {K : Fg} {mg : Str → Option Value} {base : Heap}
theorem d_pair (T : Tx K mg "_law_pair" ["_law_one", "_law_other"] s__law_pair) (bl : Bl mg) : Df P w K mg base 1 "_law_pair" ["_law_one", "_law_other"] (sp2 (fun (_ _ : Int) => True) lawPair) := by
  refine T.ok sc__law_pair (fun vs H Q E h => ?_) (fun cdv f A outer s H vs Q E hr h => ?_)
  · obtain ⟨v, x, v2, x2, G, rfl, _⟩ := h
    rfl
  obtain ⟨v, x, v2, x2, G, rfl, i, r1, r2, _, q⟩ := h
  refine ⟨_, (pss_one (ps_ret (pe_tup (pa_cons (pe_callB (call_min2 rfl) (by rfl) (bl "min" (by decide)) (by decide +kernel) (pa_cons (pv 0) (pa_cons (pv 1) pa_nil))) (pa_cons (pe_callB (call_max2 rfl) (by rfl) (bl "max" (by decide)) (by decide +kernel) (pa_cons (pv 0) (pa_cons (pv 1) pa_nil))) pa_nil))))), ?_⟩
  exact st_retC (y := lawPair x x2) (G := G) (by walk_at "pf_ev") i (by rfl) (fun v G' H' g r => q v G' H' g r)
end


abbrev Mbp (b p : Addr) : Addr → Prop := fun a => a = b ∨ a = p
def spCut (n : Nat) : Sp := fun vs H Q _ => ∃ (b : Addr) (s e : Int) (p : Addr) (G : Hp) (xs : List (Int × Int)), vs = [.ref b, .int s, .int e, .ref p] ∧ Same G H ∧ Bag G H b ∧ Ml G H p xs ∧ b ≠ p ∧ s < e ∧ e - s ≤ n ∧ e - s ≤ 1000 ∧ (xs.length : Int) + 2 * (e - s) ≤ 10000 ∧
  ∀ A G' H', CutT s e A → Gr (Mbp b p) G H G' H' → Bag G' H' b → Ml G' H' p (xs ++ A) → Q (.ref p) H'
theorem gr_tbp {b p : Addr} {G H G1 H1 G2 H2 : Hp} (x : Gr (Mbp b p) G H G1 H1) (y : Gr (Mbp b p) G1 H1 G2 H2) (nb : G2 b = none) (np : G2 p = none) : Gr (Mbp b p) G H G2 H2 :=
  x.trans y fun a e => .inl (by rcases e with rfl | rfl <;> assumption)
theorem gr_wb {b p : Addr} {G H G1 H1 : Hp} (x : Gr (Mb b) G H G1 H1) : Gr (Mbp b p) G H G1 H1 := ⟨x.g, x.i, fun a o m e => x.h a o (fun z => m (.inl z)) e, x.n⟩
theorem log_small {n : Int} (h1 : 0 < n) (h2 : n ≤ 1000) : n.natAbs.log2 < 9000 := by
  have h0 : n.natAbs ≠ 0 := by omega
  have : n.natAbs < 2 ^ 10 := by omega
  exact Nat.lt_of_lt_of_le ((Nat.log2_lt h0).mpr this) (by decide)
theorem Ml.bag {G H H' : Hp} {b p : Addr} {xs : List (Int × Int)} (m : Ml G H p xs) (g : Gr (Mb b) G H G H') (ne : b ≠ p) : Ml G H' p xs := m.step g fun z => ne z.symm
section
variable {P : Program} {w : World} {K : Fg} {mg : Str → Option Value} {base : Heap}
theorem d_cut_arc (T : Tx K mg "_law_cut_arc" ["_law_bag_here", "_law_start", "_law_end", "_law_found"] s__law_cut_arc) (TP : Tx K mg "_law_pull" ["_law_bag_here", "_law_many"] s__law_pull) (bl : Bl mg) :
    ∀ n : Nat, Df P w K mg base (n + 1) "_law_cut_arc" ["_law_bag_here", "_law_start", "_law_end", "_law_found"] (spCut n) := by
  have D__law_pull := d_pull (P := P) (w := w) (base := base) TP bl
  intro n
  induction n with
  | zero =>
    obtain ⟨f, fd, F, b, m⟩ := T.ex
    have no : ∀ vs H Q E, ¬ spCut 0 vs H Q E := fun vs H Q E h => by
      obtain ⟨b, s, e, p, G, xs, _, _, _, _, _, h1, h2, _⟩ := h
      omega
    exact ⟨f, fd, ⟨fun vs H Q E h => absurd h (no vs H Q E), fun A outer s H args us vs Q E _ _ _ _ h => absurd h (no vs H Q E)⟩, b, F.kp, m⟩
  | succ n ih =>
    have D__law_cut_arc := ih
    refine T.ok (k := n + 1) sc__law_cut_arc (fun vs H Q E h => ?_) (fun cdv f A outer s H vs Q E hr h => ?_)
    · obtain ⟨b, s, e, p, G, xs, rfl, _⟩ := h
      rfl
    obtain ⟨b, s0, e, p, G, xs, rfl, i, bg, ml, nbp, hse, hn, h1000, hlen, q⟩ := h
    refine ⟨_, (C8.pss_cut (ps_if (pt_cmpR op_gt (pe_op op_sub (pv 2) (pv 1)) pe_int (nomark _))
      (pss_cons (ps_set (i := 4) sc__law_cut_arc.nd rfl (by first | exact .inl rfl | exact .inr rfl) (pe_op op_sub (pe_op op_sub (pv 2) (pv 1)) pe_int))
      (pss_cons (ps_set (i := 5) sc__law_cut_arc.nd rfl (by first | exact .inl rfl | exact .inr rfl) (pe_df D__law_pull hr (by first | decide | omega) (by rfl) (pa_cons (pv 0) (pa_cons pe_int pa_nil))))
      (pss_cons (ps_set (i := 6) sc__law_cut_arc.nd rfl (by first | exact .inl rfl | exact .inr rfl) (pe_op op_add (pe_op op_add (pv 1) pe_int) (pe_ix (ix_listK (K := K) rfl) (pe_lst (pa_cons (pe_df D__law_pull hr (by first | decide | omega) (by rfl) (pa_cons (pv 0) (pa_cons (pv 4) pa_nil))) (pa_cons pe_int (pa_cons (pe_op op_sub (pv 4) pe_int) (pa_cons (pe_op op_fdiv (pv 4) pe_int) (pa_cons (pe_df D__law_pull hr (by first | decide | omega) (by rfl) (pa_cons (pv 0) (pa_cons (pv 4) pa_nil))) pa_nil)))))) (pv 5) (fun _ _ => rfl))))
      (pss_cons (ps_expr (pe_bm PySem.F.plainAttrs_list PySem.F.slot_list_append PySem.F.type_list_append mt_append (pv 3) (pa_cons (pe_tup (pa_cons (pv 1) (pa_cons (pv 6) pa_nil))) pa_nil)))
      (pss_cons (ps_expr (pe_bm PySem.F.plainAttrs_list PySem.F.slot_list_append PySem.F.type_list_append mt_append (pv 3) (pa_cons (pe_tup (pa_cons (pv 6) (pa_cons (pv 2) pa_nil))) pa_nil)))
      (pss_cons (ps_expr (pe_df D__law_cut_arc hr (by first | decide | omega) (by rfl) (pa_cons (pv 0) (pa_cons (pv 1) (pa_cons (pv 6) (pa_cons (pv 3) pa_nil))))))
      (pss_one (ps_expr (pe_df D__law_cut_arc hr (by first | decide | omega) (by rfl) (pa_cons (pv 0) (pa_cons (pv 6) (pa_cons (pv 2) (pa_cons (pv 3) pa_nil)))))))))))))
      pss_nil)
    (pss_one (ps_ret (pv 3)))), ?_⟩
    refine sq_cut (fun σ' H' => ∃ A G', σ'[3]? = some (some (.ref p)) ∧ CutT s0 e A ∧ Gr (Mbp b p) G H G' H' ∧ Bag G' H' b ∧ Ml G' H' p (xs ++ A)) ?_ ?_
    · refine st_if (G := G) (b := decide (1 < e - s0)) (by walk_at "pf_ev") i (fun hb G1 H1 g1 => ?_) (fun hb G1 H1 g1 => ?_)
      · have hb : 1 < e - s0 := of_decide_eq_true hb
        refine sq_set (G := G1) (x := e - s0 - 1) (by walk_at "pf_ev") g1.i (fun v G2 H2 g2 r2 => ?_)
        cases r2
        have g12 := g1.trans g2
        have bg2 := bg.step0 g12
        have ml2 := ml.step0 g12
        refine sq_pull (b := b) (many := 5) rfl g2.i bg2 ev_int (by decide) (by decide) (fun way H3 a1 a2 g3 bg3 => ?_)
        have ml3 := ml2.bag g3 nbp
        have hw0 : 0 < e - s0 - 1 := by omega
        have hw1 := log_small hw0 (by omega)
        refine ⟨.int s0, rfl, s0, 1, rfl, rfl, ?_⟩
        refine rd_pull (E := E0) (b := b) (many := e - s0 - 1) (i := 0) (tm := tVar 4) rfl g3.i bg3 (ev_var rfl rfl) hw0 hw1 (fun r1 H4 b1 b2 g4 bg4 => ?_)
        refine ⟨.int (e - s0 - 1), rfl, e - s0 - 1, 1, rfl, rfl, ?_⟩
        refine ⟨.int (e - s0 - 1), rfl, e - s0 - 1, 2, rfl, rfl, ⟨by decide, by decide⟩, ?_⟩
        refine rd_pull (E := E0) (b := b) (many := e - s0 - 1) (i := 0) (tm := tVar 4) rfl g4.i bg4 (ev_var rfl rfl) hw0 hw1 (fun r2 H5 b3 b4 g5 bg5 => ?_)
        refine ⟨by show 5 ≤ sizeLine; decide, fun lq nq => ?_⟩
        have hne : b ≠ lq := by
          obtain ⟨_, _, _, _, _, _, eb, _⟩ := bg5
          exact ne_of_none eb nq
        have ml5 := (ml3.bag g4 nbp).bag g5 nbp
        have hnp : p ≠ lq := by
          obtain ⟨_, vs, ep, _⟩ := ml5
          exact ne_of_none ep nq
        obtain ⟨z, hz, hz0, hz1⟩ : ∃ z : Int, atI [V.int r1, .int 0, .int (e - s0 - 1 - 1), .int ((e - s0 - 1) / 2), .int r2] way = some (.int z) ∧ 0 ≤ z ∧ z < e - s0 - 1 := by
          have hw : way = 0 ∨ way = 1 ∨ way = 2 ∨ way = 3 ∨ way = 4 := by omega
          rcases hw with rfl | rfl | rfl | rfl | rfl
          · exact ⟨r1, rfl, b1, b2⟩
          · exact ⟨0, rfl, by omega, by omega⟩
          · exact ⟨e - s0 - 1 - 1, rfl, by omega, by omega⟩
          · exact ⟨(e - s0 - 1) / 2, rfl, by omega, by omega⟩
          · exact ⟨r2, rfl, b3, b4⟩
        refine ⟨.int way, rfl, lq, _, way, .int z, rfl, rfl, .inl (.inl upd_same), hz, s0 + 1, z, rfl, rfl, ?_⟩
        have i5 : Same G2 (upd H5 lq (.lst [V.int r1, .int 0, .int (e - s0 - 1 - 1), .int ((e - s0 - 1) / 2), .int r2])) := g5.i.trans (same_new nq)
        have bg6 := bg5.other (o := .lst [V.int r1, .int 0, .int (e - s0 - 1 - 1), .int ((e - s0 - 1) / 2), .int r2]) hne
        have ml6 := ml5.other (o := .lst [V.int r1, .int 0, .int (e - s0 - 1 - 1), .int ((e - s0 - 1) / 2), .int r2]) hnp
        have gr6 : Gr (Mbp b p) G H G2 (upd H5 lq (.lst [V.int r1, .int 0, .int (e - s0 - 1 - 1), .int ((e - s0 - 1) / 2), .int r2])) := by
          have x1 := gr_tbp (gr_tbp (gr_tbp g12.wk (gr_wb (p := p) g3) bg2.1 ml2.1) (gr_wb g4) bg2.1 ml2.1) (gr_wb g5) bg2.1 ml2.1
          exact ⟨x1.g, i5, x1.h.trans (SB.of (same_new nq)), x1.n⟩
        generalize upd H5 lq (.lst [V.int r1, .int 0, .int (e - s0 - 1 - 1), .int ((e - s0 - 1) / 2), .int r2]) = H6 at i5 bg6 ml6 gr6
        obtain ⟨m, hm⟩ : ∃ m, m = s0 + 1 + z := ⟨_, rfl⟩
        refine gn (i := 6) (v := .int (s0 + 1 + z)) ?_
        rw [← hm]
        have hm1 : s0 < m := by omega
        have hm2 : m < e := by omega
        -- two pairs are put down
        refine sq_append (G := G2) (i := 3) (p := p) (x := (s0, m)) rfl ml6 (by walk_at "pf_ev") i5 (by omega) (fun G7 H7 o7 g7 ml7 s7 => ?_)
        have bg7 := (bg6.step0 g7).other (o := o7) nbp
        have gr7 : Gr (Mbp b p) G H G7 (upd H7 p o7) := (gr_tbp gr6 g7.wk bg7.1 ml7.1).mut (.inr (.inr rfl)) ml7.1
        refine sq_append (G := G7) (i := 3) (p := p) (x := (m, e)) rfl ml7 (by walk_at "pf_ev") s7 (by rw [List.length_append]; show xs.length + 1 < 100000; omega) (fun G8 H8 o8 g8 ml8 s8 => ?_)
        have bg8 := (bg7.step0 g8).other (o := o8) nbp
        have gr8 : Gr (Mbp b p) G H G8 (upd H8 p o8) := (gr_tbp gr7 g8.wk bg8.1 ml8.1).mut (.inr (.inr rfl)) ml8.1
        -- the first arc, the second arc
        refine ⟨.ref b, rfl, .int s0, rfl, .int m, rfl, .ref p, rfl, b, s0, m, p, G8, (xs ++ [(s0, m)]) ++ [(m, e)], rfl, s8, bg8, ml8, nbp, hm1, by omega, by omega, by simp only [List.length_append, List.length_singleton]; omega, fun A1 G9 H9 c9 g9 bg9 ml9 => ?_⟩
        have gr9 := gr_tbp gr8 g9 bg9.1 ml9.1
        have hA1 := c9.len
        refine ⟨.ref b, rfl, .int m, rfl, .int e, rfl, .ref p, rfl, b, m, e, p, G9, ((xs ++ [(s0, m)]) ++ [(m, e)]) ++ A1, rfl, g9.i, bg9, ml9, nbp, hm2, by omega, by omega, by simp only [List.length_append, List.length_singleton]; omega, fun A2 G10 H10 c10 g10 bg10 ml10 => ?_⟩
        refine ⟨(s0, m) :: (m, e) :: (A1 ++ A2), G10, rfl, .node hm1 hm2 c9 c10, gr_tbp gr9 g10 bg10.1 ml10.1, bg10, ?_⟩
        have ea : xs ++ ((s0, m) :: (m, e) :: (A1 ++ A2)) = xs ++ [(s0, m)] ++ [(m, e)] ++ A1 ++ A2 := by simp
        rw [ea]
        exact ml10
      · have hb : ¬ 1 < e - s0 := of_decide_eq_false hb
        exact ⟨[], G1, rfl, .leaf (by omega), g1.wk, bg.step0 g1, by rw [List.append_nil]; exact ml.step0 g1⟩
    · rintro σ' H' ⟨A, G', hv, hc, g, bg', ml'⟩
      exact ⟨.ref p, hv, q A G' H' hc g bg' ml'⟩
def spDrawn : Sp := fun vs H Q _ => ∃ (b : Addr) (n : Int) (G : Hp), vs = [.ref b, .int n] ∧ Same G H ∧ Bag G H b ∧ 3 ≤ n ∧ n ≤ 40 ∧ ∀ A v G' H', CutT 1 n A → Gr (Mb b) G H G' H' → Bag G' H' b → rep G' v (planOf n A) → Q v H'
def spPlan : Sp := fun vs H Q _ => ∃ (b : Addr) (most : Int) (G : Hp), vs = [.ref b, .int most] ∧ Same G H ∧ Bag G H b ∧ 3 ≤ most ∧ most ≤ 40 ∧ ∀ n A v G' H', 3 ≤ n → n ≤ most → CutT 1 n A → Gr (Mb b) G H G' H' → Bag G' H' b → rep G' v (planOf n A) → Q v H'
theorem gr_bpt {b : Addr} {G H G1 H1 G2 H2 : Hp} (x : Gr (Mb b) G H G1 H1) (y : Gr (Mb b) G1 H1 G2 H2) (nb : G2 b = none) : Gr (Mb b) G H G2 H2 := x.trans y fun a e => .inl (by cases e; exact nb)
theorem d_drawn (T : Tx K mg "_law_drawn_plan" ["_law_bag_here", "_law_faces"] s__law_drawn_plan) (TA : Tx K mg "_law_cut_arc" ["_law_bag_here", "_law_start", "_law_end", "_law_found"] s__law_cut_arc) (TP : Tx K mg "_law_pull" ["_law_bag_here", "_law_many"] s__law_pull)
    (TQ : Tx K mg "_law_pair" ["_law_one", "_law_other"] s__law_pair) (bl : Bl mg) : Df P w K mg base 42 "_law_drawn_plan" ["_law_bag_here", "_law_faces"] spDrawn := by
  have D__law_cut_arc := d_cut_arc (P := P) (w := w) (base := base) TA TP bl 40
  have D__law_pair := d_pair (P := P) (w := w) (base := base) TQ bl
  refine T.ok sc__law_drawn_plan (fun vs H Q E h => ?_) (fun cdv f A outer s H vs Q E hr h => ?_)
  · obtain ⟨b, n, G, rfl, _⟩ := h
    rfl
  obtain ⟨b, n, G, rfl, i, bg, h3, h40, q⟩ := h
  refine ⟨_, (pss_cons (ps_setLc (i := 2) (own := [("_law_low", 3), ("_law_high", 4)]) rfl sc__law_drawn_plan.nd rfl rfl (sw_true rfl rfl rfl (by decide +kernel)) (pi_listK (K := K) rfl (pe_df D__law_cut_arc hr (by first | decide | omega) (by rfl) (pa_cons (pv 0) (pa_cons pe_int (pa_cons (pv 1) (pa_cons (pe_lst pa_nil) pa_nil)))))) (blkOk_by (own := [("_law_low", 3), ("_law_high", 4)]) (N := N__law_drawn_plan) (sc := defScope s__law_drawn_plan) (by decide +kernel)) (fun _ _ _ _ _ => (pg_tupK (K := K) (n := 2) rfl (pg_tup rfl (pgs_cons (pg_name (i := 3) sc__law_drawn_plan.nd rfl (by first | exact .inl rfl | exact .inr rfl)) (pgs_cons (pg_name (i := 4) sc__law_drawn_plan.nd rfl (by first | exact .inl rfl | exact .inr rfl)) pgs_nil))))) (fun _ _ _ _ _ => pts_one (pt_cmpR op_gt (pe_op op_sub (pv 4) (pv 3)) pe_int (nomark _))) (fun _ _ _ _ _ => (pe_tup (pa_cons (pv 3) (pa_cons (pv 4) pa_nil)))))
    (pss_one (ps_ret (pe_tup (pa_cons (pv 1) (pa_cons (pe_callTy (call_tupleK (K := K) rfl) (by rfl) (bl "tuple" (by decide)) (by decide +kernel) (pa_cons (pe_callB (cr_sortedPOK (K := K) rfl) (by rfl) (bl "sorted" (by decide)) (by decide +kernel) (pa_cons (pe_lc (own := [("_law_low", 3), ("_law_high", 4)]) rfl sc__law_drawn_plan.nd (pi_listK (K := K) rfl (pv 2)) (blkOk_by (own := [("_law_low", 3), ("_law_high", 4)]) (N := N__law_drawn_plan) (sc := defScope s__law_drawn_plan) (by decide +kernel)) (fun _ _ _ _ _ => (pg_tupK (K := K) (n := 2) rfl (pg_tup rfl (pgs_cons (pg_name (i := 3) sc__law_drawn_plan.nd rfl (by first | exact .inl rfl | exact .inr rfl)) (pgs_cons (pg_name (i := 4) sc__law_drawn_plan.nd rfl (by first | exact .inl rfl | exact .inr rfl)) pgs_nil))))) (fun _ _ _ _ _ => pts_nil) (fun _ _ _ _ _ => (pe_df D__law_pair hr (by first | decide | omega) (by rfl) (pa_cons (pv 3) (pa_cons (pe_op op_mod (pv 4) (pv 1)) pa_nil))))) pa_nil)) pa_nil)) pa_nil)))))), ?_⟩
  refine sq_lcw ?_
  refine ⟨.ref b, rfl, .int n, rfl, (by show 0 ≤ sizeLine; decide), fun p np => ?_⟩
  have nG := up_none i np
  have nbp : b ≠ p := by
    obtain ⟨_, _, _, _, _, _, eb, _⟩ := bg
    exact ne_of_none eb np
  refine ⟨b, 1, n, p, G, [], rfl, same_mut i nG, bg.other nbp, ⟨nG, [], upd_same, .nil⟩, nbp, by omega, by omega, by omega, by show (0 : Int) + 2 * (n - 1) ≤ 10000; omega, fun A1 G1 H1 hc g1 bg1 ml1 => ?_⟩
  refine ⟨p, rfl, ml1.sq, ?_⟩
  rw [List.nil_append] at ml1
  have hA := hc.len
  obtain ⟨n1, vs1, e1, pa1⟩ := ml1
  have sG : Same G1 (upd G1 p (.lst vs1)) := same_new n1
  have i1 : Same (upd G1 p (.lst vs1)) H1 := same_still g1.i e1
  have gr1 : Gr (Mb b) G H (upd G1 p (.lst vs1)) H1 := ⟨g1.g.trans sG, i1, fun a o m e => by
      have ne : a ≠ p := ne_of_none e np
      exact g1.h a o (fun z => by rcases z with z | z; exact m z; exact ne z) (by rw [upd_ne ne]; exact e), fun a o e => by
      by_cases h : a = p
      · subst h; rw [upd_same] at e; cases e; exact .inr ⟨.inl np, fun ps z => by cases z⟩
      · rw [upd_ne h] at e
        rcases g1.n a o e with z | ⟨z | ⟨vs, hv, z⟩, nt⟩
        · exact .inl z
        · rw [upd_ne h] at z; exact .inr ⟨.inl z, nt⟩
        · rw [upd_ne h] at z; exact .inr ⟨.inr ⟨vs, hv, z⟩, nt⟩⟩
  have bg1' : Bag (upd G1 p (.lst vs1)) H1 b := bg1.up sG (by rw [upd_ne nbp]; exact bg1.1)
  refine lc_rest (p := fun lh : Int × Int => decide (1 < lh.2 - lh.1)) (f := fun lh : Int × Int => (lh.1, lh.2)) (itok_list (xs := A1) upd_same (paired_mono sG pa1)) i1 (by omega) ?_ (fun v2 G2 H2 g2 r2 => ?_)
  · intro lh hlh v G2 s2 r2
    exact gb_pair' r2 fun u w ru rw => ⟨rfl, et_test (ev_gt (ev_sub (ev_var rfl rw) (ev_var rfl ru)) ev_int), fun _ => ev_tup2 (ev_var rfl ru) (ev_var rfl rw)⟩
  · have e2 : (A1.filter fun lh => decide (1 < lh.2 - lh.1)).map (fun lh : Int × Int => (lh.1, lh.2)) = A1.filter fun lh => decide (1 < lh.2 - lh.1) := List.map_id _
    rw [e2] at r2
    refine st_retC (y := planOf n A1) (G := G2) (ev_tup2 (x := n) (ev_var rfl rfl) (ev_tupleL (ev_sortedP (ev_lc (f := fun lh : Int × Int => lawPair lh.1 (lh.2 % n)) (ei_list (ev_var rfl r2)) ?_ ?_)))) g2.i (by rfl) (fun v G3 H3 g3 r3 => ?_)
    · exact Nat.le_trans (List.length_filter_le _ _) (by omega)
    · intro lh hlh v G3 s3 r3
      exact gb_pair' r3 fun u w ru rw => ⟨rfl, ev_call2 (ev_var rfl ru) (ev_mod (ev_var rfl rw) (ev_var rfl rfl) (by omega)) trivial⟩
    · have g23 := g2.trans g3
      have b3 := bg1'.step0 g23
      exact q A1 v G3 H3 hc (gr_bpt gr1 g23.wk b3.1) b3 r3
theorem d_plan (T : Tx K mg "_law_plan" ["_law_bag_here", "_law_most"] s__law_plan) (TD : Tx K mg "_law_drawn_plan" ["_law_bag_here", "_law_faces"] s__law_drawn_plan) (TA : Tx K mg "_law_cut_arc" ["_law_bag_here", "_law_start", "_law_end", "_law_found"] s__law_cut_arc) (TP : Tx K mg "_law_pull" ["_law_bag_here", "_law_many"] s__law_pull)
    (TQ : Tx K mg "_law_pair" ["_law_one", "_law_other"] s__law_pair) (bl : Bl mg) : Df P w K mg base 43 "_law_plan" ["_law_bag_here", "_law_most"] spPlan := by
  have D__law_drawn_plan := d_drawn (P := P) (w := w) (base := base) TD TA TP TQ bl
  have D__law_pull := d_pull (P := P) (w := w) (base := base) TP bl
  refine T.ok sc__law_plan (fun vs H Q E h => ?_) (fun cdv f A outer s H vs Q E hr h => ?_)
  · obtain ⟨b, n, G, rfl, _⟩ := h
    rfl
  obtain ⟨b, most, G, rfl, i, bg, h3, h40, q⟩ := h
  refine ⟨_, (pss_cons (ps_set (i := 2) sc__law_plan.nd rfl (by first | exact .inl rfl | exact .inr rfl) (pe_op op_add pe_int (pe_df D__law_pull hr (by first | decide | omega) (by rfl) (pa_cons (pv 0) (pa_cons (pe_op op_sub (pv 1) pe_int) pa_nil)))))
    (pss_one (ps_ret (pe_df D__law_drawn_plan hr (by first | decide | omega) (by rfl) (pa_cons (pv 0) (pa_cons (pv 2) pa_nil)))))), ?_⟩
  refine sq_pullAdd (b := b) (many := most - 2) rfl i bg (ev_sub (ev_var rfl rfl) ev_int) (by omega) (log_small (by omega) (by omega)) (fun r H1 a1 a2 g1 bg1 => ?_)
  refine ⟨.ref b, rfl, .int (3 + r), rfl, b, 3 + r, G, rfl, g1.i, bg1, by omega, by omega, fun A v G2 H2 hc g2 bg2 r2 => ?_⟩
  exact q (3 + r) A v G2 H2 (by omega) (by omega) hc (gr_bpt g1 g2 bg2.1) bg2 r2
end

section
variable {P : Program} {w : World} {K : Fg} {mg : Str → Option Value} {base : Heap}
theorem q__law_bag (T : Tg K mg) : Df P w K mg base 1 "_law_bag" ["_law_script"] (spBag K) := d_bag T._law_bag T.bl
theorem q__law_pull (T : Tg K mg) : Df P w K mg base 1 "_law_pull" ["_law_bag_here", "_law_many"] spPull := d_pull T._law_pull T.bl
theorem q__law_plan (T : Tg K mg) : Df P w K mg base 43 "_law_plan" ["_law_bag_here", "_law_most"] spPlan := d_plan T._law_plan T._law_drawn_plan T._law_cut_arc T._law_pull T._law_pair T.bl
end

abbrev s_law : Stmt := topS 111
abbrev N_law : List Str := ["_law_script", "_law_bag_here", "_law_house", "_law_names", "_law_at", "_law_name", "_law_words", "_law_gone"]
theorem sc_law : FnScope N_law ["_law_script"] (defScope s_law) := ⟨rfl, rfl, rfl, by decide +kernel, rfl, by decide +kernel, by decide +kernel⟩

section
theorem hole {σ : L2.St} {H : Hp} {r1 r2 r3 r4 : R2} {s m v : V} {tp t4 : TE} {i : Nat} {Q : VK} (hv : σ[i]? = some (some v)) (h : tp σ H fun w H1 => tOp r4 (tOp r1 (tC s) (tOp r2 (tC v) (tOp r3 (tC w) (tC m)))) t4 σ H1 Q) : tOp r4 (tOp r1 (tC s) (tOp r2 (tVar i) (tOp r3 tp (tC m)))) t4 σ H Q := ⟨v, hv, h⟩
theorem hole_fold {σ : L2.St} {H : Hp} {sp : Sp} {E : XK} {r : R2} {s z v2 v5 : V} {tp : TE} {i j : Nat} {Q : Bool → Hp → Prop} (h2 : σ[i]? = some (some v2)) (h5 : σ[j]? = some (some v5)) (h : tp σ H fun w H1 => tTest (tOp r (tCall sp [] E (tCons (tC v2) (tCons (tTup (tCons (tC s) (tCons (tC v5) (tCons (tC w) tNil)))) tNil))) (tC z)) σ H1 Q) :
    tTest (tOp r (tCall sp [] E (tCons (tVar i) (tCons (tTup (tCons (tC s) (tCons (tVar j) (tCons tp tNil)))) tNil))) (tC z)) σ H Q := ⟨v2, h2, v5, h5, h⟩
theorem test_do {σ : L2.St} {G H : Hp} {ad : Ek → Addr} {K : Fg} {C CH : Addr} {E : XK} {te : TE} {c : HA} {h : HM} {n : Nat} {d : Dd} {b : Option PapM} {Q : Bool → Hp → Prop} (ho : Ho K C CH G H c h) (s : Same G H) (g : GoodH n h) (ht : Ev te σ G (Tup.mk d.ths)) (ok : d.ok h) (e : pbM h d = .ok b)
    (k : ∀ l G' H', Gr (MD c) G H G' H' → H l = none → Ho K C CH G' H' ⟨c.a, c.pp, c.sp, l⟩ (doneM h d b) → Q false H') : tTest (tOp rNe (tCall (spDoW ad K C CH) [] E (tCons (tC (.ref c.a)) (tCons te tNil))) (tC (.str ""))) σ H Q :=
  ht H s _ fun v G1 H1 g1 r1 => ⟨c, v, d, h, G1, n, rfl, g1.i, ho.step0 g1, g, r1, ok, by
    rw [e]
    exact fun l G' H' g' nl ho' => ⟨rfl, false, rfl, k l G' H' ((Gr.toMs g1).trans g' fun a z => .inl (z.elim (fun e => e ▸ ho'.n) fun z => z.elim (fun e => e ▸ ho'.p.1) fun e => e ▸ ho'.s.1)) (up_none g1.same nl) ho'⟩⟩
theorem ev_zeb {σ : L2.St} {G : Hp} {z : Str} : Ev (tTup (tCons (tC (.str "fold")) (tCons (tC (.str z)) (tCons (tTup (tCons (tC (.int 3)) (tCons (tTup tNil) tNil))) tNil)))) σ G (Tup.mk (Dd.ths (.fold z ((3 : Int), (⟨[]⟩ : Tup (Int × Int)))))) :=
  ev_tupn (evs_cons (ev_thS ev_str) (evs_cons (ev_thS ev_str) (evs_cons (ev_thP (ev_tup2 ev_int (ev_tupn evs_nil (by show 0 ≤ 100000; decide)))) evs_nil))) (by show 3 ≤ 100000; decide)
theorem sq_any {σ : L2.St} {H : Hp} {te : TE} {D : Ends} {u : TS} {i : Nat} (h : te σ H fun v H1 => u D (σ.set i (some v)) H1) : tSeq (tAsg te (gName i)) u D σ H := h
end
section
variable {P : Program} {w : World} {K : Fg} {mg : Str → Option Value} {base : Heap} {C CH CP : Addr} {ad : Ek → Addr}
theorem q__law_alike (T : Tg K mg) (n : Nat) : Df P w K mg base (n + 2) "_law_alike" ["_law_found", "_law_due"] (sp2 (fun (_ d : PyData) => OkN n d) (alikeN n)) := d_alike T._law_alike T._law_whole T.bl n
abbrev St38 (a b : Addr) (A nl : Addr) (a4 a5 a6 a7 : Option V) : L2.St := [some (.ref a), some (.ref b), some (.ref A), some (.ref nl), a4, a5, a6, a7]
theorem d_law {fa : Addr} {fd : FuncData} (F : Fun K "law" "law" s_law fa fd) (T : Tg K mg) (O : OthHd w K mg) (CHW : ChangesW w K mg) (TH : ThingsW w K mg) (U : TgH K mg C CH) (XK : ExsK K mg ad CP) : FnOk P w K mg base CX0 52 fa fd ["_law_script"] (spLaw K) := by
  have bl := T.bl
  have X := XK.x
  have M_do := m_do (P := P) (w := w) (base := base) T U O X CHW TH
  have M_names := m_names (P := P) (w := w) (base := base) T U
  have I_House := i_House (P := P) (w := w) (base := base) T U
  have DO := q__law_do (P := P) (w := w) (base := base) T U O XK CHW TH
  have DS := q__law_colours_stand (P := P) (w := w) (base := base) (ad := ad) T U O X
  have DA := q__law_alike (P := P) (w := w) (base := base) T 3
  have DP := q__law_plan (P := P) (w := w) (base := base) T
  refine F.ok sc_law (fun vs H Q E h => ?_) (fun cdv A outer s H vs Q E hr h => ?_)
  · obtain ⟨a, ns, rfl, _⟩ := h
    rfl
  obtain ⟨a, ns, rfl, hq, hl, q⟩ := h
  refine ⟨_, (pss_cons (ps_set (i := 1) sc_law.nd rfl (by first | exact .inl rfl | exact .inr rfl) (pe_df (q__law_bag T) hr (by first | decide | omega) (by rfl) (pa_cons (pv 0) pa_nil)))
    (pss_cons (ps_set (i := 2) sc_law.nd rfl (by first | exact .inl rfl | exact .inr rfl) (pe_mc0 I_House hr (by first | decide | omega) (by rfl) takes_n5))
    (pss_cons (ps_set (i := 3) sc_law.nd rfl (by first | exact .inl rfl | exact .inr rfl) (pe_lst pa_nil))
    (pss_cons (ps_for PassesOwn.never rfl (pi_range1 (by rfl) (bl "range" (by decide)) (pa_cons pe_int pa_nil)) (pg_name (i := 4) sc_law.nd rfl (by first | exact .inl rfl | exact .inr rfl))
      (pss_cons (ps_set (i := 5) sc_law.nd rfl (by first | exact .inl rfl | exact .inr rfl) (pe_op op_add_str (pe_ix ix_str pe_str (pe_op op_add (pv 4) (pe_op op_mul (pe_df (q__law_pull T) hr (by first | decide | omega) (by rfl) (pa_cons (pv 1) (pa_cons pe_int pa_nil))) pe_int)) (fun _ _ => rfl)) (pe_slice sl_str pe_str po_none (po_some (pe_op op_mod (pv 4) pe_int)))))
      (pss_cons (ps_if (pt_cmpR op_ne (pe_df DO hr (by first | decide | omega) (by rfl) (pa_cons (pv 2) (pa_cons (pe_tup (pa_cons pe_str (pa_cons (pv 5) (pa_cons (pe_df DP hr (by first | decide | omega) (by rfl) (pa_cons (pv 1) (pa_cons pe_int pa_nil))) pa_nil)))) pa_nil))) pe_str (nomark _))
        (pss_one (ps_ret pe_bl))
        pss_nil)
      (pss_cons (ps_expr (pe_bm PySem.F.plainAttrs_list PySem.F.slot_list_append PySem.F.type_list_append mt_append (pv 3) (pa_cons (pv 5) pa_nil)))
      (pss_one (ps_expr (pe_mo M_do hr (by first | decide | omega) takes_n5 (pv 2) (pa_cons (pe_tup (pa_cons pe_str (pa_cons (pv 5) (pa_cons (pe_op op_mod (pv 4) pe_int) (pa_cons (pe_ix (ix_listK (K := K) rfl) (pe_lst (pa_cons pe_str (pa_cons pe_str (pa_cons pe_str pa_nil)))) (pe_op op_mod (pv 4) pe_int) (fun _ _ => rfl)) pa_nil))))) pa_nil))))))))
    (pss_cons (ps_if (pt_not (pt_val (pe_df DS hr (by first | decide | omega) (by rfl) (pa_cons (pv 2) (pa_cons (pv 3) pa_nil)))))
      (pss_one (ps_ret pe_bl))
      pss_nil)
    (pss_cons (ps_expr (pe_mo M_do hr (by first | decide | omega) takes_n5 (pv 2) (pa_cons (pe_tup (pa_cons pe_str (pa_cons (pe_ix (ix_listK (K := K) rfl) (pv 3) (pe_df (q__law_pull T) hr (by first | decide | omega) (by rfl) (pa_cons (pv 1) (pa_cons pe_int pa_nil))) (fun _ _ => rfl)) pa_nil))) pa_nil)))
    (pss_cons (ps_set (i := 6) sc_law.nd rfl (by first | exact .inl rfl | exact .inr rfl) (pe_lst (pa_cons (pe_df DO hr (by first | decide | omega) (by rfl) (pa_cons (pv 2) (pa_cons (pe_tup (pa_cons pe_str (pa_cons pe_str (pa_cons (pe_tup (pa_cons pe_int (pa_cons (pe_tup pa_nil) pa_nil))) pa_nil)))) pa_nil))) pa_nil)))
    (pss_cons (ps_expr (pe_bm PySem.F.plainAttrs_list PySem.F.slot_list_append PySem.F.type_list_append mt_append (pv 6) (pa_cons (pe_df DO hr (by first | decide | omega) (by rfl) (pa_cons (pv 2) (pa_cons (pe_tup (pa_cons pe_str (pa_cons (pe_ix (ix_listK (K := K) rfl) (pv 3) pe_int (fun _ _ => rfl)) (pa_cons (pe_tup (pa_cons pe_int (pa_cons (pe_tup (pa_cons (pe_tup (pa_cons pe_int (pa_cons pe_int pa_nil))) pa_nil)) pa_nil))) pa_nil)))) pa_nil))) pa_nil)))
    (pss_cons (ps_expr (pe_bm PySem.F.plainAttrs_list PySem.F.slot_list_append PySem.F.type_list_append mt_append (pv 6) (pa_cons (pe_df DO hr (by first | decide | omega) (by rfl) (pa_cons (pv 2) (pa_cons (pe_tup (pa_cons pe_str (pa_cons pe_str (pa_cons (pe_tup (pa_cons pe_int (pa_cons (pe_tup pa_nil) pa_nil))) pa_nil)))) pa_nil))) pa_nil)))
    (pss_cons (ps_expr (pe_bm PySem.F.plainAttrs_list PySem.F.slot_list_append PySem.F.type_list_append mt_append (pv 6) (pa_cons (pe_df DO hr (by first | decide | omega) (by rfl) (pa_cons (pv 2) (pa_cons (pe_tup (pa_cons pe_str (pa_cons pe_str (pa_cons (pe_tup (pa_cons pe_int (pa_cons (pe_tup (pa_cons (pe_tup (pa_cons pe_int (pa_cons pe_int pa_nil))) pa_nil)) pa_nil))) pa_nil)))) pa_nil))) pa_nil)))
    (pss_cons (ps_if (PW.pt (pw_or (pt_cmpR (op_neDK (K := K) rfl hr.units) (pv 6) (pe_lst (pa_cons pe_str (pa_cons pe_str (pa_cons pe_str (pa_cons pe_str pa_nil))))) (nomark _)) (pw_or1 (pt_not (pt_val (pe_df DA hr (by first | decide | omega) (by rfl) (pa_cons (pe_mo0 M_names hr (by first | decide | omega) takes_n5 (pv 2)) (pa_cons (pe_callB (cr_sortedSK (K := K) rfl) (by rfl) (bl "sorted" (by decide)) (by decide +kernel) (pa_cons (pv 3) pa_nil)) pa_nil))))))))
      (pss_one (ps_ret pe_bl))
      pss_nil)
    (pss_cons (ps_set (i := 7) sc_law.nd rfl (by first | exact .inl rfl | exact .inr rfl) (pe_bm PySem.F.plainAttrs_list PySem.F.slot_list_pop PySem.F.type_list_pop mt_popAt (pv 3) (pa_cons (pe_df (q__law_pull T) hr (by first | decide | omega) (by rfl) (pa_cons (pv 1) (pa_cons pe_int pa_nil))) pa_nil)))
    (pss_cons (ps_set (i := 6) sc_law.nd rfl (by first | exact .inl rfl | exact .inr rfl) (pe_lst (pa_cons (pe_df DO hr (by first | decide | omega) (by rfl) (pa_cons (pv 2) (pa_cons (pe_tup (pa_cons pe_str (pa_cons (pv 7) pa_nil))) pa_nil))) (pa_cons (pe_df DO hr (by first | decide | omega) (by rfl) (pa_cons (pv 2) (pa_cons (pe_tup (pa_cons pe_str (pa_cons pe_str (pa_cons (pe_tup (pa_cons pe_int (pa_cons (pe_tup pa_nil) pa_nil))) pa_nil)))) pa_nil))) pa_nil))))
    (pss_cons (ps_expr (pe_bm PySem.F.plainAttrs_list PySem.F.slot_list_append PySem.F.type_list_append mt_append (pv 6) (pa_cons (pe_df DO hr (by first | decide | omega) (by rfl) (pa_cons (pv 2) (pa_cons (pe_tup (pa_cons pe_str (pa_cons (pv 7) (pa_cons (pe_tup (pa_cons pe_int (pa_cons (pe_tup pa_nil) pa_nil))) pa_nil)))) pa_nil))) pa_nil)))
    (pss_one (ps_ret (pe_and (pe_cmpR (op_eqDK (K := K) rfl hr.units) (pv 6) (pe_lst (pa_cons pe_str (pa_cons pe_str (pa_cons pe_str pa_nil)))) (nomark _)) (pe_one (pe_df DA hr (by first | decide | omega) (by rfl) (pa_cons (pe_mo0 M_names hr (by first | decide | omega) takes_n5 (pv 2)) (pa_cons (pe_callB (cr_sortedSK (K := K) rfl) (by rfl) (bl "sorted" (by decide)) (by decide +kernel) (pa_cons (pe_op op_cat (pv 3) (pe_lst (pa_cons pe_str pa_nil))) pa_nil)) pa_nil))))))))))))))))))))), ?_⟩
  refine ⟨.ref a, rfl, a, ns, H, rfl, Same.refl H, hq, hl, fun b G1 H1 g1 nb bg1 => ?_⟩
  refine gn (i := 1) (v := .ref b) ?_
  dsimp only
  refine sq_any (i := 2) ?_
  refine eh_house (K := K) (C := C) (CH := CH) g1.i (fun c0 G2 H2 g2 na np ns nt ho2 => ?_)
  have bg2 := bg1.step0 g2
  refine sq_newlist (G := G2) (i := 3) (xs := ([] : List Str)) evs_nil g2.i (by decide) (fun nl G3 H3 o3 g3 nnl ml3 s3 => ?_)
  have nn2 : H2 nl = none := up_none g3.same nnl
  have gh3 : Gr M0 G2 H2 G3 (upd H3 nl o3) := g3.mut (.inl nn2) ml3.1
  have bk3 : Bhl K C CH G3 (upd H3 nl o3) b nl ⟨c0.a, c0.pp, c0.sp, c0.tp⟩ ⟨[], [], []⟩ ([] : List Str) :=
    ⟨bg2.step0 gh3, ho2.step0 gh3, ml3, fun z => bag_some bg1 (z ▸ ns), fun z => bag_some bg1 (z ▸ nt), fun z => bag_some bg2 (z ▸ nn2), fun z => ml_some ho2.s (z ▸ nn2), fun z => ml_some ho2.t (z ▸ nn2)⟩
  have g00 : GoodH 0 ⟨[], [], []⟩ := ⟨Nat.zero_le _, fun e he => (by cases he), .nil, Nat.zero_le _, Nat.le_refl _⟩
  generalize upd H3 nl o3 = H3' at *
  refine sq_for (G := G3) (xs := rng 0 12) (fun k σ G' H' => ∃ lq h xs a4 a5, σ = St38 a b c0.a nl a4 a5 none none ∧ Bhl K C CH G' H' b nl ⟨c0.a, c0.pp, c0.sp, lq⟩ h xs ∧ GoodH (2 * k) h ∧ xs.length = k ∧ h.ps.map (·.1) = xs ∧ NamesOk xs ∧ ∀ j x, xs[j]? = some x → Shown h j x) (ei_r1 ev_int (by decide)) s3 (fun G1 H1 g1 => ⟨c0.tp, ⟨[], [], []⟩, [], none, none, rfl, bk3.step0 g1, g00, rfl, rfl, fun j x hj => (by cases hj), fun j x hj => (by cases hj)⟩) ?_ ?_
  · rintro k t v σ' Ga Ha Gb Hb hk e3 e4 ⟨lqa, ha, xs, a4, a5, rfl, bka, ga, hxl, hks, hnm, hsh⟩ gb rb
    obtain ⟨rfl, hkz⟩ := rng_get hk
    cases rb
    have hk12 : k < 12 := by omega
    refine gn ?_
    have bkb := bka.step0 gb
    refine sq_any (i := 5) ?_
    refine hole (v := .int (0 + (k : Int))) rfl ?_
    refine rd_pull (E := E0) (i := 1) (b := b) (many := 2) rfl gb.i bkb.bg ev_int (by decide) (by decide) (fun r Hc r0 r1 gc bgc => ?_)
    have bkc := bkb.stepB gc bgc
    obtain ⟨e, he, rfl⟩ : ∃ e : Nat, e < 2 ∧ r = (e : Int) := ⟨r.toNat, by omega, by omega⟩
    refine (ev_addS (σ := St38 a b c0.a nl (some (.int (0 + (k : Int)))) a5 none none) (G := Gb) (x := (⟨#[97 + k + 3 * e]⟩ : Str)) (y := cutS "xyz" none (some ((k % 4 : Nat) : Int))) (ev_ixS (ta := tC (.str "abcdefghijklmnopqrst")) (ev_str) (ev_add (ta := tC (.int (0 + (k : Int)))) ev_int (ev_mul (ta := tC (.int (e : Int))) ev_int ev_int (.inl (by omega)))) (by decide +kernel) (name_at k hk12 e he)) (ev_slS (z := "xyz") ev_str eo_none (eo_some (Ev.cast (ev_mod (i := 0 + (k : Int)) (j := 4) (ev_var (x := 0 + (k : Int)) (i := 4) rfl rfl) ev_int (by decide)) (by omega))) (by decide +kernel)) (by have := cut_short k; exact this)) Hc gc.i _ (fun v5 Gd Hd gd rd => ?_)
    cases rd
    have bkd := bkc.step0 gd
    have hka := bka
    refine hole_fold (i := 2) (j := 5) (v2 := .ref c0.a) (v5 := .str (nameOf k e)) rfl rfl ?_
    refine ⟨.ref b, rfl, b, 6, Gd, rfl, gd.i, bkd.bg, by decide, by decide, fun n A pv Ge He n3 n6 hc ge bge rpv => ?_⟩
    have hp : isPlanM (planOf n A) = true := drawn_is_plan hc n3 (by omega)
    generalize planOf n A = pl at rpv hp
    have bke := bkd.stepB ge bge
    have j01 : Jn pl 0 1 := jn_side hp (show (0 : Int) ≤ 0 by decide) (by have := (plan_facts hp).1; omega) rfl
    have tw := twelve_step ga (by omega) hks hnm (by omega) hsh hp (heaps_ne hp (l := ⟨0, 1, 0⟩) j01) he
    subst hxl
    obtain ⟨p1, f1, f2, f3, f4, f5, f6, f7⟩ := tw
    refine test_do (ad := ad) (c := ⟨c0.a, c0.pp, c0.sp, lqa⟩) (d := .fold (nameOf xs.length e) pl) bke.ho ge.i ga (ev_tupn (evs_cons (ev_thS ev_str) (evs_cons (ev_thS ev_str) (evs_cons (ev_thP (ev_c rpv)) evs_nil))) (by show 3 ≤ 100000; decide)) (name_ok _ (by omega) e he).2.2 f1 (fun lqg Gg Hg gg nlg hog => ?_)
    have bkg := bke.did gg nlg hog
    refine ite2 (fun zz => by cases zz) (fun _ => ?_)
    refine st_append (G := Gg) (i := 3) (p := nl) (x := nameOf xs.length e) rfl bkg.ml (ev_var (i := 5) rfl rfl) gg.i (by omega) (fun Gh Hh oh gh mlh sh => ?_)
    have bkh := bkg.put gh mlh
    refine st_do (G := Gh) (i := 2) (c := ⟨c0.a, c0.pp, c0.sp, lqg⟩) (d := .act (nameOf xs.length e) (.paint ((xs.length : Int) % 6) (((["red", "blue", "gold"] : List Str)[xs.length % 3]?).getD ""))) (Q := fun H' => _) rfl bkh.ho sh f2 (ev_tupn (evs_cons (ev_thS ev_str) (evs_cons (ev_thS (ev_var (x := nameOf xs.length e) (i := 5) rfl rfl)) (evs_cons (ev_thN (Ev.cast (ev_mod (i := 0 + (xs.length : Int)) (j := 6) (ev_var (i := 4) rfl rfl) ev_int (by decide)) (by omega))) (evs_cons (ev_thS (Ev.cast (ev_ixL (xs := (["red", "blue", "gold"] : List Str)) (i := (0 + (xs.length : Int)) % 3) (ev_lst (evs_cons ev_str (evs_cons ev_str (evs_cons ev_str evs_nil))) (by show 3 ≤ 100000; decide)) (ev_mod (ev_var (x := 0 + (xs.length : Int)) (i := 4) rfl rfl) ev_int (by decide)) ⟨by omega, by show _ < 3; omega⟩) (by unfold ix; rw [show ((0 + (xs.length : Int)) % 3).toNat = xs.length % 3 by omega]; rfl))) evs_nil)))) (by show 4 ≤ 100000; decide)) (fun _ _ => trivial) f3 (fun lqi Gi Hi gi nli hoi => ?_)
    have bki := bkh.did gi nli hoi
    exact ⟨Gi, gb.g.trans (gc.g.trans (gd.g.trans (ge.g.trans (gg.g.trans (gh.g.trans gi.g))))), gi.i, lqi, _, _, _, _, rfl, bki, f4, by rw [List.length_append]; rfl, f5, f6, f7⟩
  · rintro σ' Ga Ha e3 e4 ⟨lq, h, xs, a4, a5, rfl, bka, ga, hxl, hks, hnm, hsh⟩
    rw [rng_len] at ga hxl
    have hx12 : xs.length = 12 := by omega
    have nd := twelve_nodup ga hks
    clear e3 hxl
    obtain ⟨Gz, z1, z2, rn, hoz⟩ := bka.frz e4
    refine st_ifH (G := Gz) (b := false) (EvTH.cast (eth_not (eth_B (eh_stand (c := ⟨c0.a, c0.pp, c0.sp, lq⟩) (i := 2) (j := 3) rfl rfl hoz z2 ga rn (by omega) hsh))) rfl) (fun zz => by cases zz) (fun _ G1 H1 g1 => ?_)
    have d1 := Gr.down g1 z1
    have bk1 := bka.step0 d1
    have s1 := d1.i
    clear rn hoz z1 z2 d1 g1
    refine do_hole (i := 2) (c := ⟨c0.a, c0.pp, c0.sp, lq⟩) rfl bk1.ho.e ?_
    refine tup_ix_pull (α := Str) (i := 1) (j := 3) rfl rfl bk1 s1 (by decide) (by omega) (by decide) (fun r H2 r0 r1 g2 bg2 => ?_)
    have bk2 := bk1.stepB g2 bg2
    have hz : xs[r.toNat]? = some (ix xs r) := by
      unfold ix
      rw [List.getElem?_eq_getElem (show r.toNat < xs.length by omega)]; rfl
    obtain ⟨p, pl, l, q1, q2, _⟩ := hsh _ _ hz
    have e1 := act_ok q1 (unfold_ok q2)
    have hzm := List.mem_of_getElem? hz
    generalize ix xs r = z at hz q1 e1 hzm
    refine do_in (ad := ad) (c := ⟨c0.a, c0.pp, c0.sp, lq⟩) (d := .act z .unfold) bk2.ho g2.i ga (ev_tupn (evs_cons (ev_thS ev_str) (evs_cons (ev_thS ev_str) evs_nil)) (by show 2 ≤ 100000; decide)) (fun _ _ => trivial) e1 (fun l3 G3 H3 g3 nl3 ho3 => ?_)
    have bk3 := bk2.did g3 nl3 ho3
    have g25 := putO_good ga (by omega) e1
    have ks3 : (doneM h (.act z .unfold) (some { p with fold := none })).ps.map (·.1) = xs := by
      exact done_keys.trans ((if_pos (by rw [hks]; exact hzm)).trans hks)
    have s3 := g3.i
    clear hz q1 q2 e1 hzm hsh g3 g2
    generalize doneM h (.act z .unfold) (some { p with fold := none }) = h3 at bk3 g25 ks3
    have kz := names_zebra hnm (by omega)
    have lz := look_not (h := h3) (by rw [ks3]; exact kz)
    have hl3 : h3.ps.length = 12 := by rw [← hx12, ← ks3, List.length_map]
    obtain ⟨Gy, y1, y2, rny, hoy⟩ := bk3.frz s3
    have zname : nameB "zebra" = true := by decide +kernel
    have zlen : ("zebra" : Str).length ≤ 90000 := by decide +kernel
    have zlen2 : ("Zebra" : Str).length ≤ 90000 := by decide +kernel
    refine sq_new1H (G := Gy) (i := 6) (x := kinW .full) (eh_dow (ad := ad) (i := 2) (c := ⟨c0.a, c0.pp, c0.sp, l3⟩) (d := .fold "zebra" (3, ⟨[]⟩)) rfl hoy y2 g25 ev_zeb zlen (fold_full zname lz (by decide +kernel) (by omega))) (fun pw G4 H4 o4 g4 np4 ml4 s4 => ?_)
    have n4 := up_none g4.same np4
    have gd4 : Gr M0 Gy H3 G4 (upd H4 pw o4) := g4.mut (.inl n4) ml4.1
    obtain ⟨e0, he0, hx0⟩ : ∃ e : Nat, e < 2 ∧ ix xs 0 = nameOf 0 e := by
      obtain ⟨e, he, q⟩ := hnm 0 _ (List.getElem?_eq_getElem (show 0 < xs.length by omega))
      refine ⟨e, he, ?_⟩
      unfold ix
      rw [show (0 : Int).toNat = 0 from rfl, List.getElem?_eq_getElem (show 0 < xs.length by omega)]
      exact q
    have nk0 := name_ok 0 (by omega) e0 he0
    rw [← hx0] at nk0
    obtain ⟨p0, hp0⟩ := look_in (h := h3) (x := ix xs 0) (by
      rw [ks3]; unfold ix
      rw [show (0 : Int).toNat = 0 from rfl, List.getElem?_eq_getElem (show 0 < xs.length by omega)]
      exact List.getElem_mem _)
    refine sq_appendH (G := G4) (i := 6) (p := pw) (x := kinW .taken) rfl ml4 (eh_dow (ad := ad) (i := 2) (c := ⟨c0.a, c0.pp, c0.sp, l3⟩) (d := .fold (ix xs 0) (3, ⟨[(0, 1)]⟩)) rfl (hoy.step0 gd4) s4 g25 (ev_tupn (evs_cons (ev_thS ev_str) (evs_cons (ev_thS (ev_ixL (ev_var (i := 3) rfl (Rep.mono gd4.g rny)) ev_int ⟨by decide, by omega⟩)) (evs_cons (ev_thP (ev_tup2 ev_int (ev_tupn (evs_cons (ev_tup2 ev_int ev_int) evs_nil) (by show 1 ≤ 100000; decide)))) evs_nil))) (by show 3 ≤ 100000; decide)) nk0.2.2 (fold_taken nk0.1 hp0)) (by show 1 < 100000; decide) (fun G5 H5 o5 g5 ml5 s5 => ?_)
    have gd5 : Gr M0 Gy H3 G5 (upd H5 pw o5) := (gd4.trans g5).mut (.inl n4) ml5.1
    refine sq_appendH (G := G5) (i := 6) (p := pw) (x := kinW .badName) rfl ml5 (eh_dow (ad := ad) (i := 2) (c := ⟨c0.a, c0.pp, c0.sp, l3⟩) (d := .fold "Zebra" (3, ⟨[]⟩)) rfl (hoy.step0 gd5) s5 g25 ev_zeb zlen2 (fold_name (by decide +kernel))) (by show 2 < 100000; decide) (fun G6 H6 o6 g6 ml6 s6 => ?_)
    have gd6 : Gr M0 Gy H3 G6 (upd H6 pw o6) := (gd5.trans g6).mut (.inl n4) ml6.1
    refine sq_appendH (G := G6) (i := 6) (p := pw) (x := kinW .badPlan) rfl ml6 (eh_dow (ad := ad) (i := 2) (c := ⟨c0.a, c0.pp, c0.sp, l3⟩) (d := .fold "zebra" (4, ⟨[(1, 2)]⟩)) rfl (hoy.step0 gd6) s6 g25 (ev_tupn (evs_cons (ev_thS ev_str) (evs_cons (ev_thS ev_str) (evs_cons (ev_thP (ev_tup2 ev_int (ev_tupn (evs_cons (ev_tup2 ev_int ev_int) evs_nil) (by show 1 ≤ 100000; decide)))) evs_nil))) (by show 3 ≤ 100000; decide)) zlen (fold_plan zname lz (by decide +kernel))) (by show 3 < 100000; decide) (fun G7 H7 o7 g7 ml7 s7 => ?_)
    have gd7 : Gr M0 Gy H3 G7 (upd H7 pw o7) := (gd6.trans g7).mut (.inl n4) ml7.1
    obtain ⟨G8, g8, r8, s8⟩ := ml7.frz gd7 n4
    have ok12 : ∀ {ys : List Str}, ys.length ≤ 12 → OkN 3 (dat (sortS ys)) := fun {ys} hl => okN_strs (by rw [(sortS_perm ys).length_eq]; omega)
    refine st_ifH (G := G8) (b := false) (EvTH.cast (eth_or (x := false) (EvT.atH (et_test (Ev.cast (ev_neW (ev_dat (ev_var (i := 6) rfl r8)) (ev_dat (ev_lst (xs := (["Full", "Taken", "BadName", "BadPlan"] : List Str)) (evs_cons ev_str (evs_cons ev_str (evs_cons ev_str (evs_cons ev_str evs_nil)))) (by show 4 ≤ 100000; decide))) (by decide +kernel) (by decide +kernel)) (by decide +kernel))) g8.i) (fun G9 H9 g9 => eth_not (eth_B (eh_call2a (pre := fun (_ d : PyData) => OkN 3 d) (f := alikeN 3) (x := dat (sortS (h3.ps.map (·.1)))) (y := dat (sortS xs)) (eh_dat (eh_cnames (c := ⟨c0.a, c0.pp, c0.sp, l3⟩) (i := 2) rfl (hoy.step0 (g8.trans g9)) g9.i g25)) (ev_dat (ev_sortS (ev_var (i := 3) rfl (Rep.mono (g8.trans g9).g rny)) (by omega))) (ok12 (by omega)))))) ?_) (fun zz => by cases zz) (fun _ G9 H9 g9 => ?_)
    · rw [ks3, (alikeN_iff 3 _ _ (ok12 (by omega))).mpr rfl]; rfl
    have d9 := Gr.down (g8.trans g9) y1
    have bk9 := bk3.step0 d9
    have s9 := d9.i
    clear g4 gd4 gd5 gd6 gd7 g8 g9 r8 rny hoy y1 y2 d9 ml4 ml5 ml6 ml7
    refine sq_popPull (i := 1) (j := 3) (m := 7) rfl rfl bk9 s9 (by decide) (by omega) (by decide) (by decide) (fun r H10 r0 r1 bk10 s10 => ?_)
    have hz : xs[r.toNat]? = some (ix xs r) := by
      unfold ix
      rw [List.getElem?_eq_getElem (show r.toNat < xs.length by omega)]; rfl
    have fe := filter_erase nd hz
    obtain ⟨e', he', hze⟩ := hnm _ _ hz
    have nkz := name_ok r.toNat (by omega) e' he'
    rw [← hze] at nkz
    have hzm := List.mem_of_getElem? hz
    generalize ix xs r = z2 at hz fe nkz hzm
    obtain ⟨p2, hp2⟩ := look_in (h := h3) (x := z2) (by rw [ks3]; exact hzm)
    have e2 := drop_ok hp2
    have g26 := putO_good g25 (by omega) e2
    have ks4 : (doneM h3 (.drop z2) none).ps.map (·.1) = xs.eraseIdx r.toNat := by rw [done_drop, ks3, fe]
    have kz4 : ("zebra" : Str) ∉ xs.eraseIdx r.toNat := fun hh => kz (by rw [← fe] at hh; exact (List.mem_filter.mp hh).1)
    have le4 : (xs.eraseIdx r.toNat).length = 11 := by rw [List.length_eraseIdx, if_pos (by omega)]; omega
    have nz4 : z2 ∉ xs.eraseIdx r.toNat := fun hh => by rw [← fe] at hh; simpa using (List.mem_filter.mp hh).2
    refine sq_new2 ?_
    refine rdw_ok (ad := ad) (i := 2) (c := ⟨c0.a, c0.pp, c0.sp, l3⟩) (d := .drop z2) (b := none) rfl bk10.ho s10 g25 (ev_tupn (evs_cons (ev_thS ev_str) (evs_cons (ev_thS (ev_var (x := z2) (i := 7) rfl rfl)) evs_nil)) (by show 2 ≤ 100000; decide)) trivial e2 (fun l11 G11 H11 g11 nl11 ho11 => ?_)
    have bk11 := bk10.did g11 nl11 ho11
    generalize doneM h3 (.drop z2) none = h4 at bk11 g26 ks4 ho11
    have hl4 : h4.ps.length = 11 := by rw [← le4, ← ks4, List.length_map]
    have lz4 := look_not (h := h4) (by rw [ks4]; exact kz4)
    have e3' := fold_ok (q := (3, ⟨[]⟩)) zname lz4 (by decide +kernel) (by omega)
    have g27 := putO_good g26 (by omega) e3'
    refine rdw_ok (ad := ad) (i := 2) (c := ⟨c0.a, c0.pp, c0.sp, l11⟩) (d := .fold "zebra" (3, ⟨[]⟩)) rfl bk11.ho g11.i g26 ev_zeb zlen e3' (fun l12 G12 H12 g12 nl12 ho12 => ?_)
    have bk12 := bk11.did g12 nl12 ho12
    have ks5 := (done_keys (h := h4) (d := .fold "zebra" (3, ⟨[]⟩)) (b := ⟨rowM (3, ⟨[]⟩), some ((3, ⟨[]⟩), ⟨0, 1, 0⟩), []⟩)).trans ((if_neg (by rw [ks4]; exact kz4)).trans (by rw [ks4]; rfl : _ = xs.eraseIdx r.toNat ++ [("zebra" : Str)]))
    generalize doneM h4 (.fold "zebra" (3, ⟨[]⟩)) (some ⟨rowM (3, ⟨[]⟩), some ((3, ⟨[]⟩), ⟨0, 1, 0⟩), []⟩) = h5 at bk12 g27 ks5
    obtain ⟨Gx, x1, x2, rnx, hox⟩ := bk12.frz g12.i
    intro p np
    have nx := up_none x2 np
    have gd13 : Gr M0 Gx H12 Gx (upd H12 p (.lst [.str "", .str ""])) := (Gr.refl x2).mut (.inl np) nx
    have ml13 : Ml Gx (upd H12 p (.lst [.str "", .str ""])) p (["", ""] : List Str) := ⟨nx, _, upd_same, .cons rfl (.cons rfl .nil)⟩
    have hl5 : h5.ps.length = 12 := by
      have := congrArg List.length ks5
      rw [List.length_map, List.length_append, le4] at this
      exact this
    have lz5 := look_not (h := h5) (x := z2) (by
      rw [ks5, List.mem_append]
      exact fun hh => hh.elim nz4 fun hh => nkz.2.1 (List.mem_singleton.mp hh))
    refine sq_appendH (G := Gx) (i := 6) (p := p) (x := kinW .full) rfl ml13 (eh_dow (ad := ad) (i := 2) (c := ⟨c0.a, c0.pp, c0.sp, l12⟩) (d := .fold z2 (3, ⟨[]⟩)) rfl (hox.step0 gd13) gd13.i g27 (ev_tupn (evs_cons (ev_thS ev_str) (evs_cons (ev_thS (ev_var (x := z2) (i := 7) rfl rfl)) (evs_cons (ev_thP (ev_tup2 ev_int (ev_tupn evs_nil (by show 0 ≤ 100000; decide)))) evs_nil))) (by show 3 ≤ 100000; decide)) nkz.2.2 (fold_full nkz.1 lz5 (by decide +kernel) (by omega))) (by show 2 < 100000; decide) (fun G14 H14 o14 g14 ml14 s14 => ?_)
    have gd14 : Gr M0 Gx H12 G14 (upd H14 p o14) := (gd13.trans g14).mut (.inl np) ml14.1
    obtain ⟨G15, g15, r15, s15⟩ := ml14.frz gd14 np
    refine st_retE (G := G15) (eh_andV (x := true) (Ev.at (Ev.cast (ev_eqW (ev_dat (ev_var (i := 6) rfl r15)) (ev_dat (ev_lst (xs := (["", "", "Full"] : List Str)) (evs_cons ev_str (evs_cons ev_str (evs_cons ev_str evs_nil))) (by show 3 ≤ 100000; decide))) (by decide +kernel) (by decide +kernel)) (by decide +kernel)) g15.i) (fun G9 H9 g9 => eh_call2a (pre := fun (_ d : PyData) => OkN 3 d) (f := alikeN 3) (x := dat (sortS (h5.ps.map (·.1)))) (y := dat (sortS (xs.eraseIdx r.toNat ++ [("zebra" : Str)]))) (eh_dat (eh_cnames (c := ⟨c0.a, c0.pp, c0.sp, l12⟩) (i := 2) rfl (hox.step0 (g15.trans g9)) g9.i g27)) (ev_dat (ev_sortS (ev_catL (ev_var (i := 3) rfl (Rep.mono (g15.trans g9).g rnx)) (ev_lst (xs := ([("zebra" : Str)] : List Str)) (evs_cons ev_str evs_nil) (by show 1 ≤ 100000; decide)) (by rw [le4]; show 11 + 1 ≤ 100000; decide)) (by rw [List.length_append, le4]; show 11 + 1 < 64; decide))) (ok12 (by rw [List.length_append, le4]; show 11 + 1 ≤ 12; decide)))) (fun v9 G9 H9 g9 r9 => ?_)
    rw [ks5, (alikeN_iff 3 _ _ (ok12 (by rw [List.length_append, le4]; show 11 + 1 ≤ 12; decide))).mpr rfl] at r9
    cases r9
    exact q H9
end


abbrev HR : PySem.W.OpenRow := PySem.W.OpenLaw.row PySem.Challenge.rw_pinchfold_k38_full_houses
def hLo0 : List Str := ["_wall", "PinchError", "BadPlan", "BadFace", "BadPlace", "BadWay", "NoPinch", "BadLie", "BadStep", "BadNumber", "BadName", "Taken"]
def hLo1 : List Str := ["NoPaper", "BadSlot", "BadColour", "BadLetter", "Unfolded", "Folded", "OtherRow", "Full", "BadDeed", "NoBack", "LEAST_FACES", "MOST_FACES"]
def hLo2 : List Str := ["is_plan", "is_cut", "rising", "crossing", "check_plan", "lines", "low_first", "parts", "thirds_of", "fan", "OTHER_HAND", "hands_of"]
def hLo3 : List Str := ["strip_order", "order_of_stack", "row_of", "WAYS", "turned_over", "check_place", "check_way", "check_word_of_way", "corner_at", "pinch", "unpinch", "place_behind"]
def hLo4 : List Str := ["stacks", "upright", "middles", "check_lie", "ring", "heaps", "places_behind", "copies_of", "COLOURS", "LETTERS", "SIDES", "FIRST_LIE"]
def hLo5 : List Str := ["BARE", "Paper", "new_paper", "check_folded", "pinched", "unpinched", "place_of", "moved", "lying", "put_over", "put_about", "painted"]
def hLo6 : List Str := ["top_of_slot", "on_leaf", "with_leaf", "marked", "is_letter", "washed", "unfolded", "refolded", "CHANGES", "changed", "seen_on_top", "with_leaves"]
def hLo7 : List Str := ["letters_as_seen", "leaf_told", "MOST_PAPERS", "LONGEST_NAME", "THINGS", "is_name", "check_deed", "House", "_law_alike", "_law_bag", "_law_colours_stand", "_law_cut_arc"]
def hLo8 : List Str := ["_law_do", "_law_drawn_plan", "_law_kin", "_law_pair", "_law_plan", "_law_pull", "_law_whole"]
def hLo : List Str := hLo0 ++ hLo1 ++ hLo2 ++ hLo3 ++ hLo4 ++ hLo5 ++ hLo6 ++ hLo7 ++ hLo8
def hAs : List Addr := 3 :: List.range' 11 1600
def hP0 : Pt := { ex := ([fun K => (He.Fa.glo "_law_bag").ok K, fun K => (He.Fa.glo "_law_pull").ok K, fun K => (He.Fa.glo "_law_alike").ok K, fun K => (He.Fa.glo "_law_whole").ok K, fun K => (He.Fa.glo "_law_pair").ok K, fun K => (He.Fa.glo "_law_plan").ok K, fun K => (He.Fa.glo "_law_drawn_plan").ok K, fun K => (He.Fa.glo "_law_cut_arc").ok K, fun K => (He.Fa.glo "is_plan").ok K, fun K => (He.Fa.glo "is_cut").ok K, fun K => (He.Fa.glo "rising").ok K, fun K => (He.Fa.glo "crossing").ok K] : List (Fg → Bool)) ++ ([fun K => (He.Fa.glo "check_plan").ok K, fun K => (He.Fa.glo "lines").ok K, fun K => (He.Fa.glo "low_first").ok K, fun K => (He.Fa.glo "parts").ok K, fun K => (He.Fa.glo "thirds_of").ok K, fun K => (He.Fa.glo "fan").ok K, fun K => (He.Fa.glo "hands_of").ok K, fun K => (He.Fa.glo "strip_order").ok K, fun K => (He.Fa.glo "order_of_stack").ok K, fun K => (He.Fa.glo "row_of").ok K, fun K => (He.Fa.glo "turned_over").ok K, fun K => (He.Fa.glo "check_place").ok K] : List (Fg → Bool)) ++ ([fun K => (He.Fa.glo "check_way").ok K, fun K => (He.Fa.glo "check_word_of_way").ok K, fun K => (He.Fa.glo "corner_at").ok K, fun K => (He.Fa.glo "pinch").ok K, fun K => (He.Fa.glo "unpinch").ok K, fun K => (He.Fa.glo "place_behind").ok K, fun K => (He.Fa.glo "stacks").ok K, fun K => (He.Fa.glo "upright").ok K, fun K => (He.Fa.glo "middles").ok K, fun K => (He.Fa.glo "check_lie").ok K, fun K => (He.Fa.glo "ring").ok K, fun K => (He.Fa.glo "heaps").ok K] : List (Fg → Bool)) ++ ([fun K => (He.Fa.glo "places_behind").ok K, fun K => (He.Fa.glo "copies_of").ok K, fun K => (He.Fa.glo "new_paper").ok K, fun K => (He.Fa.glo "check_folded").ok K, fun K => (He.Fa.glo "pinched").ok K, fun K => (He.Fa.glo "unpinched").ok K, fun K => (He.Fa.glo "place_of").ok K, fun K => (He.Fa.glo "moved").ok K, fun K => (He.Fa.glo "lying").ok K, fun K => (He.Fa.glo "put_over").ok K, fun K => (He.Fa.glo "put_about").ok K, fun K => (He.Fa.glo "painted").ok K] : List (Fg → Bool)) ++ ([fun K => (He.Fa.glo "top_of_slot").ok K, fun K => (He.Fa.glo "on_leaf").ok K, fun K => (He.Fa.glo "with_leaf").ok K, fun K => (He.Fa.glo "marked").ok K] : List (Fg → Bool)), fn := ([dG "_law_bag" s__law_bag, dG "_law_pull" s__law_pull, dG "_law_alike" s__law_alike, dG "_law_whole" s__law_whole, dG "_law_pair" s__law_pair, dG "_law_plan" s__law_plan, dG "_law_drawn_plan" s__law_drawn_plan, dG "_law_cut_arc" s__law_cut_arc, dG "is_plan" s_is_plan, dG "is_cut" s_is_cut, dG "rising" s_rising, dG "crossing" s_crossing] : List He.DefD) ++ ([dG "check_plan" s_check_plan, dG "lines" s_lines, dG "low_first" s_low_first, dG "parts" s_parts, dG "thirds_of" s_thirds_of, dG "fan" s_fan, dG "hands_of" s_hands_of, dG "strip_order" s_strip_order, dG "order_of_stack" s_order_of_stack, dG "row_of" s_row_of, dG "turned_over" s_turned_over, dG "check_place" s_check_place] : List He.DefD) ++ ([dG "check_way" s_check_way, dG "check_word_of_way" s_check_word_of_way, dG "corner_at" s_corner_at, dG "pinch" s_pinch, dG "unpinch" s_unpinch, dG "place_behind" s_place_behind, dG "stacks" s_stacks, dG "upright" s_upright, dG "middles" s_middles, dG "check_lie" s_check_lie, dG "ring" s_ring, dG "heaps" s_heaps] : List He.DefD) ++ ([dG "places_behind" s_places_behind, dG "copies_of" s_copies_of, dG "new_paper" s_new_paper, dG "check_folded" s_check_folded, dG "pinched" s_pinched, dG "unpinched" s_unpinched, dG "place_of" s_place_of, dG "moved" s_moved, dG "lying" s_lying, dG "put_over" s_put_over, dG "put_about" s_put_about, dG "painted" s_painted] : List He.DefD) ++ ([dG "top_of_slot" s_top_of_slot, dG "on_leaf" s_on_leaf, dG "with_leaf" s_with_leaf, dG "marked" s_marked] : List He.DefD), ts := [] }
def hP1 : Pt := { ex := ([fun K => (He.Fa.glo "is_letter").ok K, fun K => (He.Fa.glo "washed").ok K, fun K => (He.Fa.glo "unfolded").ok K, fun K => (He.Fa.glo "refolded").ok K, fun K => (He.Fa.glo "changed").ok K, fun K => (He.Fa.glo "seen_on_top").ok K, fun K => (He.Fa.glo "with_leaves").ok K, fun K => (He.Fa.glo "letters_as_seen").ok K, fun K => (He.Fa.glo "is_name").ok K, fun K => (He.Fa.glo "check_deed").ok K, fun K => (He.Fa.int "LEAST_FACES" 3).ok K, fun K => (He.Fa.int "MOST_FACES" 40).ok K] : List (Fg → Bool)) ++ ([fun K => (He.Fa.int "MOST_PAPERS" 12).ok K, fun K => (He.Fa.int "LONGEST_NAME" 8).ok K, fun K => (He.Fa.str "LETTERS" "abcdefghijklmnopqrstuvwxyz").ok K, fun K => tupA (fun K => He.ga K "WAYS") [.str "even", .str "odd"] K, fun K => (He.Fa.glo "WAYS").ok K, fun K => tupA (fun K => He.ga K "COLOURS") [.str "red", .str "blue", .str "gold"] K, fun K => (He.Fa.glo "COLOURS").ok K, fun K => tupA (fun K => He.ga K "BARE") [.str "", .str "---"] K, fun K => (He.Fa.glo "BARE").ok K, fun K => tupA (fun K => He.ga K "FIRST_LIE") [.int 0, .int 1, .int 0] K, fun K => (He.Fa.glo "FIRST_LIE").ok K, fun K => (He.Fa.glo "_law_colours_stand").ok K] : List (Fg → Bool)) ++ ([fun K => (He.Fa.glo "_law_do").ok K, fun K => (He.Fa.glo "_law_kin").ok K, fun K => (He.Fa.glo "BadDeed").ok K, fun K => (He.Fa.exc "BadDeed").ok K, fun K => PySem.W.isClsIn K (He.ga K "BadDeed"), fun K => (He.Fa.glo "BadName").ok K, fun K => (He.Fa.exc "BadName").ok K, fun K => PySem.W.isClsIn K (He.ga K "BadName"), fun K => (He.Fa.glo "Taken").ok K, fun K => (He.Fa.exc "Taken").ok K, fun K => PySem.W.isClsIn K (He.ga K "Taken"), fun K => (He.Fa.glo "BadPlan").ok K] : List (Fg → Bool)) ++ ([fun K => (He.Fa.exc "BadPlan").ok K, fun K => PySem.W.isClsIn K (He.ga K "BadPlan"), fun K => (He.Fa.glo "Full").ok K, fun K => (He.Fa.exc "Full").ok K, fun K => PySem.W.isClsIn K (He.ga K "Full"), fun K => (He.Fa.glo "NoPaper").ok K, fun K => (He.Fa.exc "NoPaper").ok K, fun K => PySem.W.isClsIn K (He.ga K "NoPaper"), fun K => (He.Fa.glo "Unfolded").ok K, fun K => (He.Fa.exc "Unfolded").ok K, fun K => PySem.W.isClsIn K (He.ga K "Unfolded"), fun K => (He.Fa.glo "BadWay").ok K] : List (Fg → Bool)) ++ ([fun K => (He.Fa.exc "BadWay").ok K, fun K => PySem.W.isClsIn K (He.ga K "BadWay"), fun K => (He.Fa.glo "NoPinch").ok K, fun K => (He.Fa.exc "NoPinch").ok K, fun K => PySem.W.isClsIn K (He.ga K "NoPinch"), fun K => (He.Fa.glo "BadSlot").ok K, fun K => (He.Fa.exc "BadSlot").ok K, fun K => PySem.W.isClsIn K (He.ga K "BadSlot"), fun K => (He.Fa.glo "BadColour").ok K, fun K => (He.Fa.exc "BadColour").ok K, fun K => PySem.W.isClsIn K (He.ga K "BadColour"), fun K => (He.Fa.glo "BadLetter").ok K] : List (Fg → Bool)) ++ ([fun K => (He.Fa.exc "BadLetter").ok K, fun K => PySem.W.isClsIn K (He.ga K "BadLetter"), fun K => (He.Fa.glo "Folded").ok K, fun K => (He.Fa.exc "Folded").ok K, fun K => PySem.W.isClsIn K (He.ga K "Folded"), fun K => (He.Fa.glo "BadNumber").ok K, fun K => (He.Fa.exc "BadNumber").ok K, fun K => PySem.W.isClsIn K (He.ga K "BadNumber"), fun K => (He.Fa.glo "BadStep").ok K, fun K => (He.Fa.exc "BadStep").ok K, fun K => PySem.W.isClsIn K (He.ga K "BadStep"), fun K => (He.Fa.glo "NoBack").ok K] : List (Fg → Bool)) ++ ([fun K => (He.Fa.exc "NoBack").ok K, fun K => PySem.W.isClsIn K (He.ga K "NoBack"), fun K => (He.Fa.glo "PinchError").ok K, fun K => (He.Fa.exc "PinchError").ok K, fun K => PySem.W.isClsIn K (He.ga K "PinchError"), fun K => bltB K, fun K => He.valsB K (He.ga K "OTHER_HAND") [("r", .str "l"), ("l", .str "r")], fun K => (He.Fa.glo "OTHER_HAND").ok K] : List (Fg → Bool)), fn := ([dG "is_letter" s_is_letter, dG "washed" s_washed, dG "unfolded" s_unfolded, dG "refolded" s_refolded, dG "changed" s_changed, dG "seen_on_top" s_seen_on_top, dG "with_leaves" s_with_leaves, dG "letters_as_seen" s_letters_as_seen, dG "is_name" s_is_name, dG "check_deed" s_check_deed, dG "_law_colours_stand" s__law_colours_stand, dG "_law_do" s__law_do] : List He.DefD) ++ ([dG "_law_kin" s__law_kin] : List He.DefD), ts := ([(fun K => He.ga K "OTHER_HAND", ["r", "l"]), (fun K => He.ga K "CHANGES", ["pinch", "unpinch", "over", "about", "paint", "mark", "wash", "unfold", "refold"])] : List He.Tab) }
def hP2 : Pt := { ex := ([fun K => He.valsB K (He.ga K "CHANGES") [("pinch", .glo "pinched"), ("unpinch", .glo "unpinched"), ("over", .glo "put_over"), ("about", .glo "put_about"), ("paint", .glo "painted"), ("mark", .glo "marked"), ("wash", .glo "washed"), ("unfold", .glo "unfolded"), ("refold", .glo "refolded")], fun K => (He.Fa.glo "CHANGES").ok K, fun K => He.valsB K (He.ga K "THINGS") [("fold", .adr (vA (fun K => He.ga K "THINGS") "fold")), ("drop", .adr (vA (fun K => He.ga K "THINGS") "drop")), ("pinch", .adr (vA (fun K => He.ga K "THINGS") "pinch")), ("unpinch", .adr (vA (fun K => He.ga K "THINGS") "unpinch")), ("over", .adr (vA (fun K => He.ga K "THINGS") "over")), ("about", .adr (vA (fun K => He.ga K "THINGS") "about")), ("paint", .adr (vA (fun K => He.ga K "THINGS") "paint")), ("mark", .adr (vA (fun K => He.ga K "THINGS") "mark")), ("wash", .adr (vA (fun K => He.ga K "THINGS") "wash")), ("unfold", .adr (vA (fun K => He.ga K "THINGS") "unfold")), ("refold", .adr (vA (fun K => He.ga K "THINGS") "refold"))], fun K => tupA (vA (fun K => He.ga K "THINGS") "fold") [.str "name", .str "plan"] K, fun K => tupA (vA (fun K => He.ga K "THINGS") "drop") [.str "name"] K, fun K => tupA (vA (fun K => He.ga K "THINGS") "pinch") [.str "name", .str "way"] K, fun K => tupA (vA (fun K => He.ga K "THINGS") "unpinch") [.str "name", .str "way"] K, fun K => tupA (vA (fun K => He.ga K "THINGS") "over") [.str "name"] K, fun K => tupA (vA (fun K => He.ga K "THINGS") "about") [.str "name"] K, fun K => tupA (vA (fun K => He.ga K "THINGS") "paint") [.str "name", .str "slot", .str "colour"] K, fun K => tupA (vA (fun K => He.ga K "THINGS") "mark") [.str "name", .str "slot", .str "letter"] K, fun K => tupA (vA (fun K => He.ga K "THINGS") "wash") [.str "name", .str "slot"] K] : List (Fg → Bool)) ++ ([fun K => tupA (vA (fun K => He.ga K "THINGS") "unfold") [.str "name"] K, fun K => tupA (vA (fun K => He.ga K "THINGS") "refold") [.str "name", .str "plan"] K, fun K => (He.Fa.glo "THINGS").ok K, fun K => (He.Fa.cls "Paper").ok K, fun K => (He.Fa.noat "Paper" "letters_of_row").ok K, fun K => (He.Fa.noat "Paper" "folded_by").ok K, fun K => (He.Fa.noat "Paper" "lies_at").ok K, fun K => (He.Fa.noat "Paper" "leaves").ok K, fun K => (He.Fa.glo "Paper").ok K, fun K => (He.Fa.mkr "Paper").ok K, fun K => (He.Fa.cls "House").ok K, fun K => (He.Fa.noat "House" "papers").ok K] : List (Fg → Bool)) ++ ([fun K => (He.Fa.noat "House" "stand").ok K, fun K => (He.Fa.noat "House" "taken_back").ok K, fun K => (He.Fa.glo "House").ok K, fun K => (He.Fa.mkr "House").ok K, fun K => (He.Fa.meth "House" "__len__").ok K, fun K => (He.Fa.meth "House" "do").ok K, fun K => (He.Fa.meth "House" "paper_behind").ok K, fun K => (He.Fa.meth "House" "paper_to_add").ok K, fun K => (He.Fa.meth "House" "paper_named").ok K, fun K => (He.Fa.meth "House" "put").ok K, fun K => (He.Fa.meth "House" "back").ok K, fun K => (He.Fa.meth "House" "again").ok K] : List (Fg → Bool)) ++ ([fun K => (He.Fa.meth "House" "deeds").ok K, fun K => (He.Fa.meth "House" "twin").ok K, fun K => (He.Fa.meth "House" "names").ok K, fun K => (He.Fa.meth "House" "folded").ok K, fun K => (He.Fa.meth "House" "row").ok K, fun K => (He.Fa.meth "House" "plan").ok K] : List (Fg → Bool)), fn := ([dM "Paper" "__init__" "Paper.__init__" s_Paper___init__, dM "House" "__init__" "House.__init__" s_House___init__, dM "House" "__len__" "House.__len__" s_House___len__, dM "House" "do" "House.do" s_House_do, dM "House" "paper_behind" "House.paper_behind" s_House_paper_behind, dM "House" "paper_to_add" "House.paper_to_add" s_House_paper_to_add, dM "House" "paper_named" "House.paper_named" s_House_paper_named, dM "House" "put" "House.put" s_House_put, dM "House" "back" "House.back" s_House_back, dM "House" "again" "House.again" s_House_again, dM "House" "deeds" "House.deeds" s_House_deeds, dM "House" "twin" "House.twin" s_House_twin] : List He.DefD) ++ ([dM "House" "names" "House.names" s_House_names, dM "House" "folded" "House.folded" s_House_folded, dM "House" "row" "House.row" s_House_row, dM "House" "plan" "House.plan" s_House_plan] : List He.DefD), ts := ([(fun K => He.ga K "THINGS", ["fold", "drop", "pinch", "unpinch", "over", "about", "paint", "mark", "wash", "unfold", "refold"])] : List He.Tab) }
def hP3 : Pt := { ex := ([fun K => (He.Fa.meth "House" "lie").ok K, fun K => (He.Fa.meth "House" "seen").ok K, fun K => (He.Fa.meth "House" "beneath").ok K, fun K => (He.Fa.meth "House" "leaf").ok K, fun K => okXs K (He.ga K "PinchError") [He.ga K "BadDeed", He.ga K "BadName", He.ga K "Taken", He.ga K "BadPlan", He.ga K "Full", He.ga K "NoPaper", He.ga K "Unfolded", He.ga K "BadWay", He.ga K "NoPinch", He.ga K "BadSlot", He.ga K "BadColour", He.ga K "BadLetter", He.ga K "Folded", He.ga K "OtherRow", He.ga K "BadNumber", He.ga K "BadStep", He.ga K "NoBack"], fun K => (He.Fa.free "ValueError").ok K, fun K => (He.Fa.glo "OtherRow").ok K, fun K => (He.Fa.glo "law").ok K] : List (Fg → Bool)), fn := ([dM "House" "lie" "House.lie" s_House_lie, dM "House" "seen" "House.seen" s_House_seen, dM "House" "beneath" "House.beneath" s_House_beneath, dM "House" "leaf" "House.leaf" s_House_leaf, dG "law" s_law] : List He.DefD), ts := [] }
def hPs : List Pt := [hP0, hP1, hP2, hP3]
theorem hS_false (w : World) : SeenEq HR (PySem.W.view HR.prog [111]) 30000 hLo (w.withFollow "special-get-raises" false) := fun os => by kernel_rfl
theorem hS_true (w : World) : SeenEq HR (PySem.W.view HR.prog [111]) 30000 hLo (w.withFollow "special-get-raises" true) := fun os => by kernel_rfl
theorem hS (w : World) : SeenEq HR (PySem.W.view HR.prog [111]) 30000 hLo w := PySem.W.byRow2 "special-get-raises" (P := fun w => SeenEq HR (PySem.W.view HR.prog [111]) 30000 hLo w) hS_false hS_true w
theorem hE0_false (w : World) : PtEq HR.prog 30000 hAs hP0 (w.withFollow "special-get-raises" false) := fun os => by kernel_rfl
theorem hE0_true (w : World) : PtEq HR.prog 30000 hAs hP0 (w.withFollow "special-get-raises" true) := fun os => by kernel_rfl
theorem hE0 (w : World) : PtEq HR.prog 30000 hAs hP0 w := PySem.W.byRow2 "special-get-raises" (P := fun w => PtEq HR.prog 30000 hAs hP0 w) hE0_false hE0_true w
theorem hE1_false (w : World) : PtEq HR.prog 30000 hAs hP1 (w.withFollow "special-get-raises" false) := fun os => by kernel_rfl
theorem hE1_true (w : World) : PtEq HR.prog 30000 hAs hP1 (w.withFollow "special-get-raises" true) := fun os => by kernel_rfl
theorem hE1 (w : World) : PtEq HR.prog 30000 hAs hP1 w := PySem.W.byRow2 "special-get-raises" (P := fun w => PtEq HR.prog 30000 hAs hP1 w) hE1_false hE1_true w
theorem hE2_false (w : World) : PtEq HR.prog 30000 hAs hP2 (w.withFollow "special-get-raises" false) := fun os => by kernel_rfl
theorem hE2_true (w : World) : PtEq HR.prog 30000 hAs hP2 (w.withFollow "special-get-raises" true) := fun os => by kernel_rfl
theorem hE2 (w : World) : PtEq HR.prog 30000 hAs hP2 w := PySem.W.byRow2 "special-get-raises" (P := fun w => PtEq HR.prog 30000 hAs hP2 w) hE2_false hE2_true w
theorem hE3_false (w : World) : PtEq HR.prog 30000 hAs hP3 (w.withFollow "special-get-raises" false) := fun os => by kernel_rfl
theorem hE3_true (w : World) : PtEq HR.prog 30000 hAs hP3 (w.withFollow "special-get-raises" true) := fun os => by kernel_rfl
theorem hE3 (w : World) : PtEq HR.prog 30000 hAs hP3 w := PySem.W.byRow2 "special-get-raises" (P := fun w => PtEq HR.prog 30000 hAs hP3 w) hE3_false hE3_true w
theorem hRun (w : World) : HandSHeadRun.RunEq HR (PySem.W.view HR.prog [111]) (hkP hAs hPs) (fun s => hPs.map fun p => ptK p (He.frG (HandSHeadRun.getT s) hAs)) 30000 hLo w :=
  run_of (hS w) fun p hp => by
    simp only [hPs, List.mem_cons, List.not_mem_nil, or_false] at hp
    rcases hp with rfl | rfl | rfl | rfl
    · exact hE0 w
    · exact hE1 w
    · exact hE2 w
    · exact hE3 w
theorem hFacts {P : Program} {w : World} {K : Fg} {h : Heap} {mg : Str → Option Value} {fa : Addr} (X : K.In h) (G : h.Ns mainGlobals mg) (hfa : mg "law" = some (.ref fa)) (c : (hPs.map fun p => ptK p K) = hPs.map fun p => ptV p w) :
    ∃ fd : FuncData, (∀ (s : Shared) (v : Value), BindsTo s fd ⟨[v], []⟩ [("_law_script", v)]) ∧ ∀ base : Heap, K.In base → base.Ns mainGlobals mg → FnOk P w K mg base CX0 52 fa fd ["_law_script"] (spLaw K) := by
  have c0 : ptK hP0 K = ptV hP0 w := Pt.of c 0 rfl
  have c1 : ptK hP1 K = ptV hP1 w := Pt.of c 1 rfl
  have c2 : ptK hP2 K = ptV hP2 w := Pt.of c 2 rfl
  have c3 : ptK hP3 K = ptV hP3 w := Pt.of c 3 rfl
  have T0 : Tx K mg "_law_bag" ["_law_script"] s__law_bag := tx_h X G (Pt.fact c0 0 rfl) (Pt.def_ c0 0 rfl) (fun _ _ _ _ _ _ us hl => match us, hl with | [_], _ => rfl)
  have T1 : Tx K mg "_law_pull" ["_law_bag_here", "_law_many"] s__law_pull := tx_h X G (Pt.fact c0 1 rfl) (Pt.def_ c0 1 rfl) (fun _ _ _ _ _ _ us hl => match us, hl with | [_, _], _ => rfl)
  have T2 : Tx K mg "_law_alike" ["_law_found", "_law_due"] s__law_alike := tx_h X G (Pt.fact c0 2 rfl) (Pt.def_ c0 2 rfl) (fun _ _ _ _ _ _ us hl => match us, hl with | [_, _], _ => rfl)
  have T3 : Tx K mg "_law_whole" ["_law_found"] s__law_whole := tx_h X G (Pt.fact c0 3 rfl) (Pt.def_ c0 3 rfl) (fun _ _ _ _ _ _ us hl => match us, hl with | [_], _ => rfl)
  have T4 : Tx K mg "_law_pair" ["_law_one", "_law_other"] s__law_pair := tx_h X G (Pt.fact c0 4 rfl) (Pt.def_ c0 4 rfl) (fun _ _ _ _ _ _ us hl => match us, hl with | [_, _], _ => rfl)
  have T5 : Tx K mg "_law_plan" ["_law_bag_here", "_law_most"] s__law_plan := tx_h X G (Pt.fact c0 5 rfl) (Pt.def_ c0 5 rfl) (fun _ _ _ _ _ _ us hl => match us, hl with | [_, _], _ => rfl)
  have T6 : Tx K mg "_law_drawn_plan" ["_law_bag_here", "_law_faces"] s__law_drawn_plan := tx_h X G (Pt.fact c0 6 rfl) (Pt.def_ c0 6 rfl) (fun _ _ _ _ _ _ us hl => match us, hl with | [_, _], _ => rfl)
  have T7 : Tx K mg "_law_cut_arc" ["_law_bag_here", "_law_start", "_law_end", "_law_found"] s__law_cut_arc := tx_h X G (Pt.fact c0 7 rfl) (Pt.def_ c0 7 rfl) (fun _ _ _ _ _ _ us hl => match us, hl with | [_, _, _, _], _ => rfl)
  have T8 : Tx K mg "is_plan" ["plan"] s_is_plan := tx_h X G (Pt.fact c0 8 rfl) (Pt.def_ c0 8 rfl) (fun _ _ _ _ _ _ us hl => match us, hl with | [_], _ => rfl)
  have T9 : Tx K mg "is_cut" ["faces", "low", "high"] s_is_cut := tx_h X G (Pt.fact c0 9 rfl) (Pt.def_ c0 9 rfl) (fun _ _ _ _ _ _ us hl => match us, hl with | [_, _, _], _ => rfl)
  have T10 : Tx K mg "rising" ["cuts"] s_rising := tx_h X G (Pt.fact c0 10 rfl) (Pt.def_ c0 10 rfl) (fun _ _ _ _ _ _ us hl => match us, hl with | [_], _ => rfl)
  have T11 : Tx K mg "crossing" ["cuts"] s_crossing := tx_h X G (Pt.fact c0 11 rfl) (Pt.def_ c0 11 rfl) (fun _ _ _ _ _ _ us hl => match us, hl with | [_], _ => rfl)
  have T12 : Tx K mg "check_plan" ["plan"] s_check_plan := tx_h X G (Pt.fact c0 12 rfl) (Pt.def_ c0 12 rfl) (fun _ _ _ _ _ _ us hl => match us, hl with | [_], _ => rfl)
  have T13 : Tx K mg "lines" ["plan"] s_lines := tx_h X G (Pt.fact c0 13 rfl) (Pt.def_ c0 13 rfl) (fun _ _ _ _ _ _ us hl => match us, hl with | [_], _ => rfl)
  have T14 : Tx K mg "low_first" ["one", "other"] s_low_first := tx_h X G (Pt.fact c0 14 rfl) (Pt.def_ c0 14 rfl) (fun _ _ _ _ _ _ us hl => match us, hl with | [_, _], _ => rfl)
  have T15 : Tx K mg "parts" ["plan"] s_parts := tx_h X G (Pt.fact c0 15 rfl) (Pt.def_ c0 15 rfl) (fun _ _ _ _ _ _ us hl => match us, hl with | [_], _ => rfl)
  have T16 : Tx K mg "thirds_of" ["plan"] s_thirds_of := tx_h X G (Pt.fact c0 16 rfl) (Pt.def_ c0 16 rfl) (fun _ _ _ _ _ _ us hl => match us, hl with | [_], _ => rfl)
  have T17 : Tx K mg "fan" ["plan", "face"] s_fan := tx_h X G (Pt.fact c0 17 rfl) (Pt.def_ c0 17 rfl) (fun _ _ _ _ _ _ us hl => match us, hl with | [_, _], _ => rfl)
  have T18 : Tx K mg "hands_of" ["thirds"] s_hands_of := tx_h X G (Pt.fact c0 18 rfl) (Pt.def_ c0 18 rfl) (fun _ _ _ _ _ _ us hl => match us, hl with | [_], _ => rfl)
  have T19 : Tx K mg "strip_order" ["plan"] s_strip_order := tx_h X G (Pt.fact c0 19 rfl) (Pt.def_ c0 19 rfl) (fun _ _ _ _ _ _ us hl => match us, hl with | [_], _ => rfl)
  have T20 : Tx K mg "order_of_stack" ["thirds", "start", "end", "straight"] s_order_of_stack := tx_h X G (Pt.fact c0 20 rfl) (Pt.def_ c0 20 rfl) (fun _ _ _ _ _ _ us hl => match us, hl with | [_, _, _, _], _ => rfl)
  have T21 : Tx K mg "row_of" ["plan"] s_row_of := tx_h X G (Pt.fact c0 21 rfl) (Pt.def_ c0 21 rfl) (fun _ _ _ _ _ _ us hl => match us, hl with | [_], _ => rfl)
  have T22 : Tx K mg "turned_over" ["place"] s_turned_over := tx_h X G (Pt.fact c0 22 rfl) (Pt.def_ c0 22 rfl) (fun _ _ _ _ _ _ us hl => match us, hl with | [_], _ => rfl)
  have T23 : Tx K mg "check_place" ["plan", "place"] s_check_place := tx_h X G (Pt.fact c0 23 rfl) (Pt.def_ c0 23 rfl) (fun _ _ _ _ _ _ us hl => match us, hl with | [_, _], _ => rfl)
  have T24 : Tx K mg "check_way" ["plan", "place", "way"] s_check_way := tx_h X G (Pt.fact c0 24 rfl) (Pt.def_ c0 24 rfl) (fun _ _ _ _ _ _ us hl => match us, hl with | [_, _, _], _ => rfl)
  have T25 : Tx K mg "check_word_of_way" ["way"] s_check_word_of_way := tx_h X G (Pt.fact c0 25 rfl) (Pt.def_ c0 25 rfl) (fun _ _ _ _ _ _ us hl => match us, hl with | [_], _ => rfl)
  have T26 : Tx K mg "corner_at" ["thirds", "place", "way"] s_corner_at := tx_h X G (Pt.fact c0 26 rfl) (Pt.def_ c0 26 rfl) (fun _ _ _ _ _ _ us hl => match us, hl with | [_, _, _], _ => rfl)
  have T27 : Tx K mg "pinch" ["plan", "place", "way"] s_pinch := tx_h X G (Pt.fact c0 27 rfl) (Pt.def_ c0 27 rfl) (fun _ _ _ _ _ _ us hl => match us, hl with | [_, _, _], _ => rfl)
  have T28 : Tx K mg "unpinch" ["plan", "place", "way"] s_unpinch := tx_h X G (Pt.fact c0 28 rfl) (Pt.def_ c0 28 rfl) (fun _ _ _ _ _ _ us hl => match us, hl with | [_, _, _], _ => rfl)
  have T29 : Tx K mg "place_behind" ["thirds", "place", "word", "way"] s_place_behind := tx_h X G (Pt.fact c0 29 rfl) (Pt.def_ c0 29 rfl) (fun _ _ _ _ _ _ us hl => match us, hl with | [_, _, _, _], _ => rfl)
  have T30 : Tx K mg "stacks" ["plan", "place"] s_stacks := tx_h X G (Pt.fact c0 30 rfl) (Pt.def_ c0 30 rfl) (fun _ _ _ _ _ _ us hl => match us, hl with | [_, _], _ => rfl)
  have T31 : Tx K mg "upright" ["plan", "place"] s_upright := tx_h X G (Pt.fact c0 31 rfl) (Pt.def_ c0 31 rfl) (fun _ _ _ _ _ _ us hl => match us, hl with | [_, _], _ => rfl)
  have T32 : Tx K mg "middles" ["plan", "place"] s_middles := tx_h X G (Pt.fact c0 32 rfl) (Pt.def_ c0 32 rfl) (fun _ _ _ _ _ _ us hl => match us, hl with | [_, _], _ => rfl)
  have T33 : Tx K mg "check_lie" ["plan", "lie"] s_check_lie := tx_h X G (Pt.fact c0 33 rfl) (Pt.def_ c0 33 rfl) (fun _ _ _ _ _ _ us hl => match us, hl with | [_, _], _ => rfl)
  have T34 : Tx K mg "ring" ["plan", "lie"] s_ring := tx_h X G (Pt.fact c0 34 rfl) (Pt.def_ c0 34 rfl) (fun _ _ _ _ _ _ us hl => match us, hl with | [_, _], _ => rfl)
  have T35 : Tx K mg "heaps" ["plan", "lie"] s_heaps := tx_h X G (Pt.fact c0 35 rfl) (Pt.def_ c0 35 rfl) (fun _ _ _ _ _ _ us hl => match us, hl with | [_, _], _ => rfl)
  have T36 : Tx K mg "places_behind" ["order", "even"] s_places_behind := tx_h X G (Pt.fact c0 36 rfl) (Pt.def_ c0 36 rfl) (fun _ _ _ _ _ _ us hl => match us, hl with | [_, _], _ => rfl)
  have T37 : Tx K mg "copies_of" ["leaves", "behind", "begin"] s_copies_of := tx_h X G (Pt.fact c0 37 rfl) (Pt.def_ c0 37 rfl) (fun _ _ _ _ _ _ us hl => match us, hl with | [_, _, _], _ => rfl)
  have T38 : Tx K mg "new_paper" ["plan"] s_new_paper := tx_h X G (Pt.fact c0 38 rfl) (Pt.def_ c0 38 rfl) (fun _ _ _ _ _ _ us hl => match us, hl with | [_], _ => rfl)
  have T39 : Tx K mg "check_folded" ["paper"] s_check_folded := tx_h X G (Pt.fact c0 39 rfl) (Pt.def_ c0 39 rfl) (fun _ _ _ _ _ _ us hl => match us, hl with | [_], _ => rfl)
  have T40 : Tx K mg "pinched" ["paper", "way"] s_pinched := tx_h X G (Pt.fact c0 40 rfl) (Pt.def_ c0 40 rfl) (fun _ _ _ _ _ _ us hl => match us, hl with | [_, _], _ => rfl)
  have T41 : Tx K mg "unpinched" ["paper", "way"] s_unpinched := tx_h X G (Pt.fact c0 41 rfl) (Pt.def_ c0 41 rfl) (fun _ _ _ _ _ _ us hl => match us, hl with | [_, _], _ => rfl)
  have T42 : Tx K mg "place_of" ["paper"] s_place_of := tx_h X G (Pt.fact c0 42 rfl) (Pt.def_ c0 42 rfl) (fun _ _ _ _ _ _ us hl => match us, hl with | [_], _ => rfl)
  have T43 : Tx K mg "moved" ["paper", "place"] s_moved := tx_h X G (Pt.fact c0 43 rfl) (Pt.def_ c0 43 rfl) (fun _ _ _ _ _ _ us hl => match us, hl with | [_, _], _ => rfl)
  have T44 : Tx K mg "lying" ["paper", "lie"] s_lying := tx_h X G (Pt.fact c0 44 rfl) (Pt.def_ c0 44 rfl) (fun _ _ _ _ _ _ us hl => match us, hl with | [_, _], _ => rfl)
  have T45 : Tx K mg "put_over" ["paper"] s_put_over := tx_h X G (Pt.fact c0 45 rfl) (Pt.def_ c0 45 rfl) (fun _ _ _ _ _ _ us hl => match us, hl with | [_], _ => rfl)
  have T46 : Tx K mg "put_about" ["paper"] s_put_about := tx_h X G (Pt.fact c0 46 rfl) (Pt.def_ c0 46 rfl) (fun _ _ _ _ _ _ us hl => match us, hl with | [_], _ => rfl)
  have T47 : Tx K mg "painted" ["paper", "slot", "colour"] s_painted := tx_h X G (Pt.fact c0 47 rfl) (Pt.def_ c0 47 rfl) (fun _ _ _ _ _ _ us hl => match us, hl with | [_, _, _], _ => rfl)
  have T48 : Tx K mg "top_of_slot" ["paper", "slot"] s_top_of_slot := tx_h X G (Pt.fact c0 48 rfl) (Pt.def_ c0 48 rfl) (fun _ _ _ _ _ _ us hl => match us, hl with | [_, _], _ => rfl)
  have T49 : Tx K mg "on_leaf" ["paper", "copy", "side"] s_on_leaf := tx_h X G (Pt.fact c0 49 rfl) (Pt.def_ c0 49 rfl) (fun _ _ _ _ _ _ us hl => match us, hl with | [_, _, _], _ => rfl)
  have T50 : Tx K mg "with_leaf" ["paper", "copy", "side", "told"] s_with_leaf := tx_h X G (Pt.fact c0 50 rfl) (Pt.def_ c0 50 rfl) (fun _ _ _ _ _ _ us hl => match us, hl with | [_, _, _, _], _ => rfl)
  have T51 : Tx K mg "marked" ["paper", "slot", "letter"] s_marked := tx_h X G (Pt.fact c0 51 rfl) (Pt.def_ c0 51 rfl) (fun _ _ _ _ _ _ us hl => match us, hl with | [_, _, _], _ => rfl)
  have T52 : Tx K mg "is_letter" ["text"] s_is_letter := tx_h X G (Pt.fact c1 0 rfl) (Pt.def_ c1 0 rfl) (fun _ _ _ _ _ _ us hl => match us, hl with | [_], _ => rfl)
  have T53 : Tx K mg "washed" ["paper", "slot"] s_washed := tx_h X G (Pt.fact c1 1 rfl) (Pt.def_ c1 1 rfl) (fun _ _ _ _ _ _ us hl => match us, hl with | [_, _], _ => rfl)
  have T54 : Tx K mg "unfolded" ["paper"] s_unfolded := tx_h X G (Pt.fact c1 2 rfl) (Pt.def_ c1 2 rfl) (fun _ _ _ _ _ _ us hl => match us, hl with | [_], _ => rfl)
  have T55 : Tx K mg "refolded" ["paper", "plan"] s_refolded := tx_h X G (Pt.fact c1 3 rfl) (Pt.def_ c1 3 rfl) (fun _ _ _ _ _ _ us hl => match us, hl with | [_, _], _ => rfl)
  have T56 : Tx K mg "changed" ["paper", "word", "things"] s_changed := tx_h X G (Pt.fact c1 4 rfl) (Pt.def_ c1 4 rfl) (fun _ _ _ _ _ _ us hl => match us, hl with | [_, _, _], _ => rfl)
  have T57 : Tx K mg "seen_on_top" ["paper"] s_seen_on_top := tx_h X G (Pt.fact c1 5 rfl) (Pt.def_ c1 5 rfl) (fun _ _ _ _ _ _ us hl => match us, hl with | [_], _ => rfl)
  have T58 : Tx K mg "with_leaves" ["paper", "tops"] s_with_leaves := tx_h X G (Pt.fact c1 6 rfl) (Pt.def_ c1 6 rfl) (fun _ _ _ _ _ _ us hl => match us, hl with | [_, _], _ => rfl)
  have T59 : Tx K mg "letters_as_seen" ["letters", "side", "corner"] s_letters_as_seen := tx_h X G (Pt.fact c1 7 rfl) (Pt.def_ c1 7 rfl) (fun _ _ _ _ _ _ us hl => match us, hl with | [_, _, _], _ => rfl)
  have T60 : Tx K mg "is_name" ["text"] s_is_name := tx_h X G (Pt.fact c1 8 rfl) (Pt.def_ c1 8 rfl) (fun _ _ _ _ _ _ us hl => match us, hl with | [_], _ => rfl)
  have T61 : Tx K mg "check_deed" ["deed"] s_check_deed := tx_h X G (Pt.fact c1 9 rfl) (Pt.def_ c1 9 rfl) (fun _ _ _ _ _ _ us hl => match us, hl with | [_], _ => rfl)
  have T62 : Tx K mg "_law_colours_stand" ["_law_house", "_law_names"] s__law_colours_stand := tx_h X G (Pt.fact c1 23 rfl) (Pt.def_ c1 10 rfl) (fun _ _ _ _ _ _ us hl => match us, hl with | [_, _], _ => rfl)
  have T63 : Tx K mg "_law_do" ["_law_house", "_law_deed"] s__law_do := tx_h X G (Pt.fact c1 24 rfl) (Pt.def_ c1 11 rfl) (fun _ _ _ _ _ _ us hl => match us, hl with | [_, _], _ => rfl)
  have T64 : Tx K mg "_law_kin" ["_law_e"] s__law_kin := tx_h X G (Pt.fact c1 25 rfl) (Pt.def_ c1 12 rfl) (fun _ _ _ _ _ _ us hl => match us, hl with | [_], _ => rfl)
  have e_BadDeed : Ecl K mg "BadDeed" (He.ga K "BadDeed") := ecl_h X G (Pt.fact c1 26 rfl) (Pt.fact c1 27 rfl) (Pt.fact c1 28 rfl)
  have e_BadName : Ecl K mg "BadName" (He.ga K "BadName") := ecl_h X G (Pt.fact c1 29 rfl) (Pt.fact c1 30 rfl) (Pt.fact c1 31 rfl)
  have e_Taken : Ecl K mg "Taken" (He.ga K "Taken") := ecl_h X G (Pt.fact c1 32 rfl) (Pt.fact c1 33 rfl) (Pt.fact c1 34 rfl)
  have e_BadPlan : Ecl K mg "BadPlan" (He.ga K "BadPlan") := ecl_h X G (Pt.fact c1 35 rfl) (Pt.fact c1 36 rfl) (Pt.fact c1 37 rfl)
  have e_Full : Ecl K mg "Full" (He.ga K "Full") := ecl_h X G (Pt.fact c1 38 rfl) (Pt.fact c1 39 rfl) (Pt.fact c1 40 rfl)
  have e_NoPaper : Ecl K mg "NoPaper" (He.ga K "NoPaper") := ecl_h X G (Pt.fact c1 41 rfl) (Pt.fact c1 42 rfl) (Pt.fact c1 43 rfl)
  have e_Unfolded : Ecl K mg "Unfolded" (He.ga K "Unfolded") := ecl_h X G (Pt.fact c1 44 rfl) (Pt.fact c1 45 rfl) (Pt.fact c1 46 rfl)
  have e_BadWay : Ecl K mg "BadWay" (He.ga K "BadWay") := ecl_h X G (Pt.fact c1 47 rfl) (Pt.fact c1 48 rfl) (Pt.fact c1 49 rfl)
  have e_NoPinch : Ecl K mg "NoPinch" (He.ga K "NoPinch") := ecl_h X G (Pt.fact c1 50 rfl) (Pt.fact c1 51 rfl) (Pt.fact c1 52 rfl)
  have e_BadSlot : Ecl K mg "BadSlot" (He.ga K "BadSlot") := ecl_h X G (Pt.fact c1 53 rfl) (Pt.fact c1 54 rfl) (Pt.fact c1 55 rfl)
  have e_BadColour : Ecl K mg "BadColour" (He.ga K "BadColour") := ecl_h X G (Pt.fact c1 56 rfl) (Pt.fact c1 57 rfl) (Pt.fact c1 58 rfl)
  have e_BadLetter : Ecl K mg "BadLetter" (He.ga K "BadLetter") := ecl_h X G (Pt.fact c1 59 rfl) (Pt.fact c1 60 rfl) (Pt.fact c1 61 rfl)
  have e_Folded : Ecl K mg "Folded" (He.ga K "Folded") := ecl_h X G (Pt.fact c1 62 rfl) (Pt.fact c1 63 rfl) (Pt.fact c1 64 rfl)
  have e_BadNumber : Ecl K mg "BadNumber" (He.ga K "BadNumber") := ecl_h X G (Pt.fact c1 65 rfl) (Pt.fact c1 66 rfl) (Pt.fact c1 67 rfl)
  have e_BadStep : Ecl K mg "BadStep" (He.ga K "BadStep") := ecl_h X G (Pt.fact c1 68 rfl) (Pt.fact c1 69 rfl) (Pt.fact c1 70 rfl)
  have e_NoBack : Ecl K mg "NoBack" (He.ga K "NoBack") := ecl_h X G (Pt.fact c1 71 rfl) (Pt.fact c1 72 rfl) (Pt.fact c1 73 rfl)
  have e_PinchError : Ecl K mg "PinchError" (He.ga K "PinchError") := ecl_h X G (Pt.fact c1 74 rfl) (Pt.fact c1 75 rfl) (Pt.fact c1 76 rfl)
  have t_OTHER_HAND := (Pt.tab c1 0 rfl)
  have t_CHANGES := (Pt.tab c1 1 rfl)
  have t_THINGS := (Pt.tab c2 0 rfl)
  have ppCL : Cls K (He.ga K "Paper") := He.cls_ok (Pt.fact c2 15 rfl)
  have ppT0 : TxN K mg "Paper" (He.ga K "Paper") "Paper.__init__" ["self", "letters_of_row", "folded_by", "lies_at", "leaves"] s_Paper___init__ := txn_h X G (Pt.fact c2 20 rfl) (Pt.fact c2 21 rfl) (Pt.def_ c2 0 rfl) (fun _ _ _ _ _ _ us hl => match us, hl with | [_, _, _, _, _], _ => rfl)
  have hhCL : Cls K (He.ga K "House") := He.cls_ok (Pt.fact c2 22 rfl)
  have hhT0 : TxN K mg "House" (He.ga K "House") "House.__init__" ["self"] s_House___init__ := txn_h X G (Pt.fact c2 26 rfl) (Pt.fact c2 27 rfl) (Pt.def_ c2 1 rfl) (fun _ _ _ _ _ _ us hl => match us, hl with | [_], _ => rfl)
  have hhT1 : TxM K (He.ga K "House") "__len__" "House.__len__" ["self"] s_House___len__ := txm_h (Pt.fact c2 28 rfl) (Pt.def_ c2 2 rfl) (fun _ _ _ _ _ _ us hl => match us, hl with | [_], _ => rfl)
  have hhT2 : TxM K (He.ga K "House") "do" "House.do" ["self", "deed"] s_House_do := txm_h (Pt.fact c2 29 rfl) (Pt.def_ c2 3 rfl) (fun _ _ _ _ _ _ us hl => match us, hl with | [_, _], _ => rfl)
  have hhT3 : TxM K (He.ga K "House") "paper_behind" "House.paper_behind" ["self", "deed"] s_House_paper_behind := txm_h (Pt.fact c2 30 rfl) (Pt.def_ c2 4 rfl) (fun _ _ _ _ _ _ us hl => match us, hl with | [_, _], _ => rfl)
  have hhT4 : TxM K (He.ga K "House") "paper_to_add" "House.paper_to_add" ["self", "name", "plan"] s_House_paper_to_add := txm_h (Pt.fact c2 31 rfl) (Pt.def_ c2 5 rfl) (fun _ _ _ _ _ _ us hl => match us, hl with | [_, _, _], _ => rfl)
  have hhT5 : TxM K (He.ga K "House") "paper_named" "House.paper_named" ["self", "name"] s_House_paper_named := txm_h (Pt.fact c2 32 rfl) (Pt.def_ c2 6 rfl) (fun _ _ _ _ _ _ us hl => match us, hl with | [_, _], _ => rfl)
  have hhT6 : TxM K (He.ga K "House") "put" "House.put" ["self", "name", "paper"] s_House_put := txm_h (Pt.fact c2 33 rfl) (Pt.def_ c2 7 rfl) (fun _ _ _ _ _ _ us hl => match us, hl with | [_, _, _], _ => rfl)
  have hhT7 : TxM K (He.ga K "House") "back" "House.back" ["self"] s_House_back := txm_h (Pt.fact c2 34 rfl) (Pt.def_ c2 8 rfl) (fun _ _ _ _ _ _ us hl => match us, hl with | [_], _ => rfl)
  have hhT8 : TxM K (He.ga K "House") "again" "House.again" ["self"] s_House_again := txm_h (Pt.fact c2 35 rfl) (Pt.def_ c2 9 rfl) (fun _ _ _ _ _ _ us hl => match us, hl with | [_], _ => rfl)
  have hhT9 : TxM K (He.ga K "House") "deeds" "House.deeds" ["self"] s_House_deeds := txm_h (Pt.fact c2 36 rfl) (Pt.def_ c2 10 rfl) (fun _ _ _ _ _ _ us hl => match us, hl with | [_], _ => rfl)
  have hhT10 : TxM K (He.ga K "House") "twin" "House.twin" ["self"] s_House_twin := txm_h (Pt.fact c2 37 rfl) (Pt.def_ c2 11 rfl) (fun _ _ _ _ _ _ us hl => match us, hl with | [_], _ => rfl)
  have hhT11 : TxM K (He.ga K "House") "names" "House.names" ["self"] s_House_names := txm_h (Pt.fact c2 38 rfl) (Pt.def_ c2 12 rfl) (fun _ _ _ _ _ _ us hl => match us, hl with | [_], _ => rfl)
  have hhT12 : TxM K (He.ga K "House") "folded" "House.folded" ["self", "name"] s_House_folded := txm_h (Pt.fact c2 39 rfl) (Pt.def_ c2 13 rfl) (fun _ _ _ _ _ _ us hl => match us, hl with | [_, _], _ => rfl)
  have hhT13 : TxM K (He.ga K "House") "row" "House.row" ["self", "name"] s_House_row := txm_h (Pt.fact c2 40 rfl) (Pt.def_ c2 14 rfl) (fun _ _ _ _ _ _ us hl => match us, hl with | [_, _], _ => rfl)
  have hhT14 : TxM K (He.ga K "House") "plan" "House.plan" ["self", "name"] s_House_plan := txm_h (Pt.fact c2 41 rfl) (Pt.def_ c2 15 rfl) (fun _ _ _ _ _ _ us hl => match us, hl with | [_, _], _ => rfl)
  have hhT15 : TxM K (He.ga K "House") "lie" "House.lie" ["self", "name"] s_House_lie := txm_h (Pt.fact c3 0 rfl) (Pt.def_ c3 0 rfl) (fun _ _ _ _ _ _ us hl => match us, hl with | [_, _], _ => rfl)
  have hhT16 : TxM K (He.ga K "House") "seen" "House.seen" ["self", "name"] s_House_seen := txm_h (Pt.fact c3 1 rfl) (Pt.def_ c3 1 rfl) (fun _ _ _ _ _ _ us hl => match us, hl with | [_, _], _ => rfl)
  have hhT17 : TxM K (He.ga K "House") "beneath" "House.beneath" ["self", "name"] s_House_beneath := txm_h (Pt.fact c3 2 rfl) (Pt.def_ c3 2 rfl) (fun _ _ _ _ _ _ us hl => match us, hl with | [_, _], _ => rfl)
  have hhT18 : TxM K (He.ga K "House") "leaf" "House.leaf" ["self", "name", "copy", "side"] s_House_leaf := txm_h (Pt.fact c3 3 rfl) (Pt.def_ c3 3 rfl) (fun _ _ _ _ _ _ us hl => match us, hl with | [_, _, _, _], _ => rfl)
  have UP : TgP K mg (He.ga K "Paper") := ⟨⟨ppCL, He.noat_ok (Pt.fact c2 16 rfl), He.noat_ok (Pt.fact c2 17 rfl), He.noat_ok (Pt.fact c2 18 rfl), He.noat_ok (Pt.fact c2 19 rfl)⟩, ppT0⟩
  have UH : TgH K mg (He.ga K "Paper") (He.ga K "House") := ⟨UP, ⟨hhCL, He.noat_ok (Pt.fact c2 23 rfl), He.noat_ok (Pt.fact c2 24 rfl), He.noat_ok (Pt.fact c2 25 rfl)⟩, hhT0, hhT1, hhT2, hhT3, hhT4, hhT5, hhT6, hhT7, hhT8, hhT9, hhT10, hhT11, hhT12, hhT13, hhT14, hhT15, hhT16, hhT17, hhT18⟩
  have XKK : ExsK K mg (fun k => match k with | .badDeed => He.ga K "BadDeed" | .badName => He.ga K "BadName" | .taken => He.ga K "Taken" | .badPlan => He.ga K "BadPlan" | .full => He.ga K "Full" | .noPaper => He.ga K "NoPaper" | .unfolded => He.ga K "Unfolded" | .badWay => He.ga K "BadWay" | .noPinch => He.ga K "NoPinch" | .badSlot => He.ga K "BadSlot" | .badColour => He.ga K "BadColour" | .badLetter => He.ga K "BadLetter" | .folded => He.ga K "Folded" | .otherRow => He.ga K "OtherRow" | .badNumber => He.ga K "BadNumber" | .badStep => He.ga K "BadStep" | .noBack => He.ga K "NoBack" | _ => He.ga K "BadDeed") (He.ga K "PinchError") := exsK_of ⟨e_BadDeed, e_BadName, e_Taken, e_BadPlan, e_Full, e_NoPaper, e_Unfolded, e_BadWay, e_NoPinch, e_BadSlot, e_BadColour, e_BadLetter, e_Folded, e_BadNumber, e_BadStep, e_NoBack⟩ e_PinchError (He.glo_ok X G (Pt.fact c3 6 rfl)) (He.free_ok X G (Pt.fact c3 5 rfl)) (Pt.fact c3 4 rfl)
  obtain ⟨fdL, FL⟩ := (Pt.def_ c3 4 rfl)
  have e := hfa.symm.trans (He.glo_ok X G (Pt.fact c3 7 rfl))
  cases e
  have FL2 : Fun K "law" "law" s_law (He.ga K "law") fdL := fun_h FL
  have bL := FunD.bindsA (ps := ["_law_script"]) FL fun _ _ _ _ _ _ us hl => match us, hl with | [_], _ => rfl
  exact ⟨fdL, fun s v => bL s [v] rfl, fun base _ _ => d_law FL2 ⟨T0, T1, T2, T3, T4, T5, T6, T7, T8, T9, T10, T11, T12, T13, T14, T15, T16, T17, T18, T19, T20, T21, T22, T23, T24, T25, T26, T27, T28, T29, T30, T31, T32, T33, T34, T35, T36, T37, T38, T39, T40, T41, T42, T43, T44, T45, T46, T47, T48, T49, T50, T51, T52, T53, T54, T55, T56, T57, T58, T59, T60, T61, (He.int_ok X G (Pt.fact c1 10 rfl)), (He.int_ok X G (Pt.fact c1 11 rfl)), (He.int_ok X G (Pt.fact c1 12 rfl)), (He.int_ok X G (Pt.fact c1 13 rfl)), (He.str_ok X G (Pt.fact c1 14 rfl)), ⟨_, He.glo_ok X G (Pt.fact c1 16 rfl), fun H => tupA_ok (Pt.fact c1 15 rfl) H⟩, ⟨_, He.glo_ok X G (Pt.fact c1 18 rfl), fun H => tupA_ok (Pt.fact c1 17 rfl) H⟩, ⟨_, He.glo_ok X G (Pt.fact c1 20 rfl), fun H => tupA_ok (Pt.fact c1 19 rfl) H⟩, ⟨_, He.glo_ok X G (Pt.fact c1 22 rfl), fun H => tupA_ok (Pt.fact c1 21 rfl) H⟩, T62, T63, T64, ⟨_, e_BadDeed⟩, ⟨_, e_BadName⟩, ⟨_, e_Taken⟩, ⟨_, e_BadPlan⟩, ⟨_, e_Full⟩, ⟨_, e_NoPaper⟩, ⟨_, e_Unfolded⟩, ⟨_, e_BadWay⟩, ⟨_, e_NoPinch⟩, ⟨_, e_BadSlot⟩, ⟨_, e_BadColour⟩, ⟨_, e_BadLetter⟩, ⟨_, e_Folded⟩, ⟨_, e_BadNumber⟩, ⟨_, e_BadStep⟩, ⟨_, e_NoBack⟩, ⟨_, e_PinchError⟩, (bl_h X G (Pt.fact c1 77 rfl))⟩ ⟨_, He.glo_ok X G (Pt.fact c1 79 rfl), kdct_h t_OTHER_HAND (Pt.fact c1 78 rfl) 0 rfl, kdct_h t_OTHER_HAND (Pt.fact c1 78 rfl) 1 rfl⟩ ⟨_, He.glo_ok X G (Pt.fact c2 1 rfl), ⟨_, kdct_h t_CHANGES (Pt.fact c2 0 rfl) 0 rfl, He.glo_ok X G (Pt.fact c0 40 rfl)⟩, ⟨_, kdct_h t_CHANGES (Pt.fact c2 0 rfl) 1 rfl, He.glo_ok X G (Pt.fact c0 41 rfl)⟩, ⟨_, kdct_h t_CHANGES (Pt.fact c2 0 rfl) 2 rfl, He.glo_ok X G (Pt.fact c0 45 rfl)⟩, ⟨_, kdct_h t_CHANGES (Pt.fact c2 0 rfl) 3 rfl, He.glo_ok X G (Pt.fact c0 46 rfl)⟩, ⟨_, kdct_h t_CHANGES (Pt.fact c2 0 rfl) 4 rfl, He.glo_ok X G (Pt.fact c0 47 rfl)⟩, ⟨_, kdct_h t_CHANGES (Pt.fact c2 0 rfl) 5 rfl, He.glo_ok X G (Pt.fact c0 51 rfl)⟩, ⟨_, kdct_h t_CHANGES (Pt.fact c2 0 rfl) 6 rfl, He.glo_ok X G (Pt.fact c1 1 rfl)⟩, ⟨_, kdct_h t_CHANGES (Pt.fact c2 0 rfl) 7 rfl, He.glo_ok X G (Pt.fact c1 2 rfl)⟩, ⟨_, kdct_h t_CHANGES (Pt.fact c2 0 rfl) 8 rfl, He.glo_ok X G (Pt.fact c1 3 rfl)⟩⟩ ⟨_, He.glo_ok X G (Pt.fact c2 14 rfl), low_h t_THINGS, fun e he => by
      simp only [kindsL, List.mem_cons, List.not_mem_nil, or_false] at he
      rcases he with rfl | rfl | rfl | rfl | rfl | rfl | rfl | rfl | rfl | rfl | rfl
      · exact ⟨_, kdct_h t_THINGS (Pt.fact c2 2 rfl) 0 rfl, fun H => tupA_ok (Pt.fact c2 3 rfl) H⟩
      · exact ⟨_, kdct_h t_THINGS (Pt.fact c2 2 rfl) 1 rfl, fun H => tupA_ok (Pt.fact c2 4 rfl) H⟩
      · exact ⟨_, kdct_h t_THINGS (Pt.fact c2 2 rfl) 2 rfl, fun H => tupA_ok (Pt.fact c2 5 rfl) H⟩
      · exact ⟨_, kdct_h t_THINGS (Pt.fact c2 2 rfl) 3 rfl, fun H => tupA_ok (Pt.fact c2 6 rfl) H⟩
      · exact ⟨_, kdct_h t_THINGS (Pt.fact c2 2 rfl) 4 rfl, fun H => tupA_ok (Pt.fact c2 7 rfl) H⟩
      · exact ⟨_, kdct_h t_THINGS (Pt.fact c2 2 rfl) 5 rfl, fun H => tupA_ok (Pt.fact c2 8 rfl) H⟩
      · exact ⟨_, kdct_h t_THINGS (Pt.fact c2 2 rfl) 6 rfl, fun H => tupA_ok (Pt.fact c2 9 rfl) H⟩
      · exact ⟨_, kdct_h t_THINGS (Pt.fact c2 2 rfl) 7 rfl, fun H => tupA_ok (Pt.fact c2 10 rfl) H⟩
      · exact ⟨_, kdct_h t_THINGS (Pt.fact c2 2 rfl) 8 rfl, fun H => tupA_ok (Pt.fact c2 11 rfl) H⟩
      · exact ⟨_, kdct_h t_THINGS (Pt.fact c2 2 rfl) 9 rfl, fun H => tupA_ok (Pt.fact c2 12 rfl) H⟩
      · exact ⟨_, kdct_h t_THINGS (Pt.fact c2 2 rfl) 10 rfl, fun H => tupA_ok (Pt.fact c2 13 rfl) H⟩⟩ UH XKK⟩
end Pf
open PySem PySem.W PySem.Calls PyProof.Rows
set_option maxRecDepth 100000 in
set_option maxHeartbeats 0 in
theorem PySem.Challenge.cw_pinchfold_k38_full_houses_holds : PySem.Challenge.rw_pinchfold_k38_full_houses.Holds := by
  w_on; o_law
  refine HandSHeadRun.head_any (r := OpenLaw.row PySem.Challenge.rw_pinchfold_k38_full_houses) (q := view (OpenLaw.row PySem.Challenge.rw_pinchfold_k38_full_houses).prog [111]) (H := Pf.hkP Pf.hAs Pf.hPs) (ob := fun s => Pf.hPs.map fun p => Pf.ptK p (He.frG (HandSHeadRun.getT s) Pf.hAs)) (M := 30000) (loose := Pf.hLo) (d := HandSHeadRun.topDef (OpenLaw.row PySem.Challenge.rw_pinchfold_k38_full_houses).prog 111) (kwd := []) (Pf.obP_eq Pf.hAs Pf.hPs)
    (by kernel_rfl) (fun s => by kernel_rfl) Pf.hRun (by kernel_rfl) (by kernel_rfl) (by kernel_rfl) (by rfl) (by first | assumption | decide +kernel) (by decide +kernel) ⟨rfl, rfl, rfl, rfl, rfl, by decide +kernel⟩ ?hw ?hc
  case hw => w_witness2
  case hc =>
    refine L2.walk_ofE (l := PySem.Challenge.rw_pinchfold_k38_full_houses) (n := 63) (k := 52) (x := "_law_script") (CX := L2.CX0) rfl (by decide) (by kernel_rfl) ⟨rfl, by decide, by decide⟩ ?F (fun _ _ _ _ z => z)
    intro w mg fa h Y G hmg0
    obtain ⟨K, KX, c⟩ := Y
    have hmg : mg ("law" : PySem.Str) = some (.ref fa) := by
      have e : (HandSHeadRun.topDef (OpenLaw.row PySem.Challenge.rw_pinchfold_k38_full_houses).prog 111).name = ("law" : PySem.Str) := by kernel_rfl
      rw [← e]
      exact hmg0
    obtain ⟨fd, hb, hF⟩ := Pf.hFacts (P := (PySem.Challenge.rw_pinchfold_k38_full_houses).prog) (w := w) KX G hmg c
    exact ⟨K, fd, Pf.spLaw K, KX, hb, fun H a ns hl _ hS => ⟨a, ns, rfl, hS, hl, fun _ => rfl⟩, hF⟩


