import PyProof.Rows.All
import Wide.All
import OpenK.AllK
import Wide.FinOn
import HandS.ForMost
import HandS.Wide
import HandS.IsInst
import HandS.Deep
import HandS.SortRule
import HandS.SortInts
import HandS.TupLe
import HandS.Zip
import HandS.Codes
import HandS.TupAny
import HandS.Defaults
import HandS.ForExc
import HandS.TryMany
import HandS.Zip0
import HandS.ExcCtx
import HandS.Conv
import KE.DataMinMax
import KE.SortData
import HandS.TupSets
import HandS.Style
import HandS.EndTab
import HandS.ExcOwn
import KE.KNestM
import KE.KDictDisplayH
import HandS.More
import HandS.TupLen
import PyProof.StrOps2
import HandS.Text
import HandS.FStr
import HandS.Star
import HandS.CallLocal
import HandS.RaiseMore
import HandS.ExcValue
import HandS.WrittenGet
import KE.KUnpackStar
import KE.GoesEnum
import KE.GoesMore
import KE.GoesZip
import HandS.DictComp
import HandS.Comp
import HandS.ExcInit
import HandS.Finally
import HandS.ExcField
import HandS.ReplaceLit
import HandS.ReplaceList
import PyProof.DictUpdate
import HandS.Head0
import HandS.Head1
import HandS.Head2
import HandS.HeadEnd
import HandS.HeadHook1
import HandS.HeadHook2
import HandS.HeadHook3
import PySem.Challenge.RW_pinchfold_k50_texts_of_no_deed
set_option Elab.async false
set_option linter.all false
set_option autoImplicit false
set_option maxRecDepth 100000
set_option maxHeartbeats 4000000
/-! the head by its run alone: what the top leaves is looked at by parts (Pt), each in an equation of its own -/
namespace Pf
open PySem PySem.Spec PyProof.Rows L2
/-- a part of what is looked at: facts, functions, tables -/
structure Pt where
  ex : List (PySem.W.Frag → Bool) := []
  fn : List He.DefD := []
  ts : List He.Tab := []
abbrev AlP : Type := Bool × (List He.FnW × List (Option (List (Option (Str × Int)))))
def ptK (p : Pt) (K : PySem.W.Frag) : AlP := ((p.ex.all fun b => b K) && p.fn.all fun d => d.ok K, p.fn.map fun d => He.fnW K d.at_, p.ts.map fun t => He.dicW K (t.1 K))
def ptV (p : Pt) (w : World) : AlP := (true, p.fn.map He.DefD.val, p.ts.map fun t => some (He.keysIn w.params t.2))
def hkP (as : List Addr) (ps : List Pt) : PySem.W.Hook where
  α := List AlP
  obs := fun s => ps.map fun p => ptK p (He.frG s.heap.get? as)
  val := fun w => ps.map fun p => ptV p w
  says := fun w h => ∃ K : PySem.W.Frag, K.In h ∧ (ps.map fun p => ptK p K) = ps.map fun p => ptV p w
  of := fun _ _ e => ⟨_, He.frG_in, e⟩
  keeps := fun _ _ _ ⟨K, hK, c⟩ k => ⟨K, PySem.W.Frag.In.keeps hK k, c⟩
/-- the run behind the top -/
noncomputable def endP (P : Program) (M : Nat) (w : World) (os : OsState) : Option PySem.W.SharedT := HandSHeadRun.endF (HandSHeadRun.stepQ (HandSHeadRun.denQ HandSHeadRun.tabQ) P w) M P w os
def PtEq (P : Program) (M : Nat) (as : List Addr) (p : Pt) (w : World) : Prop := ∀ os, (endP P M w os).map (fun s => ptK p (He.frG (HandSHeadRun.getT s) as)) = some (ptV p w)
def SeenEq (r : PySem.W.OpenRow) (q : Program) (M : Nat) (loose : List Str) (w : World) : Prop := ∀ os, (endP r.prog M w os).map (fun s => (HandSHeadRun.looksF r.prog (PySem.W.boot_heap w.params) s.abs, HandSHeadRun.seenQ q loose (PySem.importedModules r.prog.main.body) (fun s => PySem.W.xlAt q [] s && PySem.W.recOk r.toRowW.records s) s.abs)) = some (true, PySem.W.openGood q loose)
theorem obP_eq (as : List Addr) (ps : List Pt) (s : PySem.W.SharedT) : (ps.map fun p => ptK p (He.frG (HandSHeadRun.getT s) as)) = (hkP as ps).obs s.abs := by
  have e : HandSHeadRun.getT s = s.abs.heap.get? := funext (HandSHeadRun.getT_eq s)
  rw [e] <;> rfl
theorem run_of {r : PySem.W.OpenRow} {q : Program} {M : Nat} {as : List Addr} {ps : List Pt} {loose : List Str} {w : World} (h : SeenEq r q M loose w) (hp : ∀ p ∈ ps, PtEq r.prog M as p w) :
    HandSHeadRun.RunEq r q (hkP as ps) (fun s => ps.map fun p => ptK p (He.frG (HandSHeadRun.getT s) as)) M loose w := by
  intro os
  have h1 := h os
  have h2 := fun p hq => hp p hq os
  show (endP r.prog M w os).map _ = _
  cases e : endP r.prog M w os with
  | none =>
    rw [e] at h1
    cases h1
  | some s =>
    rw [e] at h1
    have h3 := Option.some.inj h1
    obtain ⟨h4, h5⟩ := Prod.mk.inj h3
    have h7 : (ps.map fun p => ptK p (He.frG (HandSHeadRun.getT s) as)) = ps.map fun p => ptV p w := List.map_congr_left fun p hq => by
      have h6 := h2 p hq
      rw [e] at h6
      exact Option.some.inj h6
    exact congrArg some (Prod.ext h4 (Prod.ext h5 h7))
section
variable {p : Pt} {K : PySem.W.Frag} {w : World}
theorem Pt.fact (c : ptK p K = ptV p w) (i : Nat) {b : PySem.W.Frag → Bool} (h : p.ex[i]? = some b) : b K = true := by
  have c1 := (He.ba (show ((p.ex.all fun b => b K) && p.fn.all fun d => d.ok K) = true from congrArg (fun z : AlP => z.1) c)).1
  exact List.all_eq_true.mp c1 b (List.mem_of_getElem? h)
theorem Pt.def_ (c : ptK p K = ptV p w) (i : Nat) {d : He.DefD} (h : p.fn[i]? = some d) : ∃ fd, FunD K d.name d.qual d.params d.body d.scope (d.dvs K) (d.kws K) (He.fAd K d.at_) fd := by
  have c2 := (He.ba (show ((p.ex.all fun b => b K) && p.fn.all fun d => d.ok K) = true from congrArg (fun z : AlP => z.1) c)).2
  have e : p.fn.map (fun d => He.fnW K d.at_) = p.fn.map He.DefD.val := congrArg (fun z : AlP => z.2.1) c
  have e2 : (p.fn.map fun d => He.fnW K d.at_)[i]? = (p.fn.map He.DefD.val)[i]? := by rw [e]
  rw [List.getElem?_map, List.getElem?_map, h] at e2
  exact He.DefD.funD (Option.some.inj e2) (List.all_eq_true.mp c2 d (List.mem_of_getElem? h))
theorem Pt.tab (c : ptK p K = ptV p w) (i : Nat) {t : He.Tab} (h : p.ts[i]? = some t) : ∃ es n, KDict K w (t.1 K) es n := by
  have e : p.ts.map (fun t => He.dicW K (t.1 K)) = p.ts.map fun t => some (He.keysIn w.params t.2) := congrArg (fun z : AlP => z.2.2) c
  have e2 : (p.ts.map fun t => He.dicW K (t.1 K))[i]? = (p.ts.map fun t => some (He.keysIn w.params t.2))[i]? := by rw [e]
  rw [List.getElem?_map, List.getElem?_map, h] at e2
  exact He.dicW_ok (Option.some.inj e2)
theorem Pt.of {ps : List Pt} (c : (ps.map fun p => ptK p K) = ps.map fun p => ptV p w) (i : Nat) {p : Pt} (h : ps[i]? = some p) : ptK p K = ptV p w := by
  have e2 : (ps.map fun p => ptK p K)[i]? = (ps.map fun p => ptV p w)[i]? := by rw [c]
  rw [List.getElem?_map, List.getElem?_map, h] at e2
  exact Option.some.inj e2
end
/-! ### what is told of it -/
def dG (x : Str) (st : Stmt) (dv : List He.Dv := []) : He.DefD := ⟨(x, none), x, x, defArgs st, defBody st, defScope st, dv, []⟩
def dM (C m qual : Str) (st : Stmt) (dv : List He.Dv := []) : He.DefD := ⟨(C, some m), m, qual, defArgs st, defBody st, defScope st, dv, []⟩
/-- the address at a key of the table at a -/
def vA (a : PySem.W.Frag → Addr) (k : Str) (K : PySem.W.Frag) : Addr := match PySem.W.nsIn K (a K) k with
  | some (some (.ref b)) => b
  | _ => 0
def tupA (a : PySem.W.Frag → Addr) (vs : List He.Dv) (K : PySem.W.Frag) : Bool := match K.lookup (a K) with
  | some ⟨.type c, _, .seq its _, _⟩ => decide (c = "tuple") && (decide (its.size ≤ sizeLine) && He.relAll (vs.map (He.Dv.v K)) its.toList)
  | _ => false
theorem tupA_ok {K : PySem.W.Frag} {a : PySem.W.Frag → Addr} {vs : List He.Dv} (h : tupA a vs K = true) (H : Hp) : SqT K H (a K) (vs.map (He.Dv.v K)) := by
  unfold tupA at h
  cases q : K.lookup (a K) with
  | none =>
    rw [q] at h
    cases h
  | some o =>
    obtain ⟨oc, od, dt, osl⟩ := o
    rw [q] at h
    cases oc with
    | type c =>
      cases dt with
      | seq its n =>
        obtain ⟨h1, h2⟩ := He.ba (show (decide (c = "tuple") && (decide (its.size ≤ sizeLine) && He.relAll (vs.map (He.Dv.v K)) its.toList)) = true from h)
        obtain ⟨h3, h4⟩ := He.ba h2
        exact .inr ⟨_, its, n, q, congrArg Value.type (of_decide_eq_true h1), rfl, of_decide_eq_true h3, He.relAll_ok h4⟩
      | _ => cases h
    | _ => cases dt <;> cases h
def bltB (K : PySem.W.Frag) : Bool := (["len", "range", "sum", "abs", "min", "max", "int", "bool", "str", "list", "tuple", "set", "dict", "sorted", "all", "any", "enumerate", "zip", "reversed", "isinstance", "divmod"] : List Str).all fun x => (He.Fa.free x).ok K
/-! ### what the written part says of the classes of refusals, asked at once -/
def hMem (s : Stmt) (j : Nat) : Stmt := match s with
  | .ClassDef _ _ _ b _ _ _ _ _ _ _ => b.getD j (.Pass ⟨0, 0, 0, 0⟩)
  | _ => .Pass ⟨0, 0, 0, 0⟩
def hOexB (K : PySem.W.Frag) (C : Addr) : Bool := match K.lookup C with
  | some ⟨.type "type", _, .cls cd, sl⟩ => (match cd.mro, sl.toList with
    | .ref C' :: bm, [_, _, _, _, some (.builtin n), _] => C' == C && n == "ValueError.__new__" && !cd.hasDel && cd.hasDict && PySem.HandSPX.refsVE bm
    | _, _ => false)
  | _ => false
/-- the keys of the table at a are among ks -/
def keysB (K : PySem.W.Frag) (a : Addr) (ks : List Str) : Bool := match K.lookup a with
  | some ⟨_, _, .dict es _, _⟩ => es.toList.all fun e => !e.refKey && ks.any fun k => e.key.isStr k
  | _ => false
end Pf

namespace Pf
open PySem PySem.Spec PyProof.Rows L2
def hTop (i : Nat) : Stmt := PySem.Challenge.pw_pinchfold_k50_texts_of_no_deed.main.body.getD i (.Pass ⟨0, 0, 0, 0⟩)
abbrev hs__law_bag : Stmt := hTop 30
abbrev hs__law_pull : Stmt := hTop 41
abbrev hs__law_alike : Stmt := hTop 28
abbrev hs__law_whole : Stmt := hTop 44
abbrev hs__law_pair : Stmt := hTop 37
abbrev hs__law_plan : Stmt := hTop 38
abbrev hs__law_drawn_plan : Stmt := hTop 35
abbrev hs__law_cut_arc : Stmt := hTop 32
abbrev hs__law_any_deed : Stmt := hTop 29
abbrev hs__law_deed_text : Stmt := hTop 33
abbrev hs__law_plan_text : Stmt := hTop 40
abbrev hs__law_bent_text : Stmt := hTop 31
abbrev hs__law_digits : Stmt := hTop 34
abbrev hs__law_good_name : Stmt := hTop 36
abbrev hs__law_plan_read : Stmt := hTop 39
abbrev hs__law_read : Stmt := hTop 42
abbrev hs__law_told_text : Stmt := hTop 43
abbrev hs_is_letter : Stmt := hTop 7
abbrev hs_is_name : Stmt := hTop 11
abbrev hs_read_name : Stmt := hTop 15
abbrev hs_read_way : Stmt := hTop 16
abbrev hs_read_colour : Stmt := hTop 17
abbrev hs_read_letter : Stmt := hTop 18
abbrev hs_read_number : Stmt := hTop 19
abbrev hs_is_number : Stmt := hTop 20
abbrev hs_read_plan : Stmt := hTop 21
abbrev hs_read_cut : Stmt := hTop 22
abbrev hs_read_things : Stmt := hTop 24
abbrev hs_read_thing : Stmt := hTop 25
abbrev hs_read_deed : Stmt := hTop 26
abbrev hs_BadText___init__ : Stmt := hMem (hTop 2) 0
abbrev hs_law : Stmt := hTop 45
abbrev HR : PySem.W.OpenRow := PySem.W.OpenLaw.row PySem.Challenge.rw_pinchfold_k50_texts_of_no_deed
def hLo0 : List Str := ["PinchError", "BadText", "WAYS", "COLOURS", "LETTERS", "is_letter", "LONGEST_NAME", "THINGS", "is_name", "FIGURES", "MOST_FIGURES", "read_name"]
def hLo1 : List Str := ["read_way", "read_colour", "read_letter", "read_number", "is_number", "read_plan", "read_cut", "READERS", "read_things", "read_thing", "read_deed", "_law_alike"]
def hLo2 : List Str := ["_law_any_deed", "_law_bag", "_law_bent_text", "_law_cut_arc", "_law_deed_text", "_law_digits", "_law_drawn_plan", "_law_good_name", "_law_pair", "_law_plan", "_law_plan_read", "_law_plan_text"]
def hLo3 : List Str := ["_law_pull", "_law_read", "_law_told_text", "_law_whole"]
def hLo : List Str := hLo0 ++ hLo1 ++ hLo2 ++ hLo3
def hAs : List Addr := 3 :: List.range' 11 1600
def hP0 : Pt := { ex := ([fun K => (He.Fa.glo "_law_bag").ok K, fun K => (He.Fa.glo "_law_pull").ok K, fun K => (He.Fa.glo "_law_alike").ok K, fun K => (He.Fa.glo "_law_whole").ok K, fun K => (He.Fa.glo "_law_pair").ok K, fun K => (He.Fa.glo "_law_plan").ok K, fun K => (He.Fa.glo "_law_drawn_plan").ok K, fun K => (He.Fa.glo "_law_cut_arc").ok K, fun K => (He.Fa.glo "_law_any_deed").ok K, fun K => (He.Fa.glo "_law_deed_text").ok K, fun K => (He.Fa.glo "_law_plan_text").ok K, fun K => (He.Fa.glo "_law_bent_text").ok K] : List (PySem.W.Frag → Bool)) ++ ([fun K => (He.Fa.glo "_law_digits").ok K, fun K => (He.Fa.glo "_law_good_name").ok K, fun K => (He.Fa.glo "_law_plan_read").ok K, fun K => (He.Fa.glo "_law_read").ok K, fun K => (He.Fa.glo "_law_told_text").ok K, fun K => (He.Fa.glo "is_letter").ok K, fun K => (He.Fa.glo "is_name").ok K, fun K => (He.Fa.glo "read_name").ok K, fun K => (He.Fa.glo "read_way").ok K, fun K => (He.Fa.glo "read_colour").ok K, fun K => (He.Fa.glo "read_letter").ok K, fun K => (He.Fa.glo "read_number").ok K] : List (PySem.W.Frag → Bool)) ++ ([fun K => (He.Fa.glo "is_number").ok K, fun K => (He.Fa.glo "read_plan").ok K, fun K => (He.Fa.glo "read_cut").ok K, fun K => (He.Fa.glo "read_things").ok K, fun K => (He.Fa.glo "read_thing").ok K, fun K => (He.Fa.glo "read_deed").ok K, fun K => (He.Fa.int "LONGEST_NAME" 8).ok K, fun K => (He.Fa.int "MOST_FIGURES" 4).ok K, fun K => (He.Fa.str "LETTERS" "abcdefghijklmnopqrstuvwxyz").ok K, fun K => (He.Fa.str "FIGURES" "0123456789").ok K, fun K => tupA (fun K => He.ga K "WAYS") [.str "even", .str "odd"] K, fun K => (He.Fa.glo "WAYS").ok K] : List (PySem.W.Frag → Bool)) ++ ([fun K => tupA (fun K => He.ga K "COLOURS") [.str "red", .str "blue", .str "gold"] K, fun K => (He.Fa.glo "COLOURS").ok K, fun K => bltB K, fun K => He.valsB K (He.ga K "READERS") [("name", .glo "read_name"), ("plan", .glo "read_plan"), ("way", .glo "read_way"), ("slot", .glo "read_number"), ("colour", .glo "read_colour"), ("letter", .glo "read_letter")], fun K => (He.Fa.glo "READERS").ok K, fun K => He.valsB K (He.ga K "THINGS") [("fold", .adr (vA (fun K => He.ga K "THINGS") "fold")), ("drop", .adr (vA (fun K => He.ga K "THINGS") "drop")), ("pinch", .adr (vA (fun K => He.ga K "THINGS") "pinch")), ("unpinch", .adr (vA (fun K => He.ga K "THINGS") "unpinch")), ("over", .adr (vA (fun K => He.ga K "THINGS") "over")), ("about", .adr (vA (fun K => He.ga K "THINGS") "about")), ("paint", .adr (vA (fun K => He.ga K "THINGS") "paint")), ("mark", .adr (vA (fun K => He.ga K "THINGS") "mark")), ("wash", .adr (vA (fun K => He.ga K "THINGS") "wash")), ("unfold", .adr (vA (fun K => He.ga K "THINGS") "unfold")), ("refold", .adr (vA (fun K => He.ga K "THINGS") "refold"))], fun K => tupA (vA (fun K => He.ga K "THINGS") "fold") [.str "name", .str "plan"] K, fun K => tupA (vA (fun K => He.ga K "THINGS") "drop") [.str "name"] K] : List (PySem.W.Frag → Bool)), fn := ([dG "_law_bag" hs__law_bag, dG "_law_pull" hs__law_pull, dG "_law_alike" hs__law_alike, dG "_law_whole" hs__law_whole, dG "_law_pair" hs__law_pair, dG "_law_plan" hs__law_plan, dG "_law_drawn_plan" hs__law_drawn_plan, dG "_law_cut_arc" hs__law_cut_arc, dG "_law_any_deed" hs__law_any_deed, dG "_law_deed_text" hs__law_deed_text, dG "_law_plan_text" hs__law_plan_text, dG "_law_bent_text" hs__law_bent_text] : List He.DefD) ++ ([dG "_law_digits" hs__law_digits, dG "_law_good_name" hs__law_good_name, dG "_law_plan_read" hs__law_plan_read, dG "_law_read" hs__law_read, dG "_law_told_text" hs__law_told_text, dG "is_letter" hs_is_letter, dG "is_name" hs_is_name, dG "read_name" hs_read_name, dG "read_way" hs_read_way, dG "read_colour" hs_read_colour, dG "read_letter" hs_read_letter, dG "read_number" hs_read_number] : List He.DefD) ++ ([dG "is_number" hs_is_number, dG "read_plan" hs_read_plan, dG "read_cut" hs_read_cut, dG "read_things" hs_read_things, dG "read_thing" hs_read_thing, dG "read_deed" hs_read_deed] : List He.DefD), ts := ([(fun K => He.ga K "READERS", ["name", "plan", "way", "slot", "colour", "letter", "number"]), (fun K => He.ga K "THINGS", ["fold", "drop", "pinch", "unpinch", "over", "about", "paint", "mark", "wash", "unfold", "refold"])] : List He.Tab) }
def hP1 : Pt := { ex := ([fun K => tupA (vA (fun K => He.ga K "THINGS") "pinch") [.str "name", .str "way"] K, fun K => tupA (vA (fun K => He.ga K "THINGS") "unpinch") [.str "name", .str "way"] K, fun K => tupA (vA (fun K => He.ga K "THINGS") "over") [.str "name"] K, fun K => tupA (vA (fun K => He.ga K "THINGS") "about") [.str "name"] K, fun K => tupA (vA (fun K => He.ga K "THINGS") "paint") [.str "name", .str "slot", .str "colour"] K, fun K => tupA (vA (fun K => He.ga K "THINGS") "mark") [.str "name", .str "slot", .str "letter"] K, fun K => tupA (vA (fun K => He.ga K "THINGS") "wash") [.str "name", .str "slot"] K, fun K => tupA (vA (fun K => He.ga K "THINGS") "unfold") [.str "name"] K, fun K => tupA (vA (fun K => He.ga K "THINGS") "refold") [.str "name", .str "plan"] K, fun K => (He.Fa.glo "THINGS").ok K, fun K => (He.Fa.glo "BadText").ok K, fun K => hOexB K (He.ga K "BadText")] : List (PySem.W.Frag → Bool)) ++ ([fun K => He.eqO (PySem.W.findIn K (.ref (He.ga K "BadText")) "__setattr__") (some (some (.builtin "object.__setattr__"))), fun K => decide (PySem.W.subIn K (.ref (He.ga K "BadText")) (.type "BaseException") = some true), fun K => decide (PySem.W.typeIn K (.ref (He.ga K "BadText")) = some (.type "type")), fun K => PySem.W.keepIn K (.ref (He.ga K "BadText")), fun K => (He.Fa.meth "BadText" "__init__").ok K, fun K => decide (PySem.W.typeIn K (.ref (He.ma K (He.ga K "BadText") "__init__")) = some (.type "function")), fun K => (He.Fa.noat "BadText" "at").ok K, fun K => xfB K (He.ga K "BadText"), fun K => decide (PySem.W.exmOne K (.ref (He.ga K "BadText")) (.ref (He.ga K "BadText")) = some true), fun K => keysB K (He.ga K "THINGS") ["fold", "drop", "pinch", "unpinch", "over", "about", "paint", "mark", "wash", "unfold", "refold"], fun K => (He.Fa.glo "law").ok K] : List (PySem.W.Frag → Bool)), fn := ([dM "BadText" "__init__" "BadText.__init__" hs_BadText___init__, dG "law" hs_law] : List He.DefD), ts := [] }
def hPs : List Pt := [hP0, hP1]
theorem hS_false (w : World) : SeenEq HR (PySem.W.view HR.prog [45]) 30000 hLo (w.withFollow "special-get-raises" false) := fun os => by kernel_rfl
theorem hS_true (w : World) : SeenEq HR (PySem.W.view HR.prog [45]) 30000 hLo (w.withFollow "special-get-raises" true) := fun os => by kernel_rfl
theorem hS (w : World) : SeenEq HR (PySem.W.view HR.prog [45]) 30000 hLo w := PySem.W.byRow2 "special-get-raises" (P := fun w => SeenEq HR (PySem.W.view HR.prog [45]) 30000 hLo w) hS_false hS_true w
theorem hE0_false (w : World) : PtEq HR.prog 30000 hAs hP0 (w.withFollow "special-get-raises" false) := fun os => by kernel_rfl
theorem hE0_true (w : World) : PtEq HR.prog 30000 hAs hP0 (w.withFollow "special-get-raises" true) := fun os => by kernel_rfl
theorem hE0 (w : World) : PtEq HR.prog 30000 hAs hP0 w := PySem.W.byRow2 "special-get-raises" (P := fun w => PtEq HR.prog 30000 hAs hP0 w) hE0_false hE0_true w
theorem hE1_false (w : World) : PtEq HR.prog 30000 hAs hP1 (w.withFollow "special-get-raises" false) := fun os => by kernel_rfl
theorem hE1_true (w : World) : PtEq HR.prog 30000 hAs hP1 (w.withFollow "special-get-raises" true) := fun os => by kernel_rfl
theorem hE1 (w : World) : PtEq HR.prog 30000 hAs hP1 w := PySem.W.byRow2 "special-get-raises" (P := fun w => PtEq HR.prog 30000 hAs hP1 w) hE1_false hE1_true w
theorem hRun (w : World) : HandSHeadRun.RunEq HR (PySem.W.view HR.prog [45]) (hkP hAs hPs) (fun s => hPs.map fun p => ptK p (He.frG (HandSHeadRun.getT s) hAs)) 30000 hLo w :=
  run_of (hS w) fun p hp => by
    simp only [hPs, List.mem_cons, List.not_mem_nil, or_false] at hp
    rcases hp with rfl | rfl
    · exact hE0 w
    · exact hE1 w
end Pf

/-! A layer of pure values over the abstract heap. -/
namespace Pf
open PySem PySem.Spec PyProof.Rows L2

abbrev Fg := PySem.W.Frag
/-- beyond G, G' has only what is new to H, or tuples of H, and no table -/
def Nw (G H G' : Hp) : Prop := ∀ a o, G' a = some o → G a = some o ∨ ((H a = none ∨ ∃ vs, o = .tup vs ∧ H a = some o) ∧ ∀ ps, o ≠ .tbl ps)
/-- all but M stays -/
def SB (M : Addr → Prop) (H H' : Hp) : Prop := ∀ a o, ¬ M a → H a = some o → H' a = some o
/-- a step: the still part G grows to G', the heap H becomes H', but for M all of H stays -/
structure Gr (M : Addr → Prop) (G H G' H' : Hp) : Prop where
  g : Same G G'
  i : Same G' H'
  h : SB M H H'
  n : Nw G H G'
abbrev M0 : Addr → Prop := fun _ => False
theorem SB.refl {M : Addr → Prop} {H : Hp} : SB M H H := fun _ _ _ h => h
theorem SB.trans {M : Addr → Prop} {H H1 H2 : Hp} (a : SB M H H1) (b : SB M H1 H2) : SB M H H2 := fun c o n h => b c o n (a c o n h)
theorem SB.of {M : Addr → Prop} {H H' : Hp} (a : Same H H') : SB M H H' := fun c o _ h => a c o h
theorem SB.same {H H' : Hp} (a : SB M0 H H') : Same H H' := fun c o h => a c o (fun z => z) h
theorem Gr.refl {M : Addr → Prop} {G H : Hp} (i : Same G H) : Gr M G H G H := ⟨Same.refl G, i, SB.refl, fun _ _ h => .inl h⟩
theorem Gr.trans {M : Addr → Prop} {G H G1 H1 G2 H2 : Hp} (x : Gr M G H G1 H1) (y : Gr M G1 H1 G2 H2) (mm : ∀ a, M a → G2 a = none ∨ H a = none ∨ G a ≠ none := by intro _ z; exact z.elim) : Gr M G H G2 H2 :=
  ⟨x.g.trans y.g, y.i, x.h.trans y.h, fun a o e => by
    rcases y.n a o e with z | ⟨z, nt⟩
    · exact x.n a o z
    · cases q : H a with
      | none => exact .inr ⟨.inl rfl, nt⟩
      | some u =>
        by_cases m : M a
        · rcases mm a m with k | k | k
          · rw [k] at e; cases e
          · rw [k] at q; cases q
          · cases r : G a with
            | none => exact absurd r k
            | some u' =>
              have e1 := (x.g.trans y.g) a u' r
              rw [e] at e1
              exact .inl e1.symm
        · rcases z with z | ⟨vs, rfl, z⟩
          · rw [x.h a u m q] at z; cases z
          · rw [x.h a u m q] at z; cases z; exact .inr ⟨.inr ⟨vs, rfl, rfl⟩, nt⟩⟩
theorem Gr.same {G H G' H' : Hp} (x : Gr M0 G H G' H') : Same H H' := x.h.same
theorem Gr.wk {M : Addr → Prop} {G H G' H' : Hp} (x : Gr M0 G H G' H') : Gr M G H G' H' := ⟨x.g, x.i, SB.of x.same, x.n⟩
/-- G has nothing of what H had outside -/
theorem Gr.out {M : Addr → Prop} {G H G' H' : Hp} (x : Gr M G H G' H') {p : Addr} {o : HO} (hg : G p = none) (hh : H p = some o) (nt : ∀ vs, o ≠ .tup vs := by intro _ h; cases h) : G' p = none := by
  cases q : G' p with
  | none => rfl
  | some u =>
    rcases x.n p u q with z | ⟨z | ⟨vs, rfl, z⟩, _⟩
    · rw [hg] at z; cases z
    · rw [hh] at z; cases z
    · rw [hh] at z; cases z; exact absurd rfl (nt vs)

def uni (A B : Hp) : Hp := fun a => match A a with
  | some o => some o
  | none => B a
theorem uni_l {A B : Hp} : Same A (uni A B) := fun a o h => by unfold uni; rw [h]
theorem uni_c {A B : Hp} {a : Addr} {o : HO} (h : uni A B a = some o) : A a = some o ∨ B a = some o := by
  unfold uni at h
  cases q : A a with
  | some u => rw [q] at h; exact .inl h
  | none => rw [q] at h; exact .inr h
theorem uni_r {A B H : Hp} (x : Same A H) (y : Same B H) : Same B (uni A B) := fun a o h => by
  unfold uni
  cases q : A a with
  | none => exact h
  | some u =>
    have e1 := x a u q
    have e2 := y a o h
    rw [e1] at e2
    exact e2
theorem uni_i {A B H : Hp} (x : Same A H) (y : Same B H) : Same (uni A B) H := fun a o h => by
  rcases uni_c h with z | z
  · exact x a o z
  · exact y a o z

/-! ### values -/
class Rep (α : Type) where
  rep : Hp → V → α → Prop
  mono : ∀ {G G' : Hp} {v : V} {x : α}, Same G G' → rep G v x → rep G' v x
abbrev rep {α : Type} [Rep α] : Hp → V → α → Prop := Rep.rep
instance : Rep Int := ⟨fun _ v x => v = .int x, fun _ h => h⟩
instance : Rep Bool := ⟨fun _ v x => v = .bl x, fun _ h => h⟩
instance : Rep Str := ⟨fun _ v x => v = .str x, fun _ h => h⟩
instance : Rep Unit := ⟨fun _ v _ => v = .non, fun _ h => h⟩
theorem paired_mono {α : Type} [Rep α] {G G' : Hp} (e : Same G G') {vs : List V} {xs : List α} (h : Paired (rep G) vs xs) : Paired (rep G') vs xs := Paired.mapP h fun _ _ r => Rep.mono e r
instance {α : Type} [Rep α] : Rep (List α) := ⟨fun G v xs => ∃ a vs, v = .ref a ∧ G a = some (.lst vs) ∧ Paired (rep G) vs xs,
  fun e ⟨a, vs, h1, h2, h3⟩ => ⟨a, vs, h1, e _ _ h2, paired_mono e h3⟩⟩
/-- a tuple of any length, of one kind -/
structure Tup (α : Type) where
  l : List α
  deriving DecidableEq
instance {α : Type} [Rep α] : Rep (Tup α) := ⟨fun G v xs => ∃ a vs, v = .ref a ∧ G a = some (.tup vs) ∧ Paired (rep G) vs xs.l,
  fun e ⟨a, vs, h1, h2, h3⟩ => ⟨a, vs, h1, e _ _ h2, paired_mono e h3⟩⟩
instance {α β : Type} [Rep α] [Rep β] : Rep (α × β) := ⟨fun G v x => ∃ a u w, v = .ref a ∧ G a = some (.tup [u, w]) ∧ rep G u x.1 ∧ rep G w x.2,
  fun e ⟨a, u, w, h1, h2, h3, h4⟩ => ⟨a, u, w, h1, e _ _ h2, Rep.mono e h3, Rep.mono e h4⟩⟩
/-- a tuple of three -/
structure Tri (α β γ : Type) where
  a : α
  b : β
  c : γ
  deriving DecidableEq
instance {α β γ : Type} [Rep α] [Rep β] [Rep γ] : Rep (Tri α β γ) := ⟨fun G v x => ∃ a u w z, v = .ref a ∧ G a = some (.tup [u, w, z]) ∧ rep G u x.a ∧ rep G w x.b ∧ rep G z x.c,
  fun e ⟨a, u, w, z, h1, h2, h3, h4, h5⟩ => ⟨a, u, w, z, h1, e _ _ h2, Rep.mono e h3, Rep.mono e h4, Rep.mono e h5⟩⟩
theorem rep_int {G : Hp} {v : V} {x : Int} (h : rep G v x) : v = .int x := h
theorem rep_bl {G : Hp} {v : V} {x : Bool} (h : rep G v x) : v = .bl x := h
theorem rep_str {G : Hp} {v : V} {x : Str} (h : rep G v x) : v = .str x := h
theorem paired_len {α : Type} [Rep α] {G : Hp} {vs : List V} {xs : List α} (h : Paired (rep G) vs xs) : vs.length = xs.length := Paired.length h
theorem paired_get {α β : Type} {R : α → β → Prop} : ∀ {vs : List α} {xs : List β} {i : Nat} {x : β}, Paired R vs xs → xs[i]? = some x → ∃ v, vs[i]? = some v ∧ R v x
  | _, _, _, _, .nil, e => by simp at e
  | _, _, 0, _, .cons r _, e => by simp at e; subst e; exact ⟨_, rfl, r⟩
  | _, _, i + 1, x, .cons _ t, e => by
    obtain ⟨u, h1, h2⟩ := paired_get (i := i) (x := x) t (by simpa using e)
    exact ⟨u, by simpa using h1, h2⟩
theorem paired_get' {α β : Type} {R : α → β → Prop} : ∀ {vs : List α} {xs : List β} {i : Nat} {v : α}, Paired R vs xs → vs[i]? = some v → ∃ x, xs[i]? = some x ∧ R v x
  | _, _, _, _, .nil, e => by simp at e
  | _, _, 0, _, .cons r _, e => by simp at e; subst e; exact ⟨_, rfl, r⟩
  | _, _, i + 1, x, .cons _ t, e => by
    obtain ⟨u, h1, h2⟩ := paired_get' (i := i) (v := x) t (by simpa using e)
    exact ⟨u, by simpa using h1, h2⟩
theorem paired_app {α β : Type} {R : α → β → Prop} : ∀ {vs us : List α} {xs ys : List β}, Paired R vs xs → Paired R us ys → Paired R (vs ++ us) (xs ++ ys)
  | _, _, _, _, .nil, h => h
  | _, _, _, _, .cons r t, h => .cons r (paired_app t h)
theorem paired_drop {α β : Type} {R : α → β → Prop} : ∀ {vs : List α} {xs : List β} (n : Nat), Paired R vs xs → Paired R (vs.drop n) (xs.drop n)
  | _, _, 0, h => h
  | _, _, _ + 1, .nil => .nil
  | _, _, n + 1, .cons _ t => paired_drop n t
theorem paired_take {α β : Type} {R : α → β → Prop} : ∀ {vs : List α} {xs : List β} (n : Nat), Paired R vs xs → Paired R (vs.take n) (xs.take n)
  | _, _, 0, _ => .nil
  | _, _, _ + 1, .nil => .nil
  | _, _, n + 1, .cons r t => .cons r (paired_take n t)
theorem paired_ints {G : Hp} : ∀ {vs : List V} {xs : List Int}, Paired (rep G) vs xs → vs = xs.map V.int
  | _, _, .nil => rfl
  | _, _, .cons r t => by rw [rep_int r, paired_ints t]; rfl
theorem paired_of_ints {G : Hp} : ∀ (xs : List Int), Paired (rep G) (xs.map V.int) xs
  | [] => .nil
  | _ :: xs => .cons rfl (paired_of_ints xs)
theorem paired_bls {G : Hp} : ∀ {vs : List V} {xs : List Bool}, Paired (rep G) vs xs → vs = xs.map V.bl
  | _, _, .nil => rfl
  | _, _, .cons r t => by rw [rep_bl r, paired_bls t]; rfl

/-! ### what evaluates to what -/
section
variable {α β γ δ : Type} [Rep α] [Rep β] [Rep γ] [Rep δ]
def Ev (te : TE) (σ : L2.St) (G : Hp) (x : α) : Prop := ∀ H, Same G H → ∀ Q : VK, (∀ v G' H', Gr M0 G H G' H' → rep G' v x → Q v H') → te σ H Q
def EvT (tt : TT) (σ : L2.St) (G : Hp) (b : Bool) : Prop := ∀ H, Same G H → ∀ Q : Bool → Hp → Prop, (∀ G' H', Gr M0 G H G' H' → Q b H') → tt σ H Q
def EvAs (ta : TA) (σ : L2.St) (G : Hp) (xs : List α) : Prop := ∀ H, Same G H → ∀ Q : List V → Hp → Prop, (∀ vs G' H', Gr M0 G H G' H' → Paired (rep G') vs xs → Q vs H') → ta σ H Q
/-- a two-place operation on values -/
def Ev2 (r : R2) (v u : V) (G : Hp) (z : γ) : Prop := ∀ H, Same G H → ∀ Q : VK, (∀ w G' H', Gr M0 G H G' H' → rep G' w z → Q w H') → r v u H Q
theorem gr_up {G G1 H G' H' : Hp} (e : Same G G1) (i : Same G1 H) (g : Gr M0 G H G' H') : Gr M0 G1 H (uni G' G1) H' :=
  ⟨uni_r g.i (i.trans g.same), uni_i g.i (i.trans g.same), g.h, fun a o q => by
    rcases uni_c q with z | z
    · rcases g.n a o z with y | y
      · exact .inl (e a o y)
      · exact .inr y
    · exact .inl z⟩
variable {σ : L2.St} {G G1 : Hp} {te ta tb tc : TE} {tt tu : TT} {x : α} {y : β} {z : γ} {r r' : R2}
theorem Ev.mono (h : Ev te σ G x) (e : Same G G1) : Ev te σ G1 x := fun H i Q q => h H (e.trans i) Q fun v G' H' g k => q v (uni G' G1) H' (gr_up e i g) (Rep.mono uni_l k)
theorem EvT.mono {b : Bool} (h : EvT tt σ G b) (e : Same G G1) : EvT tt σ G1 b := fun H i Q q => h H (e.trans i) Q fun G' H' g => q (uni G' G1) H' (gr_up e i g)
theorem EvAs.mono {ta : TA} {xs : List α} (h : EvAs ta σ G xs) (e : Same G G1) : EvAs ta σ G1 xs := fun H i Q q => h H (e.trans i) Q fun v G' H' g k => q v (uni G' G1) H' (gr_up e i g) (paired_mono uni_l k)
theorem Ev.cast {x' : α} (h : Ev te σ G x) (e : x = x') : Ev te σ G x' := e ▸ h
theorem EvT.cast {b b' : Bool} (h : EvT tt σ G b) (e : b = b') : EvT tt σ G b' := e ▸ h
theorem ev_var {i : Nat} {v : V} (h : σ[i]? = some (some v)) (k : rep G v x) : Ev (tVar i) σ G x := fun H i Q q => ⟨v, h, q v G H (Gr.refl i) k⟩
theorem ev_c {v : V} (k : rep G v x) : Ev (tC v) σ G x := fun H i Q q => q v G H (Gr.refl i) k
theorem ev_int {n : Int} : Ev (tC (.int n)) σ G n := ev_c rfl
theorem ev_bl {n : Bool} : Ev (tC (.bl n)) σ G n := ev_c rfl
theorem ev_str {n : Str} : Ev (tC (.str n)) σ G n := ev_c rfl
/-- two, then a step on their values -/
theorem ev2 (ha : Ev ta σ G x) (hb : Ev tb σ G y) (hr : ∀ v u G', Same G G' → rep G' v x → rep G' u y → Ev2 r v u G' z) : Ev (tOp r ta tb) σ G z := fun H i Q q =>
  ha H i _ fun v G1 H1 g1 k1 => (hb.mono g1.g) H1 g1.i _ fun u G2 H2 g2 k2 =>
    hr v u G2 (g1.g.trans g2.g) (Rep.mono g2.g k1) k2 H2 g2.i Q fun w G3 H3 g3 k3 => q w G3 H3 ((g1.trans g2).trans g3) k3
theorem ev_I0 {g : Int → Int → V} {i j : Int} (hz : ∀ G', rep G' (g i j) z) (ha : Ev ta σ G i) (hb : Ev tb σ G j) : Ev (tOp (rI0 g) ta tb) σ G z :=
  ev2 ha hb fun v u G' _ k1 k2 H h Q q => ⟨i, j, k1, k2, q _ G' H (Gr.refl h) (hz G')⟩
theorem ev_I {C : Int → Int → Prop} {g : Int → Int → V} {i j : Int} (hz : ∀ G', rep G' (g i j) z) (hc : C i j) (ha : Ev ta σ G i) (hb : Ev tb σ G j) : Ev (tOp (rI C g) ta tb) σ G z :=
  ev2 ha hb fun v u G' _ k1 k2 H h Q q => ⟨i, j, k1, k2, hc, q _ G' H (Gr.refl h) (hz G')⟩
variable {i j : Int}
theorem ev_add (ha : Ev ta σ G i) (hb : Ev tb σ G j) : Ev (tOp (rI0 fun i j => .int (i + j)) ta tb) σ G (i + j) := ev_I0 (fun _ => rfl) ha hb
theorem ev_sub (ha : Ev ta σ G i) (hb : Ev tb σ G j) : Ev (tOp (rI0 fun i j => .int (i - j)) ta tb) σ G (i - j) := ev_I0 (fun _ => rfl) ha hb
theorem ev_mul (ha : Ev ta σ G i) (hb : Ev tb σ G j) (hc : CMul i j) : Ev (tOp (rI CMul fun i j => .int (i * j)) ta tb) σ G (i * j) := ev_I (fun _ => rfl) hc ha hb
theorem ev_fdiv (ha : Ev ta σ G i) (hb : Ev tb σ G j) (hc : CDiv i j) : Ev (tOp (rI CDiv fun i j => .int (i / j)) ta tb) σ G (i / j) := ev_I (fun _ => rfl) hc ha hb
theorem ev_fdivW (ha : Ev ta σ G i) (hb : Ev tb σ G j) (hc : CDivW i j) : Ev (tOp (rI CDivW fun i j => .int (i / j)) ta tb) σ G (i / j) := ev_I (fun _ => rfl) hc ha hb
theorem ev_mod (ha : Ev ta σ G i) (hb : Ev tb σ G j) (hc : 0 < j) : Ev (tOp (rI (fun _ j => 0 < j) fun i j => .int (i % j)) ta tb) σ G (i % j) := ev_I (fun _ => rfl) hc ha hb
theorem ev_pow (ha : Ev ta σ G i) (hb : Ev tb σ G j) (hc : CPow i j) : Ev (tOp (rI CPow fun i j => .int (i ^ j.toNat)) ta tb) σ G (i ^ j.toNat) := ev_I (fun _ => rfl) hc ha hb
theorem ev_lt (ha : Ev ta σ G i) (hb : Ev tb σ G j) : Ev (tOp (rI0 fun i j => .bl (decide (i < j))) ta tb) σ G (decide (i < j)) := ev_I0 (fun _ => rfl) ha hb
theorem ev_le (ha : Ev ta σ G i) (hb : Ev tb σ G j) : Ev (tOp (rI0 fun i j => .bl (decide (i ≤ j))) ta tb) σ G (decide (i ≤ j)) := ev_I0 (fun _ => rfl) ha hb
theorem ev_gt (ha : Ev ta σ G i) (hb : Ev tb σ G j) : Ev (tOp (rI0 fun i j => .bl (decide (j < i))) ta tb) σ G (decide (j < i)) := ev_I0 (fun _ => rfl) ha hb
theorem ev_ge (ha : Ev ta σ G i) (hb : Ev tb σ G j) : Ev (tOp (rI0 fun i j => .bl (decide (j ≤ i))) ta tb) σ G (decide (j ≤ i)) := ev_I0 (fun _ => rfl) ha hb
theorem v_int_eq {i j : Int} : decide (V.int i = V.int j) = decide (i = j) := by
  by_cases h : i = j
  · rw [decide_eq_true h, decide_eq_true (congrArg V.int h)]
  · rw [decide_eq_false h, decide_eq_false (fun e => h (V.int.inj e))]
theorem v_str_eq {i j : Str} : decide (V.str i = V.str j) = decide (i = j) := by
  by_cases h : i = j
  · rw [decide_eq_true h, decide_eq_true (congrArg V.str h)]
  · rw [decide_eq_false h, decide_eq_false (fun e => h (V.str.inj e))]
theorem v_bl_eq {i j : Bool} : decide (V.bl i = V.bl j) = decide (i = j) := by
  by_cases h : i = j
  · rw [decide_eq_true h, decide_eq_true (congrArg V.bl h)]
  · rw [decide_eq_false h, decide_eq_false (fun e => h (V.bl.inj e))]
theorem ev_eqI (ha : Ev ta σ G i) (hb : Ev tb σ G j) : Ev (tOp rEq ta tb) σ G (decide (i = j)) :=
  ev2 ha hb fun v u G' _ k1 k2 H h Q q => by
    cases k1; cases k2
    exact ⟨rfl, q _ G' H (Gr.refl h) (by rw [v_int_eq]; rfl)⟩
theorem ev_neI (ha : Ev ta σ G i) (hb : Ev tb σ G j) : Ev (tOp rNe ta tb) σ G (!decide (i = j)) :=
  ev2 ha hb fun v u G' _ k1 k2 H h Q q => by
    cases k1; cases k2
    exact ⟨rfl, q _ G' H (Gr.refl h) (by rw [v_int_eq]; rfl)⟩
theorem ev_eqS {i j : Str} (ha : Ev ta σ G i) (hb : Ev tb σ G j) : Ev (tOp rEq ta tb) σ G (decide (i = j)) :=
  ev2 ha hb fun v u G' _ k1 k2 H h Q q => by
    cases k1; cases k2
    exact ⟨rfl, q _ G' H (Gr.refl h) (by rw [v_str_eq]; rfl)⟩
theorem ev_neS {i j : Str} (ha : Ev ta σ G i) (hb : Ev tb σ G j) : Ev (tOp rNe ta tb) σ G (!decide (i = j)) :=
  ev2 ha hb fun v u G' _ k1 k2 H h Q q => by
    cases k1; cases k2
    exact ⟨rfl, q _ G' H (Gr.refl h) (by rw [v_str_eq]; rfl)⟩
theorem ev_neB {i j : Bool} (ha : Ev ta σ G i) (hb : Ev tb σ G j) : Ev (tOp rNe ta tb) σ G (!decide (i = j)) :=
  ev2 ha hb fun v u G' _ k1 k2 H h Q q => by
    cases k1; cases k2
    exact ⟨rfl, q _ G' H (Gr.refl h) (by rw [v_bl_eq]; rfl)⟩
theorem ev_neg (ha : Ev ta σ G i) : Ev (tUn (rU fun i => .int (-i)) ta) σ G (-i) := fun H h Q q => ha H h _ fun v G' H' g k => ⟨i, k, q _ G' H' g rfl⟩
/-! tests -/
theorem et_test {b : Bool} (h : Ev te σ G b) : EvT (tTest te) σ G b := fun H i Q q => h H i _ fun v G' H' g k => ⟨b, k, q G' H' g⟩
theorem et_B {b : Bool} (h : Ev te σ G b) : EvT (tB te) σ G b := fun H i Q q => h H i _ fun v G' H' g k => ⟨b, k, q G' H' g⟩
theorem et_yes : EvT tYes σ G true := fun H i Q q => q G H (Gr.refl i)
theorem et_not {b : Bool} (h : EvT tt σ G b) : EvT (tNot tt) σ G (!b) := fun H i Q q => h H i _ fun G' H' g => q G' H' g
theorem et_and {a b : Bool} (h1 : EvT tt σ G a) (h2 : a = true → EvT tu σ G b) : EvT (tAnd tt tu) σ G (a && b) := fun H i Q q => h1 H i _ fun G1 H1 g1 => by
  cases a with
  | true =>
    show tu σ H1 Q
    exact ((h2 rfl).mono g1.g) H1 g1.i Q fun G2 H2 g2 => q G2 H2 (g1.trans g2)
  | false =>
    show Q false H1
    exact q G1 H1 g1
theorem et_or {a b : Bool} (h1 : EvT tt σ G a) (h2 : a = false → EvT tu σ G b) : EvT (tOr tt tu) σ G (a || b) := fun H i Q q => h1 H i _ fun G1 H1 g1 => by
  cases a with
  | false =>
    show tu σ H1 Q
    exact ((h2 rfl).mono g1.g) H1 g1.i Q fun G2 H2 g2 => q G2 H2 (g1.trans g2)
  | true =>
    show Q true H1
    exact q G1 H1 g1
theorem ev_andV {a b : Bool} (h1 : Ev ta σ G a) (h2 : a = true → Ev tb σ G b) : Ev (tAndV ta tb) σ G (a && b) := fun H i Q q => h1 H i _ fun v G1 H1 g1 k1 => ⟨a, k1, by
  cases a with
  | true =>
    show tb σ H1 Q
    exact ((h2 rfl).mono g1.g) H1 g1.i Q fun v G2 H2 g2 k2 => q v G2 H2 (g1.trans g2) k2
  | false =>
    show Q (.bl false) H1
    exact q _ G1 H1 g1 rfl⟩
theorem ev_orV {a b : Bool} (h1 : Ev ta σ G a) (h2 : a = false → Ev tb σ G b) : Ev (tOrV ta tb) σ G (a || b) := fun H i Q q => h1 H i _ fun v G1 H1 g1 k1 => ⟨a, k1, by
  cases a with
  | false =>
    show tb σ H1 Q
    exact ((h2 rfl).mono g1.g) H1 g1.i Q fun v G2 H2 g2 k2 => q v G2 H2 (g1.trans g2) k2
  | true =>
    show Q (.bl true) H1
    exact q _ G1 H1 g1 rfl⟩
theorem ev_notV {a : Bool} (h1 : Ev ta σ G a) : Ev (tNotV ta) σ G (!a) := fun H i Q q => h1 H i _ fun v G1 H1 g1 k1 => ⟨a, k1, q _ G1 H1 g1 rfl⟩
theorem ev_if {b : Bool} {x y : α} (h : EvT tt σ G b) (h1 : b = true → Ev ta σ G x) (h2 : b = false → Ev tb σ G y) : Ev (tIf tt ta tb) σ G (if b = true then x else y) := fun H i Q q => h H i _ fun G1 H1 g1 => by
  cases b with
  | true =>
    show ta σ H1 Q
    exact ((h1 rfl).mono g1.g) H1 g1.i Q fun v G2 H2 g2 k2 => q v G2 H2 (g1.trans g2) k2
  | false =>
    show tb σ H1 Q
    exact ((h2 rfl).mono g1.g) H1 g1.i Q fun v G2 H2 g2 k2 => q v G2 H2 (g1.trans g2) k2
/-! a < b < c -/
theorem ev_chain {a b : Bool} (ha : Ev ta σ G x) (hb : Ev tb σ G y) (hc : a = true → Ev tc σ G z)
    (hr : ∀ v u G', Same G G' → rep G' v x → rep G' u y → Ev2 r v u G' a) (hr' : ∀ u w G', Same G G' → rep G' u y → rep G' w z → Ev2 r' u w G' b) : Ev (tChain r r' ta tb tc) σ G (a && b) := fun H i Q q =>
  ha H i _ fun v G1 H1 g1 k1 => (hb.mono g1.g) H1 g1.i _ fun u G2 H2 g2 k2 => hr v u G2 (g1.g.trans g2.g) (Rep.mono g2.g k1) k2 H2 g2.i _ fun w G3 H3 g3 k3 => ⟨a, k3, by
    have g13 := (g1.trans g2).trans g3
    cases a with
    | true =>
      show tc σ H3 _
      exact ((hc rfl).mono g13.g) H3 g3.i _ fun w4 G4 H4 g4 k4 => hr' u w4 G4 (g13.g.trans g4.g) (Rep.mono (g3.g.trans g4.g) k2) k4 H4 g4.i Q fun w5 G5 H5 g5 k5 => q w5 G5 H5 ((g13.trans g4).trans g5) k5
    | false =>
      show Q (.bl false) H3
      exact q _ G3 H3 g13 rfl⟩
theorem r_I0 {g : Int → Int → V} {i j : Int} (hz : ∀ G', rep G' (g i j) z) : ∀ v u G', Same G G' → rep G' v i → rep G' u j → Ev2 (rI0 g) v u G' z := fun v u G' _ k1 k2 H h Q q => ⟨i, j, k1, k2, q _ G' H (Gr.refl h) (hz G')⟩
theorem r_le : ∀ v u G', Same G G' → rep G' v i → rep G' u j → Ev2 (rI0 fun i j => .bl (decide (i ≤ j))) v u G' (decide (i ≤ j)) := r_I0 fun _ => rfl
/-! displays -/
theorem evs_nil : EvAs (α := α) tNil σ G [] := fun H i Q q => q [] G H (Gr.refl i) .nil
theorem evs_cons {tr : TA} {xs : List α} (ha : Ev ta σ G x) (hr : EvAs tr σ G xs) : EvAs (tCons ta tr) σ G (x :: xs) := fun H i Q q =>
  ha H i _ fun v G1 H1 g1 k1 => (hr.mono g1.g) H1 g1.i _ fun vs G2 H2 g2 k2 => q _ G2 H2 (g1.trans g2) (.cons (Rep.mono g2.g k1) k2)
/-- a new object that stays still -/
theorem gr_new {G H : Hp} {p : Addr} {o : HO} (i : Same G H) (np : H p = none) (nt : ∀ ps, o ≠ .tbl ps := by intro _ h; cases h) : Gr M0 G H (upd G p o) (upd H p o) :=
  ⟨fun a u e => by rw [upd_ne (fun z => by subst z; rw [i _ _ e] at np; cases np)]; exact e,
   fun a u e => by
     by_cases h : a = p
     · subst h; rw [upd_same] at e ⊢; exact e
     · rw [upd_ne h] at e ⊢; exact i a u e,
   SB.of fun a u e => by rw [upd_ne (ne_of_none e np)]; exact e,
   fun a u e => by
     by_cases h : a = p
     · subst h; rw [upd_same] at e; cases e; exact .inr ⟨.inl np, nt⟩
     · rw [upd_ne h] at e; exact .inl e⟩
theorem sl_small {n : Nat} (h : n ≤ 100000) : n ≤ sizeLine := Nat.le_trans h (by decide)
theorem sl_lt {n : Nat} (h : n < 100000) : n < sizeLine := Nat.lt_of_lt_of_le h (by decide)
theorem ev_lst {tr : TA} {xs : List α} (h : EvAs tr σ G xs) (hl : xs.length ≤ 100000) : Ev (tLst tr) σ G xs := fun H i Q q =>
  h H i _ fun vs G1 H1 g1 k1 => ⟨by rw [paired_len k1]; exact sl_small hl, fun p np => q _ (upd G1 p (.lst vs)) _ (g1.trans (gr_new g1.i np)) ⟨p, vs, rfl, upd_same, paired_mono (gr_new (o := .lst vs) g1.i np).g k1⟩⟩
theorem ev_tupn {tr : TA} {xs : List α} (h : EvAs tr σ G xs) (hl : xs.length ≤ 100000) : Ev (tTup tr) σ G (Tup.mk xs) := fun H i Q q =>
  h H i _ fun vs G1 H1 g1 k1 => ⟨by rw [paired_len k1]; exact sl_small hl, fun p np => q _ (upd G1 p (.tup vs)) _ (g1.trans (gr_new g1.i np)) ⟨p, vs, rfl, upd_same, paired_mono (gr_new (o := .tup vs) g1.i np).g k1⟩⟩
theorem ev_tup2 (ha : Ev ta σ G x) (hb : Ev tb σ G y) : Ev (tTup (tCons ta (tCons tb tNil))) σ G (x, y) := fun H i Q q =>
  ha H i _ fun v G1 H1 g1 k1 => (hb.mono g1.g) H1 g1.i _ fun u G2 H2 g2 k2 => ⟨by show 2 ≤ sizeLine; decide, fun p np =>
    q _ (upd G2 p (.tup [v, u])) _ ((g1.trans g2).trans (gr_new g2.i np)) ⟨p, v, u, rfl, upd_same, Rep.mono (g2.g.trans (gr_new g2.i np).g) k1, Rep.mono (gr_new g2.i np).g k2⟩⟩
theorem ev_tup3 (ha : Ev ta σ G x) (hb : Ev tb σ G y) (hc : Ev tc σ G z) : Ev (tTup (tCons ta (tCons tb (tCons tc tNil)))) σ G (Tri.mk x y z) := fun H i Q q =>
  ha H i _ fun v G1 H1 g1 k1 => (hb.mono g1.g) H1 g1.i _ fun u G2 H2 g2 k2 => (hc.mono (g1.g.trans g2.g)) H2 g2.i _ fun w G3 H3 g3 k3 => ⟨by show 3 ≤ sizeLine; decide, fun p np =>
    q _ (upd G3 p (.tup [v, u, w])) _ (((g1.trans g2).trans g3).trans (gr_new g3.i np)) ⟨p, v, u, w, rfl, upd_same, Rep.mono (g2.g.trans (g3.g.trans (gr_new g3.i np).g)) k1, Rep.mono (g3.g.trans (gr_new g3.i np).g) k2, Rep.mono (gr_new g3.i np).g k3⟩⟩
end
end Pf

namespace Pf
open PySem PySem.Spec PyProof.Rows L2

/-! ### changes of what is not still -/
theorem Gr.mut {M : Addr → Prop} {Ge He G H : Hp} {p : Addr} {o : HO} (x : Gr M Ge He G H) (hp : He p = none ∨ M p) (hg : G p = none) : Gr M Ge He G (upd H p o) :=
  ⟨x.g, fun a u e => by rw [upd_ne (ne_of_none e hg)]; exact x.i a u e,
   fun a u m e => by
     have ne : a ≠ p := fun z => by
       subst z
       rcases hp with h | h
       · rw [h] at e; cases e
       · exact m h
     rw [upd_ne ne]; exact x.h a u m e, x.n⟩
theorem same_mut {G H : Hp} {p : Addr} {o : HO} (i : Same G H) (hg : G p = none) : Same G (upd H p o) := fun a u e => by rw [upd_ne (ne_of_none e hg)]; exact i a u e
theorem same_new {H : Hp} {p : Addr} (h : H p = none) {o : HO} : Same H (upd H p o) := fun b u q => by rw [upd_ne (ne_of_none q h)]; exact q
/-- what stands outside becomes still -/
theorem Gr.still {M : Addr → Prop} {Ge He G H : Hp} {p : Addr} {o : HO} (x : Gr M Ge He G H) (hp : He p = none) (hg : G p = none) (hh : H p = some o) (nt : ∀ ps, o ≠ .tbl ps := by intro _ h; cases h) : Gr M Ge He (upd G p o) H :=
  ⟨x.g.trans (same_new hg), fun a u e => by
     by_cases h : a = p
     · subst h; rw [upd_same] at e; cases e; exact hh
     · rw [upd_ne h] at e; exact x.i a u e,
   x.h, fun a u e => by
     by_cases h : a = p
     · subst h; rw [upd_same] at e; cases e; exact .inr ⟨.inl hp, nt⟩
     · rw [upd_ne h] at e; exact x.n a u e⟩
theorem same_still {G H : Hp} {p : Addr} {o : HO} (i : Same G H) (hh : H p = some o) : Same (upd G p o) H := fun a u e => by
  by_cases h : a = p
  · subst h; rw [upd_same] at e; cases e; exact hh
  · rw [upd_ne h] at e; exact i a u e
/-- kinds whose values do not lean on the heap -/
class Flat (α : Type) [Rep α] : Prop where
  any : ∀ {G G' : Hp} {v : V} {x : α}, rep G v x → rep G' v x
instance : Flat Int := ⟨fun h => h⟩
instance : Flat Bool := ⟨fun h => h⟩
instance : Flat Str := ⟨fun h => h⟩
instance : Flat Unit := ⟨fun h => h⟩
section
variable {α β γ δ ε ζ : Type} [Rep α] [Rep β] [Rep γ] [Rep δ] [Rep ε] [Rep ζ]
/-- a list that is still being made -/
def Ml (G H : Hp) (p : Addr) (xs : List α) : Prop := G p = none ∧ ∃ vs, H p = some (.lst vs) ∧ Paired (rep G) vs xs
theorem Ml.step {M : Addr → Prop} {G H G' H' : Hp} {p : Addr} {xs : List α} (m : Ml G H p xs) (g : Gr M G H G' H') (hp : ¬ M p) : Ml G' H' p xs := by
  obtain ⟨h1, vs, h2, h3⟩ := m
  exact ⟨g.out h1 h2, vs, g.h p _ hp h2, paired_mono g.g h3⟩
theorem Ml.step0 {G H G' H' : Hp} {p : Addr} {xs : List α} (m : Ml G H p xs) (g : Gr M0 G H G' H') : Ml G' H' p xs := m.step g (fun z => z)
theorem Ml.other {G H : Hp} {p q : Addr} {o : HO} {xs : List α} (m : Ml G H p xs) (ne : p ≠ q) : Ml G (upd H q o) p xs := by
  obtain ⟨h1, vs, h2, h3⟩ := m
  exact ⟨h1, vs, by rw [upd_ne ne]; exact h2, h3⟩
theorem Ml.sq {K : Fg} {G H : Hp} {p : Addr} {xs : List α} (m : Ml G H p xs) : ∃ vs, SqL K H p vs := by
  obtain ⟨_, vs, h, _⟩ := m
  exact ⟨vs, .inl (.inl h)⟩

variable {σ : L2.St} {G H G1 H1 : Hp} {te ta tb tc td tf : TE} {tt tu : TT} {x : α} {y : β} {z : γ} {r r' : R2} {K : Fg}
/-- an expression of a flat kind, over a heap of which more is taken as still -/
theorem Ev.flat [Flat α] {Q : VK} (h : Ev te σ G1 x) (i : Same G1 H) (g : Same G H) (k : ∀ v H', Gr M0 G H G H' → Same H H' → rep G v x → Q v H') : te σ H Q :=
  h H i Q fun v G' H' g' r => k v H' ⟨Same.refl G, g.trans g'.same, g'.h, fun _ _ e => .inl e⟩ g'.same (Flat.any r)
theorem EvT.flat {b : Bool} {Q : Bool → Hp → Prop} (h : EvT tt σ G1 b) (i : Same G1 H) (g : Same G H) (k : ∀ H', Gr M0 G H G H' → Same H H' → Q b H') : tt σ H Q :=
  h H i Q fun G' H' g' => k H' ⟨Same.refl G, g.trans g'.same, g'.h, fun _ _ e => .inl e⟩ g'.same
theorem Ml.rep {p : Addr} {xs : List α} (m : Ml G H p xs) (i : Same G H) : ∃ o, H p = some o ∧ Same G (upd G p o) ∧ Same (upd G p o) H ∧ Pf.rep (upd G p o) (.ref p) xs := by
  obtain ⟨h1, vs, h2, h3⟩ := m
  exact ⟨_, h2, same_new h1, same_still i h2, p, vs, rfl, upd_same, paired_mono (same_new h1) h3⟩

/-! ### subscripts, len -/
def ix [Inhabited α] (xs : List α) (i : Int) : α := (xs[i.toNat]?).getD default
theorem ix_nat [Inhabited α] {xs : List α} {n : Nat} {v : α} (h : xs[n]? = some v) : ix xs (n : Int) = v := by unfold ix; rw [Int.toNat_natCast, h]; rfl
theorem at_ix [Inhabited α] {vs : List V} {xs : List α} {i : Int} (p : Paired (Pf.rep G) vs xs) (h : 0 ≤ i ∧ i < xs.length) : ∃ v, atI vs i = some v ∧ Pf.rep G v (ix xs i) := by
  have hi : i.toNat < xs.length := by omega
  obtain ⟨v, h1, h2⟩ := paired_get p (List.getElem?_eq_getElem hi)
  refine ⟨v, ?_, ?_⟩
  · have e : i = ((i.toNat : Nat) : Int) := by omega
    rw [e]; exact atI_nat h1
  · unfold ix; rw [List.getElem?_eq_getElem hi]; exact h2
theorem ev_ixL [Inhabited α] {xs : List α} {i : Int} (ha : Ev ta σ G xs) (hb : Ev tb σ G i) (h : 0 ≤ i ∧ i < xs.length) : Ev (tOp (rIxL K) ta tb) σ G (ix xs i) :=
  ev2 ha hb fun v u G' _ k1 k2 H hh Q q => by
    obtain ⟨a, vs, rfl, h2, h3⟩ := k1
    cases k2
    obtain ⟨w, e1, e2⟩ := at_ix h3 h
    exact ⟨a, vs, i, w, rfl, rfl, .inl (.inl (hh _ _ h2)), e1, q w G' H (Gr.refl hh) e2⟩
theorem ev_fst {x : α × β} (ha : Ev ta σ G x) : Ev (tOp (rIxT K) ta (tC (.int 0))) σ G x.1 := fun H i Q q => ha H i _ fun v G1 H1 g1 k1 => by
  obtain ⟨a, u, w, rfl, h2, h3, h4⟩ := k1
  exact ⟨a, [u, w], 0, u, rfl, rfl, .inl (.inl (g1.i _ _ h2)), rfl, q u G1 H1 g1 h3⟩
theorem ev_snd {x : α × β} (ha : Ev ta σ G x) : Ev (tOp (rIxT K) ta (tC (.int 1))) σ G x.2 := fun H i Q q => ha H i _ fun v G1 H1 g1 k1 => by
  obtain ⟨a, u, w, rfl, h2, h3, h4⟩ := k1
  exact ⟨a, [u, w], 1, w, rfl, rfl, .inl (.inl (g1.i _ _ h2)), rfl, q w G1 H1 g1 h4⟩
/-- a built-in of one argument, of two -/
theorem ev_B1 {r : List V → Hp → VK → Prop} (ha : Ev ta σ G x) (hr : ∀ v G' H, Same G G' → Same G' H → rep G' v x → ∀ Q : VK, (∀ w G2 H2, Gr M0 G' H G2 H2 → rep G2 w y → Q w H2) → r [v] H Q) : Ev (tCB r (tCons ta tNil)) σ G y := fun H i Q q =>
  ha H i _ fun v G1 H1 g1 k1 => hr v G1 H1 g1.g g1.i k1 Q fun w G2 H2 g2 k2 => q w G2 H2 (g1.trans g2) k2
theorem ev_B2 {r : List V → Hp → VK → Prop} (ha : Ev ta σ G x) (hb : Ev tb σ G y) (hr : ∀ v u G' H, Same G G' → Same G' H → rep G' v x → rep G' u y → ∀ Q : VK, (∀ w G2 H2, Gr M0 G' H G2 H2 → rep G2 w z → Q w H2) → r [v, u] H Q) : Ev (tCB r (tCons ta (tCons tb tNil))) σ G z := fun H i Q q =>
  ha H i _ fun v G1 H1 g1 k1 => (hb.mono g1.g) H1 g1.i _ fun u G2 H2 g2 k2 => hr v u G2 H2 (g1.g.trans g2.g) g2.i (Rep.mono g2.g k1) k2 Q fun w G3 H3 g3 k3 => q w G3 H3 ((g1.trans g2).trans g3) k3
abbrev rLen (K : Fg) : List V → Hp → VK → Prop := fun xs H Q => ∃ p ys, xs = [.ref p] ∧ (SqL K H p ys ∨ SqT K H p ys) ∧ Q (.int ys.length) H
theorem ev_lenL {xs : List α} (ha : Ev ta σ G xs) : Ev (tCB (rLen K) (tCons ta tNil)) σ G (xs.length : Int) := ev_B1 ha fun v G' H _ i k Q q => by
  obtain ⟨a, vs, rfl, h2, h3⟩ := k
  exact ⟨a, vs, rfl, .inl (.inl (.inl (i _ _ h2))), q _ G' H (Gr.refl i) (by rw [paired_len h3]; rfl)⟩
theorem ev_sum {xs : List Int} (ha : Ev ta σ G xs) : Ev (tCB (rSum K) (tCons ta tNil)) σ G xs.sum := ev_B1 ha fun v G' H _ i k Q q => by
  obtain ⟨a, vs, rfl, h2, h3⟩ := k
  exact ⟨a, xs, rfl, .inl (.inl (by rw [← paired_ints h3]; exact i _ _ h2)), q _ G' H (Gr.refl i) rfl⟩
theorem ev_all {xs : List Bool} (ha : Ev ta σ G xs) : Ev (tCB (rAll K) (tCons ta tNil)) σ G (xs.all id) := ev_B1 ha fun v G' H _ i k Q q => by
  obtain ⟨a, vs, rfl, h2, h3⟩ := k
  exact ⟨a, xs, rfl, .inl (.inl (by rw [← paired_bls h3]; exact i _ _ h2)), q _ G' H (Gr.refl i) rfl⟩
theorem ev_any {xs : List Bool} (ha : Ev ta σ G xs) : Ev (tCB (rAny K) (tCons ta tNil)) σ G (xs.any id) := ev_B1 ha fun v G' H _ i k Q q => by
  obtain ⟨a, vs, rfl, h2, h3⟩ := k
  exact ⟨a, xs, rfl, .inl (.inl (by rw [← paired_bls h3]; exact i _ _ h2)), q _ G' H (Gr.refl i) rfl⟩
abbrev rAbs : List V → Hp → VK → Prop := fun xs H Q => ∃ i, xs = [.int i] ∧ Q (.int (if i < 0 then -i else i)) H
abbrev rMax2 : List V → Hp → VK → Prop := fun xs H Q => ∃ i j, xs = [.int i, .int j] ∧ Q (.int (if j > i then j else i)) H
abbrev rMin2 : List V → Hp → VK → Prop := fun xs H Q => ∃ i j, xs = [.int i, .int j] ∧ Q (.int (if j < i then j else i)) H
abbrev rInt1 : List V → Hp → VK → Prop := fun xs H Q => (∃ i, xs = [.int i] ∧ Q (.int i) H) ∨ ∃ k, xs = [.bl k] ∧ Q (.int (if k then 1 else 0)) H
theorem ev_abs {i : Int} (ha : Ev ta σ G i) : Ev (tCB rAbs (tCons ta tNil)) σ G (if i < 0 then -i else i) := ev_B1 ha fun v G' H _ h k Q q => ⟨i, by rw [rep_int k], q _ G' H (Gr.refl h) rfl⟩
theorem ev_max2 {i j : Int} (ha : Ev ta σ G i) (hb : Ev tb σ G j) : Ev (tCB rMax2 (tCons ta (tCons tb tNil))) σ G (if j > i then j else i) := ev_B2 ha hb fun v u G' H _ h k1 k2 Q q => ⟨i, j, by rw [rep_int k1, rep_int k2], q _ G' H (Gr.refl h) rfl⟩
theorem ev_min2 {i j : Int} (ha : Ev ta σ G i) (hb : Ev tb σ G j) : Ev (tCB rMin2 (tCons ta (tCons tb tNil))) σ G (if j < i then j else i) := ev_B2 ha hb fun v u G' H _ h k1 k2 Q q => ⟨i, j, by rw [rep_int k1, rep_int k2], q _ G' H (Gr.refl h) rfl⟩
theorem ev_intB {b : Bool} (ha : Ev ta σ G b) : Ev (tCB rInt1 (tCons ta tNil)) σ G (if b = true then (1 : Int) else 0) := ev_B1 ha fun v G' H _ h k Q q => .inr ⟨b, by rw [rep_bl k], q _ G' H (Gr.refl h) rfl⟩
abbrev rTupOf (K : Fg) : List V → Hp → VK → Prop := fun xs H Q => ∃ p ys, xs = [.ref p] ∧ ((SqL K H p ys ∧ ∀ l, H l = none → Q (.ref l) (upd H l (.tup ys))) ∨ (SqT K H p ys ∧ Q (.ref p) H))
theorem ev_tupleL {xs : List α} (ha : Ev ta σ G xs) : Ev (tCB (rTupOf K) (tCons ta tNil)) σ G (Tup.mk xs) := ev_B1 ha fun v G' H _ i k Q q => by
  obtain ⟨a, vs, rfl, h2, h3⟩ := k
  exact ⟨a, vs, rfl, .inl ⟨.inl (.inl (i _ _ h2)), fun l nl => q _ (upd G' l (.tup vs)) _ (gr_new i nl) ⟨l, vs, rfl, upd_same, paired_mono (gr_new (o := .tup vs) i nl).g h3⟩⟩⟩
theorem ev_catL {xs ys : List α} (ha : Ev ta σ G xs) (hb : Ev tb σ G ys) (hl : xs.length + ys.length ≤ 100000) : Ev (tOp rCat ta tb) σ G (xs ++ ys) :=
  ev2 ha hb fun v u G' _ k1 k2 H i Q q => by
    obtain ⟨a, vs, rfl, h2, h3⟩ := k1
    obtain ⟨b, us, rfl, h4, h5⟩ := k2
    exact ⟨a, b, vs, us, rfl, rfl, i _ _ h2, i _ _ h4, by rw [paired_len h3, paired_len h5]; exact sl_small hl, fun p np => q _ (upd G' p (.lst (vs ++ us))) _ (gr_new i np) ⟨p, _, rfl, upd_same, paired_mono (gr_new (o := .lst (vs ++ us)) i np).g (paired_app h3 h5)⟩⟩

/-! ### calls -/
def sp1 (pre : α → Prop) (f : α → β) : Sp := fun vs H Q _ => ∃ v x G, vs = [v] ∧ Same G H ∧ rep G v x ∧ pre x ∧ ∀ w G' H', Gr M0 G H G' H' → rep G' w (f x) → Q w H'
def sp2 (pre : α → β → Prop) (f : α → β → γ) : Sp := fun vs H Q _ => ∃ v x v2 x2 G, vs = [v, v2] ∧ Same G H ∧ rep G v x ∧ rep G v2 x2 ∧ pre x x2 ∧ ∀ w G' H', Gr M0 G H G' H' → rep G' w (f x x2) → Q w H'
def sp3 (pre : α → β → γ → Prop) (f : α → β → γ → δ) : Sp := fun vs H Q _ => ∃ v x v2 x2 v3 x3 G, vs = [v, v2, v3] ∧ Same G H ∧ rep G v x ∧ rep G v2 x2 ∧ rep G v3 x3 ∧ pre x x2 x3 ∧ ∀ w G' H', Gr M0 G H G' H' → rep G' w (f x x2 x3) → Q w H'
def sp4 (pre : α → β → γ → δ → Prop) (f : α → β → γ → δ → ε) : Sp := fun vs H Q _ => ∃ v x v2 x2 v3 x3 v4 x4 G, vs = [v, v2, v3, v4] ∧ Same G H ∧ rep G v x ∧ rep G v2 x2 ∧ rep G v3 x3 ∧ rep G v4 x4 ∧ pre x x2 x3 x4 ∧ ∀ w G' H', Gr M0 G H G' H' → rep G' w (f x x2 x3 x4) → Q w H'
variable {x2 : β} {x3 : γ} {x4 : δ} {x5 : ε}
theorem ev_call1 {pre : α → Prop} {f : α → β} (ha : Ev ta σ G x) (hp : pre x) : Ev (tCall (sp1 pre f) [] E0 (tCons ta tNil)) σ G (f x) := fun H i Q q =>
  ha H i _ fun v G1 H1 g1 k1 => ⟨v, x, G1, rfl, g1.i, k1, hp, fun w G' H' g k => q w G' H' (g1.trans g) k⟩
theorem ev_call2 {pre : α → β → Prop} {f : α → β → γ} (ha : Ev ta σ G x) (hb : Ev tb σ G x2) (hp : pre x x2) : Ev (tCall (sp2 pre f) [] E0 (tCons ta (tCons tb tNil))) σ G (f x x2) := fun H i Q q =>
  ha H i _ fun v G1 H1 g1 k1 => (hb.mono g1.g) H1 g1.i _ fun v2 G2 H2 g2 k2 => ⟨v, x, v2, x2, G2, rfl, g2.i, Rep.mono g2.g k1, k2, hp, fun w G' H' g k => q w G' H' ((g1.trans g2).trans g) k⟩
theorem ev_call3 {pre : α → β → γ → Prop} {f : α → β → γ → δ} (ha : Ev ta σ G x) (hb : Ev tb σ G x2) (hc : Ev tc σ G x3) (hp : pre x x2 x3) : Ev (tCall (sp3 pre f) [] E0 (tCons ta (tCons tb (tCons tc tNil)))) σ G (f x x2 x3) := fun H i Q q =>
  ha H i _ fun v G1 H1 g1 k1 => (hb.mono g1.g) H1 g1.i _ fun v2 G2 H2 g2 k2 => (hc.mono (g1.g.trans g2.g)) H2 g2.i _ fun v3 G3 H3 g3 k3 =>
    ⟨v, x, v2, x2, v3, x3, G3, rfl, g3.i, Rep.mono (g2.g.trans g3.g) k1, Rep.mono g3.g k2, k3, hp, fun w G' H' g k => q w G' H' (((g1.trans g2).trans g3).trans g) k⟩
theorem ev_call4 {pre : α → β → γ → δ → Prop} {f : α → β → γ → δ → ε} (ha : Ev ta σ G x) (hb : Ev tb σ G x2) (hc : Ev tc σ G x3) (hd : Ev td σ G x4) (hp : pre x x2 x3 x4) : Ev (tCall (sp4 pre f) [] E0 (tCons ta (tCons tb (tCons tc (tCons td tNil))))) σ G (f x x2 x3 x4) := fun H i Q q =>
  ha H i _ fun v G1 H1 g1 k1 => (hb.mono g1.g) H1 g1.i _ fun v2 G2 H2 g2 k2 => (hc.mono (g1.g.trans g2.g)) H2 g2.i _ fun v3 G3 H3 g3 k3 => (hd.mono ((g1.g.trans g2.g).trans g3.g)) H3 g3.i _ fun v4 G4 H4 g4 k4 =>
    ⟨v, x, v2, x2, v3, x3, v4, x4, G4, rfl, g4.i, Rep.mono ((g2.g.trans g3.g).trans g4.g) k1, Rep.mono (g3.g.trans g4.g) k2, Rep.mono g4.g k3, k4, hp, fun w G' H' g k => q w G' H' ((((g1.trans g2).trans g3).trans g4).trans g) k⟩
end

/-! ### a def of the text -/
structure Tx (K : Fg) (mg : Str → Option Value) (x : Str) (ps : List Str) (st : Stmt) : Prop where
  ex : ∃ f fd, Fun K x x st f fd ∧ Binds K fd ps [] ∧ mg x = some (.ref f)
structure Df (P : Program) (w : World) (K : Fg) (mg : Str → Option Value) (base : Heap) (k : Nat) (x : Str) (ps : List Str) (sp : Sp) : Prop where
  ex : ∃ f fd, FnOk P w K mg base CX0 k f fd ps sp ∧ Binds K fd ps [] ∧ PySem.W.keepIn K (.ref f) = true ∧ mg x = some (.ref f)
section
variable {P : Program} {w : World} {K : Fg} {mg : Str → Option Value} {base : Heap}
theorem Tx.ok {x : Str} {st : Stmt} {N ps : List Str} {k : Nat} {sp : Sp} (T : Tx K mg x ps st) (S : FnScope N ps (defScope st)) (len : ∀ vs H Q E, sp vs H Q E → vs.length = ps.length)
    (hbody : ∀ (cdv : Value) (f : Addr) (A : Around) (outer : List Env) (s : Shared) (H : Hp) (vs : List V) (Q : VK) (E : XK), Room k (A.deeper (envOfC x (defScope st) s.heap.objs.size f cdv)) → sp vs H Q E →
      ∃ t, PSs (cxOf CX0 P w K mg base N x (defScope st) f cdv A outer s H E).nox (defBody st) t ∧ t { nx := fun _ H' => Q .non H', rt := Q } (start N vs) H) : Df P w K mg base (k + 1) x ps sp := by
  obtain ⟨f, fd, F, b, m⟩ := T.ex
  exact ⟨f, fd, F.ok S len fun cdv A outer s H vs Q E hr h => hbody cdv f A outer s H vs Q E hr h, b, F.kp, m⟩
theorem Df.mono {j k : Nat} {x : Str} {ps : List Str} {sp : Sp} (D : Df P w K mg base j x ps sp) (h : j ≤ k) : Df P w K mg base k x ps sp := by
  obtain ⟨f, fd, F, r⟩ := D.ex
  exact ⟨f, fd, F.mono h, r⟩
theorem Df.imp {k : Nat} {x : Str} {ps : List Str} {sp sp' : Sp} (D : Df P w K mg base k x ps sp) (h : ∀ vs H Q E, sp' vs H Q E → sp vs H Q E) : Df P w K mg base k x ps sp' := by
  obtain ⟨f, fd, F, r⟩ := D.ex
  exact ⟨f, fd, F.imp h, r⟩
theorem pe_df {X : Cx} {j k : Nat} {x : Str} {ps : List Str} {sp : Sp} {p pos : Pos} {e : Expr} {es : List Expr} {t : TA} (D : Df X.prog X.w X.K X.mg X.base j x ps sp) (hr : Room k X.A) (le : j ≤ k) (hg : Gl X x)
    (ha : PA X (e :: es) t) (hdb : (x == ("__debug__" : Str)) = false := by decide) (he : starEach (e :: es) X.env = (false, eval e X.env) :: starEach es X.env := by rfl) (hpl : (backTo pos (starEach es X.env)).any (·.1) = false := by rfl) :
    PE X (.Call (.Name x p) (e :: es) [] pos) (tCall sp [] E0 t) := by
  obtain ⟨f, fd, F, b, kp, m⟩ := D.ex
  exact pe_call F (hr.mono le) hg m kp b .nil pass0 ha hdb he hpl
end
def Bl (mg : Str → Option Value) : Prop := ∀ x ∈ (["len", "range", "sum", "abs", "min", "max", "int", "bool", "str", "list", "tuple", "set", "dict", "sorted", "all", "any", "enumerate", "zip", "reversed", "isinstance", "divmod"] : List Str), mg x = none
end Pf

namespace Pf
open PySem PySem.Spec PyProof.Rows L2
section
variable {α β γ δ : Type} [Rep α] [Rep β] [Rep γ] [Rep δ]
/-! ### what is walked -/
structure ItOk (J : It) (G : Hp) (xs : List α) : Prop where
  go : ∀ k H, Same G H → k < xs.length → J.go k H
  stop : ∀ k H, Same G H → xs.length ≤ k → J.stop k H
  yld : ∀ k H v H' G1 x, Same G G1 → Same G1 H → J.yld k H v H' → xs[k]? = some x → ∃ G2, Gr M0 G1 H G2 H' ∧ rep G2 v x
def EvI (wi : TI) (σ : L2.St) (G : Hp) (xs : List α) : Prop := ∀ H, Same G H → ∀ R : It → Hp → Prop, (∀ J G' H', Gr M0 G H G' H' → ItOk J G' xs → R J H') → wi σ H R
variable {σ : L2.St} {G H G1 H1 : Hp} {te ta tb tc td tf : TE} {tt tu : TT} {x : α} {y : β} {z : γ} {K : Fg}
theorem ei_list {xs : List α} (h : Ev te σ G xs) : EvI (iList K te) σ G xs := fun H i R q => h H i _ fun v G' H' g k => by
  obtain ⟨a, vs, rfl, h2, h3⟩ := k
  refine ⟨a, rfl, ⟨vs, .inl (.inl (g.i _ _ h2))⟩, q _ G' H' g ⟨fun k H s l => ?_, fun k H s l => ?_, fun k H v H' G1 x s1 s2 y e => ?_⟩⟩
  · obtain ⟨v, e, _⟩ := paired_get h3 (List.getElem?_eq_getElem l)
    exact ⟨vs, v, .inl (.inl (s _ _ h2)), e⟩
  · exact ⟨vs, .inl (.inl (s _ _ h2)), by rw [paired_len h3]; exact l⟩
  · obtain ⟨rfl, y⟩ := y
    have e1 := y vs (.inl (.inl (s2 _ _ (s1 _ _ h2))))
    obtain ⟨x', e2, r⟩ := paired_get' h3 e1
    rw [e] at e2
    cases e2
    exact ⟨G1, Gr.refl s2, Rep.mono s1 r⟩
theorem ei_tup {xs : Tup α} (h : Ev te σ G xs) : EvI (iTup K te) σ G xs.l := fun H i R q => h H i _ fun v G' H' g k => by
  obtain ⟨a, vs, rfl, h2, h3⟩ := k
  refine ⟨a, rfl, ⟨vs, .inl (.inl (g.i _ _ h2))⟩, q _ G' H' g ⟨fun k H s l => ?_, fun k H s l => ?_, fun k H v H' G1 x s1 s2 y e => ?_⟩⟩
  · obtain ⟨v, e, _⟩ := paired_get h3 (List.getElem?_eq_getElem l)
    exact ⟨vs, v, .inl (.inl (s _ _ h2)), e⟩
  · exact ⟨vs, .inl (.inl (s _ _ h2)), by rw [paired_len h3]; exact l⟩
  · obtain ⟨rfl, y⟩ := y
    have e1 := y vs (.inl (.inl (s2 _ _ (s1 _ _ h2))))
    obtain ⟨x', e2, r⟩ := paired_get' h3 e1
    rw [e] at e2
    cases e2
    exact ⟨G1, Gr.refl s2, Rep.mono s1 r⟩
/-- lo, lo + 1 .. below hi -/
def rng (lo hi : Int) : List Int := (List.range (hi - lo).toNat).map fun (k : Nat) => lo + (k : Int)
theorem rng_len (lo hi : Int) : (rng lo hi).length = (hi - lo).toNat := by unfold rng; rw [List.length_map, List.length_range]
theorem rng_get {lo hi : Int} {k : Nat} {x : Int} (h : (rng lo hi)[k]? = some x) : x = lo + k ∧ k < (hi - lo).toNat := by
  unfold rng at h
  rw [List.getElem?_map] at h
  by_cases hk : k < (hi - lo).toNat
  · rw [List.getElem?_range hk] at h
    exact ⟨(Option.some.inj h).symm, hk⟩
  · rw [List.getElem?_eq_none (by rw [List.length_range]; omega)] at h
    cases h
theorem rng_mem {lo hi x : Int} : x ∈ rng lo hi ↔ lo ≤ x ∧ x < hi := by
  unfold rng
  rw [List.mem_map]
  constructor
  · rintro ⟨k, hk, rfl⟩
    rw [List.mem_range] at hk
    omega
  · rintro ⟨h1, h2⟩
    exact ⟨(x - lo).toNat, by rw [List.mem_range]; omega, by omega⟩
theorem it_rng {lo hi : Int} {n : Nat} {G' : Hp} (e : n = (hi - lo).toNat) : ItOk (Itr lo n) G' (rng lo hi) := by
  subst e
  refine ⟨fun k H s l => ?_, fun k H s l => ?_, fun k H v H' G1 x s1 s2 y e => ?_⟩
  · rw [rng_len] at l; exact l
  · rw [rng_len] at l; exact l
  · obtain ⟨rfl, rfl⟩ := y
    obtain ⟨rfl, _⟩ := rng_get e
    exact ⟨G1, Gr.refl s2, rfl⟩
theorem ei_r1 {j : Int} (h : Ev ta σ G j) (b : -(2 ^ 62) ≤ j ∧ j < 2 ^ 62) : EvI (iRng1 (tCons ta tNil)) σ G (rng 0 j) := fun H i R q => h H i _ fun v G' H' g k =>
  ⟨j, by rw [rep_int k], b.1, b.2, q _ G' H' g (it_rng (by omega))⟩
theorem ei_r2 {i j : Int} (ha : Ev ta σ G i) (hb : Ev tb σ G j) (b : -(2 ^ 62) ≤ i ∧ i < 2 ^ 62 ∧ -(2 ^ 62) ≤ j ∧ j < 2 ^ 62) : EvI (iRng2 (tCons ta (tCons tb tNil))) σ G (rng i j) := fun H hi R q =>
  ha H hi _ fun v G1 H1 g1 k1 => (hb.mono g1.g) H1 g1.i _ fun u G2 H2 g2 k2 => ⟨i, j, by rw [rep_int k1, rep_int k2], b, q _ G2 H2 (g1.trans g2) (it_rng rfl)⟩
theorem EvI.cast {wi : TI} {xs ys : List α} (h : EvI wi σ G xs) (e : xs = ys) : EvI wi σ G ys := e ▸ h

/-! ### targets -/
def GB (g : TG) (v : V) (σ : L2.St) (G : Hp) (R : L2.St → Prop) : Prop := ∀ H, Same G H → ∀ Q : L2.St → Hp → Prop, (∀ σ2, R σ2 → Q σ2 H) → g v σ H Q
variable {g : TG} {v : V} {R : L2.St → Prop}
theorem gb_name {i : Nat} (h : R (σ.set i (some v))) : GB (gName i) v σ G R := fun H _ Q q => q _ h
theorem gb_pair {i j : Nat} (hv : rep G v (x, y)) (h : ∀ u w, rep G u x → rep G w y → R ((σ.set i (some u)).set j (some w))) : GB (gTup K 2 (gCons (gName i) (gCons (gName j) gNil))) v σ G R := fun H s Q q => by
  obtain ⟨a, u, w, rfl, h2, h3, h4⟩ := hv
  exact ⟨a, [u, w], rfl, .inl (.inl (s _ _ h2)), rfl, u, [w], rfl, w, [], rfl, rfl, q _ (h u w h3 h4)⟩
theorem gb_pair' {p : α × β} {i j : Nat} (hv : rep G v p) (h : ∀ u w, rep G u p.1 → rep G w p.2 → R ((σ.set i (some u)).set j (some w))) : GB (gTup K 2 (gCons (gName i) (gCons (gName j) gNil))) v σ G R := gb_pair (x := p.1) (y := p.2) hv h
/-! ### comprehensions -/
theorem ev_lcf {wi : TI} {vs : List Nat} {xs : List α} {p : α → Bool} {f : α → β} (hx : EvI wi σ G xs) (hl : xs.length ≤ 100000)
    (hb : ∀ x ∈ xs, ∀ v G1, Same G G1 → rep G1 v x → GB g v (wipe σ vs) G1 fun σ2 => wipe σ2 vs = wipe σ vs ∧ EvT tt σ2 G1 (p x) ∧ (p x = true → Ev te σ2 G1 (f x))) : Ev (tLc wi g tt te vs) σ G ((xs.filter p).map f) := fun H i Q q => by
  refine hx H i _ fun J G1 H1 g1 ok D nD => ?_
  have nG : G1 D = none := by
    cases e : G1 D with
    | none => rfl
    | some o => rw [g1.i _ _ e] at nD; cases nD
  refine ⟨fun k m H => m = xs.length - k ∧ k ≤ xs.length ∧ ∃ Gk, Gr M0 G1 H1 Gk H ∧ Ml Gk H D (((xs.take k).filter p).map f), ⟨_, rfl, Nat.zero_le _, G1, (Gr.refl g1.i).mut (.inl nD) nG, nG, [], upd_same, .nil⟩, ?_⟩
  rintro k m H2 ⟨rfl, hk, Gk, gk, ml⟩
  by_cases hlt : k < xs.length
  · refine .inr ⟨ok.go k H2 (gk.g.trans gk.i) hlt, fun H' => ∃ Gk, Gr M0 G1 H1 Gk H' ∧ Ml Gk H' D (((xs.take (k + 1)).filter p).map f), fun H' h' => ⟨xs.length - (k + 1), by omega, rfl, hlt, h'⟩, fun v H3 yl => ?_⟩
    have hxk : xs[k]? = some xs[k] := List.getElem?_eq_getElem hlt
    obtain ⟨G3, g3, r3⟩ := ok.yld k H2 v H3 Gk xs[k] gk.g gk.i yl hxk
    have g13 := gk.trans g3
    have et : ((xs.take (k + 1)).filter p).map f = ((xs.take k).filter p).map f ++ (if p xs[k] = true then [f xs[k]] else []) := by
      rw [List.take_add_one, hxk, List.filter_append, List.map_append]
      congr 1
      show ((([xs[k]] : List α)).filter p).map f = _
      by_cases hp : p xs[k] = true
      · rw [if_pos hp, List.filter_cons, if_pos hp]; rfl
      · rw [if_neg hp, List.filter_cons, if_neg hp]; rfl
    refine hb xs[k] (List.getElem_mem hlt) v G3 (g1.g.trans g13.g) r3 H3 g3.i _ fun σ2 ⟨hw, ht, he⟩ => ⟨hw, ?_⟩
    refine ht H3 g3.i _ fun G4 H4 g4 => ?_
    have ml4 := (ml.step0 g3).step0 g4
    refine ite2 (fun hp => ?_) (fun hp => ?_)
    · refine ((he hp).mono g4.g) H4 g4.i _ fun y G5 H5 g5 r5 => ?_
      have ml5 := ml4.step0 g5
      obtain ⟨n5, acc, e5, p5⟩ := ml5
      refine ⟨acc, e5, sl_lt ?_, G5, ((g13.trans g4).trans g5).mut (.inl nD) n5, n5, acc ++ [y], upd_same, ?_⟩
      · rw [paired_len p5, List.length_map]
        exact Nat.lt_of_le_of_lt (Nat.le_trans (List.length_filter_le _ _) (by rw [List.length_take]; exact Nat.min_le_left _ _)) (by omega)
      · rw [et, if_pos hp]
        exact paired_app p5 (.cons r5 .nil)
    · refine ⟨G4, g13.trans g4, ?_⟩
      rw [et, if_neg hp, List.append_nil]
      exact ml4
  · have e : xs.take k = xs := List.take_of_length_le (by omega)
    rw [e] at ml
    obtain ⟨n5, acc, e5, p5⟩ := ml
    exact .inl ⟨ok.stop k H2 (gk.g.trans gk.i) (by omega), q _ (upd Gk D (.lst acc)) H2 (g1.trans (gk.still nD n5 e5)) ⟨D, acc, rfl, upd_same, paired_mono (same_new n5) p5⟩⟩
theorem ev_lc {wi : TI} {vs : List Nat} {xs : List α} {f : α → β} (hx : EvI wi σ G xs) (hl : xs.length ≤ 100000)
    (hb : ∀ x ∈ xs, ∀ v G1, Same G G1 → rep G1 v x → GB g v (wipe σ vs) G1 fun σ2 => wipe σ2 vs = wipe σ vs ∧ Ev te σ2 G1 (f x)) : Ev (tLc wi g tYes te vs) σ G (xs.map f) := by
  have h := ev_lcf (σ := σ) (G := G) (g := g) (tt := tYes) (te := te) (vs := vs) (p := fun _ => true) (f := f) hx hl fun x hx v G1 s r H i Q q => hb x hx v G1 s r H i Q fun σ2 ⟨h1, h2⟩ => q σ2 ⟨h1, et_yes, fun _ => h2⟩
  rw [List.filter_eq_self.mpr (fun _ _ => rfl)] at h
  exact h

/-! ### statements -/
variable {D : Ends} {ts tr : TS}
theorem st_set {i : Nat} (h : Ev te σ G x) (s : Same G H) (k : ∀ v G' H', Gr M0 G H G' H' → rep G' v x → D.nx (σ.set i (some v)) H') : tAsg te (gName i) D σ H := h H s _ k
theorem st_ret (h : Ev te σ G x) (s : Same G H) (k : ∀ v G' H', Gr M0 G H G' H' → rep G' v x → D.rt v H') : tRet te D σ H := h H s _ k
theorem st_if {b : Bool} (h : EvT tt σ G b) (s : Same G H) (k1 : b = true → ∀ G' H', Gr M0 G H G' H' → ts D σ H') (k2 : b = false → ∀ G' H', Gr M0 G H G' H' → tr D σ H') : tIfS tt ts tr D σ H :=
  h H s _ fun G' H' g => ite2 (fun e => k1 e G' H' g) (fun e => k2 (by simpa using e) G' H' g)
/-- xs.append(e), xs still being made -/
theorem st_append {i : Nat} {p : Addr} {xs : List α} (hv : σ[i]? = some (some (.ref p))) (m : Ml G H p xs) (h : Ev te σ G x) (s : Same G H) (hl : xs.length < 100000)
    (k : ∀ G' H' o, Gr M0 G H G' H' → Ml G' (upd H' p o) p (xs ++ [x]) → Same G' (upd H' p o) → D.nx σ (upd H' p o)) : tDrop (tBM K "list" rAppend (tVar i) (tCons te tNil)) D σ H := by
  refine ⟨.ref p, hv, .inl ⟨rfl, m.sq⟩, h H s _ fun v G' H' g r => ?_⟩
  obtain ⟨n, acc, e, pa⟩ := m.step0 g
  exact ⟨p, acc, v, rfl, rfl, e, sl_lt (by rw [paired_len pa]; exact hl), k G' H' _ g ⟨n, _, upd_same, paired_app pa (.cons r .nil)⟩ (same_mut g.i n)⟩
/-- a new list that is still being made -/
theorem st_newlist {i : Nat} {tr : TA} {xs : List α} (h : EvAs tr σ G xs) (s : Same G H) (hl : xs.length ≤ 100000) (k : ∀ p G' H' o, Gr M0 G H G' H' → H' p = none → Ml G' (upd H' p o) p xs → Same G' (upd H' p o) → D.nx (σ.set i (some (.ref p))) (upd H' p o)) :
    tAsg (tLst tr) (gName i) D σ H := h H s _ fun vs G1 H1 g1 k1 => ⟨by rw [paired_len k1]; exact sl_small hl, fun p np => by
      have nG : G1 p = none := by
        cases e : G1 p with
        | none => rfl
        | some o => rw [g1.i _ _ e] at np; cases np
      exact k p G1 H1 (.lst vs) g1 np ⟨nG, vs, upd_same, k1⟩ (same_mut g1.i nG)⟩
/-- for target in xs: .. -/
theorem st_for {wi : TI} {xs : List α} (P : Nat → L2.St → Hp → Hp → Prop) (hx : EvI wi σ G xs) (s : Same G H)
    (h0 : ∀ G' H', Gr M0 G H G' H' → P 0 σ G' H')
    (hs : ∀ k x v σ' G1 H1 G2 H2, xs[k]? = some x → Same G G1 → Same G1 H1 → P k σ' G1 H1 → Gr M0 G1 H1 G2 H2 → rep G2 v x →
      g v σ' H2 fun σ2 H3 => ts { D with nx := fun σ3 H3 => ∃ G3, Same G1 G3 ∧ Same G3 H3 ∧ P (k + 1) σ3 G3 H3, ct := fun σ3 H3 => ∃ G3, Same G1 G3 ∧ Same G3 H3 ∧ P (k + 1) σ3 G3 H3, bk := D.nx } σ2 H3)
    (hd : ∀ σ' G' H', Same G G' → Same G' H' → P xs.length σ' G' H' → D.nx σ' H') : tFor wi g ts D σ H := by
  refine hx H s _ fun J G1 H1 g1 ok => ?_
  refine ⟨fun k m σ' H' => m = xs.length - k ∧ k ≤ xs.length ∧ ∃ Gk, Same G1 Gk ∧ Same Gk H' ∧ P k σ' Gk H', ⟨_, rfl, Nat.zero_le _, G1, Same.refl G1, g1.i, h0 G1 H1 g1⟩, ?_⟩
  rintro k m σ' H2 ⟨rfl, hk, Gk, sg, sh, pk⟩
  by_cases hlt : k < xs.length
  · refine .inr ⟨ok.go k H2 (sg.trans sh) hlt, fun σ3 H3 => ∃ G3, Same Gk G3 ∧ Same G3 H3 ∧ P (k + 1) σ3 G3 H3, fun σ3 H3 h3 => ?_, fun v H3 yl => ?_⟩
    · obtain ⟨G3, e1, e2, e3⟩ := h3
      exact ⟨xs.length - (k + 1), by omega, rfl, hlt, G3, sg.trans e1, e2, e3⟩
    · obtain ⟨G3, g3, r3⟩ := ok.yld k H2 v H3 Gk xs[k] sg sh yl (List.getElem?_eq_getElem hlt)
      have z := hs k xs[k] v σ' Gk H2 G3 H3 (List.getElem?_eq_getElem hlt) (g1.g.trans sg) sh pk g3 r3
      exact z
  · have e : k = xs.length := by omega
    subst e
    exact .inl ⟨ok.stop _ H2 (sg.trans sh) (Nat.le_refl _), hd σ' Gk H2 (g1.g.trans sg) sh pk⟩
/-! .. with what follows -/
variable {u : TS}
theorem sq_set {i : Nat} (h : Ev te σ G x) (s : Same G H) (k : ∀ v G' H', Gr M0 G H G' H' → rep G' v x → u D (σ.set i (some v)) H') : tSeq (tAsg te (gName i)) u D σ H := h H s _ k
/-- an if that only leaves or goes on -/
theorem sq_ifn {b : Bool} (h : EvT tt σ G b) (s : Same G H) (k1 : b = true → ∀ G' H', Gr M0 G H G' H' → ts { D with nx := u D } σ H') (k2 : b = false → ∀ G' H', Gr M0 G H G' H' → u D σ H') : tSeq (tIfS tt ts tNext) u D σ H :=
  st_if (D := { D with nx := u D }) (tr := tNext) h s k1 k2
theorem sq_append {i : Nat} {p : Addr} {xs : List α} (hv : σ[i]? = some (some (.ref p))) (m : Ml G H p xs) (h : Ev te σ G x) (s : Same G H) (hl : xs.length < 100000)
    (k : ∀ G' H' o, Gr M0 G H G' H' → Ml G' (upd H' p o) p (xs ++ [x]) → Same G' (upd H' p o) → u D σ (upd H' p o)) : tSeq (tDrop (tBM K "list" rAppend (tVar i) (tCons te tNil))) u D σ H := st_append (D := { D with nx := u D }) hv m h s hl k
theorem sq_newlist {i : Nat} {tr : TA} {xs : List α} (h : EvAs tr σ G xs) (s : Same G H) (hl : xs.length ≤ 100000) (k : ∀ p G' H' o, Gr M0 G H G' H' → H' p = none → Ml G' (upd H' p o) p xs → Same G' (upd H' p o) → u D (σ.set i (some (.ref p))) (upd H' p o)) :
    tSeq (tAsg (tLst tr) (gName i)) u D σ H := st_newlist (D := { D with nx := u D }) h s hl k
theorem sq_for {wi : TI} {xs : List α} (P : Nat → L2.St → Hp → Hp → Prop) (hx : EvI wi σ G xs) (s : Same G H)
    (h0 : ∀ G' H', Gr M0 G H G' H' → P 0 σ G' H')
    (hs : ∀ k x v σ' G1 H1 G2 H2, xs[k]? = some x → Same G G1 → Same G1 H1 → P k σ' G1 H1 → Gr M0 G1 H1 G2 H2 → rep G2 v x →
      g v σ' H2 fun σ2 H3 => ts { nx := fun σ3 H3 => ∃ G3, Same G1 G3 ∧ Same G3 H3 ∧ P (k + 1) σ3 G3 H3, rt := D.rt, ct := fun σ3 H3 => ∃ G3, Same G1 G3 ∧ Same G3 H3 ∧ P (k + 1) σ3 G3 H3, bk := u D } σ2 H3)
    (hd : ∀ σ' G' H', Same G G' → Same G' H' → P xs.length σ' G' H' → u D σ' H') : tSeq (tFor wi g ts) u D σ H := st_for (D := { D with nx := u D }) P hx s h0 hs hd
theorem up_none {G H : Hp} (i : Same G H) {p : Addr} (h : H p = none) : G p = none := by
  cases e : G p with
  | none => rfl
  | some u => rw [i _ _ e] at h; cases h
theorem gn {i : Nat} {Q : L2.St → Hp → Prop} (h : Q (σ.set i (some v)) H) : gName i v σ H Q := h
theorem gp {x : α × β} {i j : Nat} {Q : L2.St → Hp → Prop} (r : rep G v x) (s : Same G H) (h : ∀ u w, rep G u x.1 → rep G w x.2 → Q ((σ.set i (some u)).set j (some w)) H) : gTup K 2 (gCons (gName i) (gCons (gName j) gNil)) v σ H Q := by
  obtain ⟨a, u, w, rfl, h2, h3, h4⟩ := r
  exact ⟨a, [u, w], rfl, .inl (.inl (s _ _ h2)), rfl, u, [w], rfl, w, [], rfl, rfl, h u w h3 h4⟩
theorem Ml.frz {M : Addr → Prop} {Ge He : Hp} {p : Addr} {xs : List α} (m : Ml G H p xs) (g : Gr M Ge He G H) (np : He p = none) : ∃ G', Gr M Ge He G' H ∧ Pf.rep G' (.ref p) xs ∧ Same G G' := by
  obtain ⟨n, vs, e, pa⟩ := m
  exact ⟨upd G p (.lst vs), g.still np n e, ⟨p, vs, rfl, upd_same, paired_mono (same_new n) pa⟩, same_new n⟩
end
end Pf

namespace Pf
open PySem PySem.Spec PyProof.Rows L2
/-! ### data of any kind -/
mutual
def RD (G : Hp) : PyData → V → Prop
  | .none, v => v = .non
  | .bool b, v => v = .bl b
  | .int i, v => v = .int i
  | .str x, v => v = .str x
  | .list ds, v => ∃ a vs, v = .ref a ∧ G a = some (.lst vs) ∧ RDs G ds vs
  | .tuple ds, v => ∃ a vs, v = .ref a ∧ G a = some (.tup vs) ∧ RDs G ds vs
  | .dict _, _ => False
def RDs (G : Hp) : List PyData → List V → Prop
  | [], vs => vs = []
  | d :: ds, vs => ∃ v r, vs = v :: r ∧ RD G d v ∧ RDs G ds r
end
mutual
theorem RD.mono {G G' : Hp} (e : Same G G') : ∀ (d : PyData) (v : V), RD G d v → RD G' d v
  | .none, _, h => h
  | .bool _, _, h => h
  | .int _, _, h => h
  | .str _, _, h => h
  | .list ds, _, ⟨a, vs, h1, h2, h3⟩ => ⟨a, vs, h1, e _ _ h2, RDs.mono e ds vs h3⟩
  | .tuple ds, _, ⟨a, vs, h1, h2, h3⟩ => ⟨a, vs, h1, e _ _ h2, RDs.mono e ds vs h3⟩
  | .dict _, _, h => h
theorem RDs.mono {G G' : Hp} (e : Same G G') : ∀ (ds : List PyData) (vs : List V), RDs G ds vs → RDs G' ds vs
  | [], _, h => h
  | d :: ds, _, ⟨v, r, h1, h2, h3⟩ => ⟨v, r, h1, RD.mono e d v h2, RDs.mono e ds r h3⟩
end
instance : Rep PyData := ⟨fun G v d => RD G d v, fun e h => RD.mono e _ _ h⟩
theorem rds_paired {G : Hp} : ∀ {ds : List PyData} {vs : List V}, RDs G ds vs → Paired (rep G) vs ds
  | [], _, h => by cases (show _ = [] from h); exact .nil
  | d :: ds, _, ⟨v, r, h1, h2, h3⟩ => by subst h1; exact .cons h2 (rds_paired h3)
instance : Inhabited PyData := ⟨.none⟩
class Dat (α : Type) [Rep α] where
  dat : α → PyData
  rd : ∀ {G : Hp} {v : V} {x : α}, rep G v x → RD G (dat x) v
  inj : ∀ {x y : α}, dat x = dat y → x = y
abbrev dat {α : Type} [Rep α] [Dat α] : α → PyData := Dat.dat
instance : Dat Int := ⟨.int, fun h => h, fun h => by injection h⟩
instance : Dat Bool := ⟨.bool, fun h => h, fun h => by injection h⟩
instance : Dat Str := ⟨.str, fun h => h, fun h => by injection h⟩
instance : Dat PyData := ⟨id, fun h => h, fun h => h⟩
theorem paired_dat {α : Type} [Rep α] [Dat α] {G : Hp} : ∀ {vs : List V} {xs : List α}, Paired (rep G) vs xs → RDs G (xs.map dat) vs
  | _, _, .nil => rfl
  | _, _, .cons r t => ⟨_, _, rfl, Dat.rd r, paired_dat t⟩
theorem map_dat_inj {α : Type} [Rep α] [Dat α] : ∀ {xs ys : List α}, xs.map dat = ys.map dat → xs = ys
  | [], [], _ => rfl
  | [], _ :: _, h => by cases h
  | _ :: _, [], h => by cases h
  | x :: xs, y :: ys, h => by
    injection h with h1 h2
    rw [Dat.inj h1, map_dat_inj h2]
instance {α : Type} [Rep α] [Dat α] : Dat (List α) := ⟨fun xs => .list (xs.map dat), fun ⟨a, vs, h1, h2, h3⟩ => ⟨a, vs, h1, h2, paired_dat h3⟩, fun h => by injection h with h; exact map_dat_inj h⟩
instance {α : Type} [Rep α] [Dat α] : Dat (Tup α) := ⟨fun xs => .tuple (xs.l.map dat), fun ⟨a, vs, h1, h2, h3⟩ => ⟨a, vs, h1, h2, paired_dat h3⟩, fun {x y} h => by
  injection h with h
  cases x; cases y
  exact congrArg Tup.mk (map_dat_inj h)⟩
instance {α β : Type} [Rep α] [Dat α] [Rep β] [Dat β] : Dat (α × β) := ⟨fun x => .tuple [dat x.1, dat x.2], fun ⟨a, u, w, h1, h2, h3, h4⟩ => ⟨a, [u, w], h1, h2, u, [w], rfl, Dat.rd h3, w, [], rfl, Dat.rd h4, rfl⟩, fun {x y} h => by
  injection h with h
  injection h with h1 h
  injection h with h2 h
  cases x; cases y
  exact congr (congrArg Prod.mk (Dat.inj h1)) (Dat.inj h2)⟩
instance {α β γ : Type} [Rep α] [Dat α] [Rep β] [Dat β] [Rep γ] [Dat γ] : Dat (Tri α β γ) := ⟨fun x => .tuple [dat x.a, dat x.b, dat x.c], fun ⟨a, u, w, z, h1, h2, h3, h4, h5⟩ => ⟨a, [u, w, z], h1, h2, u, [w, z], rfl, Dat.rd h3, w, [z], rfl, Dat.rd h4, z, [], rfl, Dat.rd h5, rfl⟩, fun {x y} h => by
  injection h with h
  injection h with h1 h
  injection h with h2 h
  injection h with h3 h
  cases x; cases y
  exact congr (congr (congrArg Tri.mk (Dat.inj h1)) (Dat.inj h2)) (Dat.inj h3)⟩
section
variable {α β γ : Type} [Rep α] [Rep β] [Rep γ] {σ : L2.St} {G : Hp} {te ta tb : TE} {x : α} {K : Fg}
theorem ev_dat [Dat α] (h : Ev te σ G x) : Ev te σ G (dat x) := fun H i Q q => h H i Q fun v G' H' g r => q v G' H' g (Dat.rd r)
/-! is None, isinstance -/
abbrev rIsN : R2 := fun x y H Q => y = .non ∧ Q (.bl (decide (x = .non))) H
def isNone : PyData → Bool
  | .none => true
  | _ => false
theorem rd_none {G : Hp} {d : PyData} {v : V} (h : RD G d v) : decide (v = .non) = isNone d := by
  cases d with
  | none => rw [show v = .non from h]; rfl
  | bool b => rw [show v = .bl b from h]; rfl
  | int b => rw [show v = .int b from h]; rfl
  | str b => rw [show v = .str b from h]; rfl
  | list ds => obtain ⟨a, vs, e, _⟩ := h; rw [e]; rfl
  | tuple ds => obtain ⟨a, vs, e, _⟩ := h; rw [e]; rfl
  | dict _ => exact h.elim
theorem ev_isN {d : PyData} (h : Ev ta σ G d) : Ev (tOp rIsN ta (tC .non)) σ G (isNone d) := fun H i Q q => h H i _ fun v G' H' g r => ⟨rfl, q _ G' H' g (by rw [rd_none r]; rfl)⟩
def tyD : PyData → String
  | .none => "NoneType"
  | .bool _ => "bool"
  | .int _ => "int"
  | .str _ => "str"
  | .list _ => "list"
  | .tuple _ => "tuple"
  | .dict _ => "dict"
theorem rd_ty {G H : Hp} {d : PyData} {v : V} (h : RD G d v) (i : Same G H) : TyX K H v (.type (tyD d)) := by
  cases d with
  | none => rw [show v = .non from h]; exact .base .non
  | bool b => rw [show v = .bl b from h]; exact .base (.bl b)
  | int b => rw [show v = .int b from h]; exact .base (.int b)
  | str b => rw [show v = .str b from h]; exact .base (.str b)
  | list ds => obtain ⟨a, vs, e, e2, _⟩ := h; rw [e]; exact .base (.lst (i _ _ e2))
  | tuple ds => obtain ⟨a, vs, e, e2, _⟩ := h; rw [e]; exact .base (.tup (i _ _ e2))
  | dict _ => exact h.elim
def isTy (T : String) (d : PyData) : Bool := tyD d == T || (tyD d == "bool" && T == "int")
abbrev tys : List String := ["NoneType", "bool", "int", "str", "list", "tuple", "dict"]
abbrev Tys : List String := ["bool", "int", "str", "list", "tuple"]
theorem kit_tab : ∀ t ∈ tys, ∀ T ∈ Tys, kitB t T = some (t == T || (t == "bool" && T == "int")) := by decide +kernel
theorem tyD_mem (d : PyData) : tyD d ∈ tys := by cases d <;> simp [tyD]
theorem kit_is (d : PyData) {T : String} (h : T ∈ Tys) : kitB (tyD d) T = some (isTy T d) := kit_tab _ (tyD_mem d) T h
theorem ev_isi {d : PyData} {T : String} (h : Ev ta σ G d) (hk : T ∈ Tys) : Ev (tCB (rIsi K) (tCons ta (tCons (tC (.ty T)) tNil))) σ G (isTy T d) := fun H i Q q => h H i _ fun v G' H' g r =>
  ⟨v, .ty T, _, _, isTy T d, rfl, .ty T, rd_ty r g.i, kit_ty (kit_is d hk), q _ G' H' g rfl⟩
theorem ev_isiT {d : PyData} {T U : String} (h : Ev ta σ G d) (h1 : T ∈ Tys) (h2 : U ∈ Tys) :
    Ev (tCB (rIsiT K) (tCons ta (tCons (tTup (tCons (tC (.ty T)) (tCons (tC (.ty U)) tNil))) tNil))) σ G (isTy T d || isTy U d) := fun H i Q q => h H i _ fun v G' H' g r => by
  refine ⟨by show 2 ≤ sizeLine; decide, fun p np => ?_⟩
  have g2 := gr_new (o := .tup [.ty T, .ty U]) g.i np
  refine ⟨v, p, [.ty T, .ty U], _, [.type T, .type U], isTy T d || isTy U d, rfl, upd_same, .cons (.ty T) (.cons (.ty U) .nil), rd_ty r (g.i.trans g2.same), ?_, q _ _ _ (g.trans g2) rfl⟩
  refine kitAny_cons (kit_ty (kit_is d h1)) (fun e => kitAny_cons (kit_ty (kit_is d h2)) (fun e2 => ?_) (fun e2 => ?_)) (fun e => ?_)
  · rw [e, e2]; exact kitAny_nil
  · rw [e2]; exact Bool.or_true _
  · rw [e]; rfl
theorem ev_eqD {d e : PyData} (ha : Ev ta σ G d) (hb : Ev tb σ G e) (b : Bool) (hs : ∀ G v u, RD G d v → RD G e u → scal v u = true ∧ decide (v = u) = b) : Ev (tOp rEq ta tb) σ G b :=
  ev2 ha hb fun v u G' _ k1 k2 H h Q q => by
    obtain ⟨h1, h2⟩ := hs G' v u k1 k2
    exact ⟨h1, q _ G' H (Gr.refl h) (by rw [h2]; rfl)⟩
def itemsD : PyData → List PyData
  | .list ds => ds
  | .tuple ds => ds
  | _ => []
def isSeq : PyData → Bool
  | .list _ => true
  | .tuple _ => true
  | _ => false
theorem ev_lenD {d : PyData} (h : Ev ta σ G d) (hs : isSeq d = true) : Ev (tCB (rLen K) (tCons ta tNil)) σ G ((itemsD d).length : Int) := ev_B1 h fun v G' H _ i k Q q => by
  cases d with
  | list ds =>
    obtain ⟨a, vs, rfl, h2, h3⟩ := k
    exact ⟨a, vs, rfl, .inl (.inl (.inl (i _ _ h2))), q _ G' H (Gr.refl i) (by rw [paired_len (rds_paired h3)]; rfl)⟩
  | tuple ds =>
    obtain ⟨a, vs, rfl, h2, h3⟩ := k
    exact ⟨a, vs, rfl, .inr (.inl (.inl (i _ _ h2))), q _ G' H (Gr.refl i) (by rw [paired_len (rds_paired h3)]; rfl)⟩
  | _ => cases hs
theorem ev_ixD {d : PyData} {n : Int} (ha : Ev ta σ G d) (hb : Ev tb σ G n) (hs : isSeq d = true) (h : 0 ≤ n ∧ n < (itemsD d).length) : Ev (tOp (rIx K) ta tb) σ G (ix (itemsD d) n) :=
  ev2 ha hb fun v u G' _ k1 k2 H hh Q q => by
    cases k2
    cases d with
    | list ds =>
      obtain ⟨a, vs, rfl, h2, h3⟩ := k1
      obtain ⟨w, e1, e2⟩ := at_ix (rds_paired h3) h
      exact .inl ⟨a, vs, n, w, rfl, rfl, .inl (.inl (hh _ _ h2)), e1, q w G' H (Gr.refl hh) e2⟩
    | tuple ds =>
      obtain ⟨a, vs, rfl, h2, h3⟩ := k1
      obtain ⟨w, e1, e2⟩ := at_ix (rds_paired h3) h
      exact .inr (.inl ⟨a, vs, n, w, rfl, rfl, .inl (.inl (hh _ _ h2)), e1, q w G' H (Gr.refl hh) e2⟩)
    | _ => cases hs
end
/-! ### data compared -/
def isDict : PyData → Bool
  | .dict _ => true
  | _ => false
def OkN : Nat → PyData → Prop
  | 0, d => isSeq d = false ∧ isDict d = false
  | n + 1, d => isDict d = false ∧ (itemsD d).length ≤ 100000 ∧ ∀ e ∈ itemsD d, OkN n e
theorem okN_flat (n : Nat) {d : PyData} (h : isSeq d = false) (h2 : isDict d = false) : OkN n d := by
  cases n with
  | zero => exact ⟨h, h2⟩
  | succ n =>
    have e : itemsD d = [] := by cases d <;> first | rfl | cases h
    exact ⟨h2, by rw [e]; decide, fun x hx => by rw [e] at hx; cases hx⟩
theorem okN_int (n : Nat) (i : Int) : OkN n (dat i) := okN_flat n rfl rfl
theorem okN_str (n : Nat) (i : Str) : OkN n (dat i) := okN_flat n rfl rfl
theorem okN_tup {α : Type} [Rep α] [Dat α] {n : Nat} {xs : Tup α} (h : xs.l.length ≤ 100000) (k : ∀ x ∈ xs.l, OkN n (dat x)) : OkN (n + 1) (dat xs) :=
  ⟨rfl, by show (xs.l.map dat).length ≤ _; rw [List.length_map]; exact h, fun e he => by
    obtain ⟨x, hx, rfl⟩ := List.mem_map.mp (show e ∈ xs.l.map dat from he)
    exact k x hx⟩
theorem okN_pair {α β : Type} [Rep α] [Dat α] [Rep β] [Dat β] {n : Nat} {x : α × β} (h1 : OkN n (dat x.1)) (h2 : OkN n (dat x.2)) : OkN (n + 1) (dat x) :=
  ⟨rfl, by show 2 ≤ 100000; decide, fun e he => by
    have he : e ∈ [dat x.1, dat x.2] := he
    simp only [List.mem_cons, List.not_mem_nil, or_false] at he
    rcases he with rfl | rfl
    · exact h1
    · exact h2⟩
/-- found, due -/
def alikeN : Nat → PyData → PyData → Bool
  | _, .none, .none => true
  | _, .bool c, .bool b => decide (c = b)
  | _, .int c, .int b => decide (c = b)
  | _, .str c, .str b => decide (c = b)
  | n + 1, .list fs, .list ds => decide (fs.length = ds.length) && ((rng 0 ds.length).map fun k => alikeN n (ix fs k) (ix ds k)).all id
  | n + 1, .tuple fs, .tuple ds => decide (fs.length = ds.length) && ((rng 0 ds.length).map fun k => alikeN n (ix fs k) (ix ds k)).all id
  | _, _, _ => false
theorem all_rng {n : Nat} {f : Int → Bool} : ((rng 0 (n : Int)).map f).all id = true ↔ ∀ k : Nat, k < n → f (k : Int) = true := by
  rw [List.all_eq_true]
  constructor
  · intro h k hk
    exact h _ (List.mem_map.mpr ⟨(k : Int), rng_mem.mpr ⟨by omega, by omega⟩, rfl⟩)
  · intro h b hb
    obtain ⟨k, hk, rfl⟩ := List.mem_map.mp hb
    have hk := rng_mem.mp hk
    have e : k = ((k.toNat : Nat) : Int) := by omega
    rw [e]
    exact h k.toNat (by omega)
theorem ix_get {fs : List PyData} {k : Nat} (h : k < fs.length) : ix fs (k : Int) = fs[k] := ix_nat (List.getElem?_eq_getElem h)
theorem seq_iff {n : Nat} {fs ds : List PyData} (ih : ∀ f d, OkN n d → (alikeN n f d = true ↔ f = d)) (ok : ∀ e ∈ ds, OkN n e) :
    (decide (fs.length = ds.length) && ((rng 0 ds.length).map fun k => alikeN n (ix fs k) (ix ds k)).all id) = true ↔ fs = ds := by
  rw [Bool.and_eq_true, decide_eq_true_eq, all_rng]
  constructor
  · rintro ⟨h1, h2⟩
    refine List.ext_getElem h1 fun k hk1 hk2 => ?_
    have h := (ih _ _ (by rw [ix_get hk2]; exact ok _ (List.getElem_mem hk2))).mp (h2 k hk2)
    rw [ix_get hk1, ix_get hk2] at h
    exact h
  · rintro rfl
    exact ⟨rfl, fun k hk => (ih _ _ (by rw [ix_get hk]; exact ok _ (List.getElem_mem hk))).mpr rfl⟩
theorem alikeN_iff : ∀ (n : Nat) (f d : PyData), OkN n d → (alikeN n f d = true ↔ f = d)
  | n, f, .none, _ => by cases n <;> cases f <;> simp [alikeN]
  | n, f, .bool b, _ => by cases n <;> cases f <;> simp [alikeN]
  | n, f, .int b, _ => by cases n <;> cases f <;> simp [alikeN]
  | n, f, .str b, _ => by cases n <;> cases f <;> simp [alikeN]
  | 0, _, .list _, h => by cases h.1
  | 0, _, .tuple _, h => by cases h.1
  | n + 1, f, .list ds, h => by
    cases f with
    | list fs => rw [alikeN, seq_iff (ds := ds) (alikeN_iff n) h.2.2]; simp
    | _ => simp [alikeN]
  | n + 1, f, .tuple ds, h => by
    cases f with
    | tuple fs => rw [alikeN, seq_iff (ds := ds) (alikeN_iff n) h.2.2]; simp
    | _ => simp [alikeN]
  | 0, _, .dict _, h => by cases h.2
  | _ + 1, _, .dict _, h => by cases h.1
end Pf

namespace Pf
open PySem PySem.Spec PyProof.Rows L2
/-! ### the layer's rules with the written part as a letter -/
section
variable {X : Cx} {K : Fg}
theorem ix_listK (h : X.K = K) : IxR X (rIxL K) := h ▸ ix_list
theorem ix_tupK (h : X.K = K) : IxR X (rIxT K) := h ▸ ix_tup
theorem ix_seqK (h : X.K = K) : IxR X (rIx K) := h ▸ ix_seq
theorem sl_listK (h : X.K = K) : SlR X (rSlL K) := h ▸ sl_list
theorem call_lenK (h : X.K = K) : CallR X (.builtin "len") (rLen K) := h ▸ call_len_seq
theorem cr_allK (h : X.K = K) (hc : X.calm = true) : CallR X (.builtin "all") (rAll K) := h ▸ cr_all hc
theorem call_isiKK (h : X.K = K) : CallR X (.builtin "isinstance") (rIsi K) := h ▸ call_isi
theorem call_isiTK (h : X.K = K) : CallR X (.builtin "isinstance") (rIsiT K) := h ▸ call_isiT
theorem call_tupleK (h : X.K = K) : CallR X (.type "tuple") (rTupOf K) := h ▸ call_tuple_of
theorem cr_sortedPOK (h : X.K = K) : CallR X (.builtin "sorted") (rSortedPO K) := h ▸ cr_sortedPO
theorem op_eqDK (h : X.K = K) (hu : X.A.units + 64 < cLine) : OpR X (compareOp .Eq) (rEqD K) := h ▸ op_eqD hu
theorem pi_listK {tg l : Expr} {tl : TE} (h : X.K = K) (hl : PE X l tl) : PI X tg l (iList K tl) := h ▸ pi_list hl
theorem pi_tupK {tg l : Expr} {tl : TE} (h : X.K = K) (hl : PE X l tl) : PI X tg l (iTup K tl) := h ▸ pi_tup hl
theorem pg_tupK {es : List Expr} {k : Nat} {t : TGs} {n : Nat} {pos : Pos} (h : X.K = K) (hp : PG X (.Tuple es k pos) (gTup X.K n t)) : PG X (.Tuple es k pos) (gTup K n t) := h ▸ hp
end
end Pf

namespace Pf
open PySem PySem.Spec PyProof.Rows L2
def rGetL (K : Fg) : V → V → Hp → VK → Prop := fun x y H Q => ∃ p xs i v, x = .ref p ∧ y = .int i ∧ SqL K H p xs ∧ 0 ≤ i ∧ atI xs i = some v ∧ Q v H
theorem get_listK {X : Cx} {K : Fg} (h : X.K = K) : PGet X (rGetL K) := by
  subst h
  intro pins s σ H x y v u Q I rx ry h
  obtain ⟨p, xs, i, z, rfl, rfl, hq, h0, he, q⟩ := h
  cases rx
  obtain ⟨t, rfl⟩ := ry
  obtain ⟨its, r, pl, hz⟩ := I.list hq
  obtain ⟨j, h1, h2, h3, h4, h5⟩ := atI_get he
  obtain ⟨w, ew, rw'⟩ := r.get h2
  have hl := r.length
  have hn := line63
  have fin : EP X pins σ Q w s := ⟨z, H, I, rw', q⟩
  have hj : i.toNat = j := by
    rw [seqIndex_of h0 h5] at h1
    exact Option.some.inj h1
  exact wpAny_getItem_list pl.isList h0 (by omega) (by rw [hj]; simpa using ew) fin
/-! ### the law's own bag -/
/-- a bag: its cells, a place, a rest, a salt -/
def Bag (G H : Hp) (b : Addr) : Prop := G b = none ∧ ∃ cv c1 c2 c3, ∃ cells : List Int, H b = some (.lst [cv, .int c1, .int c2, .int c3]) ∧ rep G cv cells ∧ 0 ≤ c1 ∧ 0 ≤ c2 ∧ 0 ≤ c3 ∧ (∀ x ∈ cells, 0 ≤ x)
abbrev Mb (b : Addr) : Addr → Prop := fun a => a = b
theorem Bag.step {M : Addr → Prop} {G H G' H' : Hp} {b : Addr} (x : Bag G H b) (g : Gr M G H G' H') (hb : ¬ M b) : Bag G' H' b := by
  obtain ⟨n, cv, c1, c2, c3, cells, e, r, h⟩ := x
  exact ⟨g.out n e, cv, c1, c2, c3, cells, g.h _ _ hb e, Rep.mono g.g r, h⟩
theorem Bag.step0 {G H G' H' : Hp} {b : Addr} (x : Bag G H b) (g : Gr M0 G H G' H') : Bag G' H' b := x.step g fun z => z
theorem Bag.other {G H : Hp} {b q : Addr} {o : HO} (x : Bag G H b) (ne : b ≠ q) : Bag G (upd H q o) b := by
  obtain ⟨n, cv, c1, c2, c3, cells, e, r, h⟩ := x
  exact ⟨n, cv, c1, c2, c3, cells, by rw [upd_ne ne]; exact e, r, h⟩
theorem Bag.up {G G' H : Hp} {b : Addr} (x : Bag G H b) (g : Same G G') (n : G' b = none) : Bag G' H b := by
  obtain ⟨_, cv, c1, c2, c3, cells, e, r, h⟩ := x
  exact ⟨n, cv, c1, c2, c3, cells, e, Rep.mono g r, h⟩
def spPull : Sp := fun vs H Q _ => ∃ b many G, vs = [.ref b, .int many] ∧ Same G H ∧ Bag G H b ∧ 0 < many ∧ many.natAbs.log2 < 9000 ∧ ∀ r H', 0 ≤ r → r < many → Gr (Mb b) G H G H' → Bag G H' b → Q (.int r) H'
def spBag (K : Fg) : Sp := fun vs H Q _ => ∃ (a : Addr) (ns : List Int) (G : Hp), vs = [.ref a] ∧ Same G H ∧ SqL K G a (ns.map V.int) ∧ ns.length ≤ 63 ∧ ∀ b G' H', Gr M0 G H G' H' → H b = none → Bag G' H' b → Q (.ref b) H'
section
variable {α : Type} [Rep α] {σ : L2.St} {G G1 H : Hp} {te ta tb : TE} {tt : TT} {x : α} {K : Fg} {D : Ends} {ts tr u : TS}
theorem ev_at {i : Nat} {p : Addr} {vs : List V} {n : Nat} {v : V} (hv : σ[i]? = some (some (.ref p))) (hp : G p = some (.lst vs)) (ha : vs[n]? = some v) (r : rep G v x) : Ev (tOp (rIxL K) (tVar i) (tC (.int n))) σ G x :=
  fun H h Q q => ⟨.ref p, hv, p, vs, n, v, rfl, rfl, .inl (.inl (h _ _ hp)), atI_nat ha, q v G H (Gr.refl h) r⟩
/-! what is read while more is taken as still -/
theorem sq_setF [Flat α] {i : Nat} (h : Ev te σ G1 x) (i1 : Same G1 H) (s : Same G H) (k : ∀ v H', Gr M0 G H G H' → Same H H' → rep G v x → u D (σ.set i (some v)) H') : tSeq (tAsg te (gName i)) u D σ H := h.flat i1 s k
theorem st_retF [Flat α] (h : Ev te σ G1 x) (i1 : Same G1 H) (s : Same G H) (k : ∀ v H', Gr M0 G H G H' → Same H H' → rep G v x → D.rt v H') : tRet te D σ H := h.flat i1 s k
theorem st_ifF {b : Bool} (h : EvT tt σ G1 b) (i1 : Same G1 H) (s : Same G H) (k1 : b = true → ∀ H', Gr M0 G H G H' → Same H H' → ts D σ H') (k2 : b = false → ∀ H', Gr M0 G H G H' → Same H H' → tr D σ H') : tIfS tt ts tr D σ H :=
  h.flat i1 s fun H' g e => ite2 (fun z => k1 z H' g e) (fun z => k2 (by simpa using z) H' g e)
theorem sq_ifF {b : Bool} (h : EvT tt σ G1 b) (i1 : Same G1 H) (s : Same G H) (k1 : b = true → ∀ H', Gr M0 G H G H' → Same H H' → ts { D with nx := u D } σ H') (k2 : b = false → ∀ H', Gr M0 G H G H' → Same H H' → tr { D with nx := u D } σ H') : tSeq (tIfS tt ts tr) u D σ H :=
  st_ifF (D := { D with nx := u D }) h i1 s k1 k2
/-- xs[n] = e -/
theorem sq_put [Flat α] {i n : Nat} {p : Addr} {vs : List V} (hv : σ[i]? = some (some (.ref p))) (hp : H p = some (.lst vs)) (hn : n < vs.length) (h : Ev te σ G1 x) (i1 : Same G1 H) (s : Same G H) (np : G p = none)
    (k : ∀ v H', Same H H' → Same G (upd H' p (.lst (vs.set n v))) → rep G v x → u D σ (upd H' p (.lst (vs.set n v)))) : tSeq (tAsg te (gSub (tVar i) (tC (.int n)) rSetL)) u D σ H :=
  h.flat i1 s fun v H' g e r => ⟨.ref p, hv, p, vs, n, n, rfl, rfl, e _ _ hp, by unfold ixN; rw [if_pos (by omega), if_pos (by omega)]; rfl, k v H' e (same_mut g.i np) r⟩
/-- xs[n] += k -/
theorem sq_up {i n : Nat} {p : Addr} {vs : List V} {a k : Int} (hv : σ[i]? = some (some (.ref p))) (hp : H p = some (.lst vs)) (hn : vs[n]? = some (.int a))
    (q : u D σ (upd H p (.lst (vs.set n (.int (a + k)))))) : tSeq (tAugS (tVar i) (tC (.int n)) (tC (.int k)) (rGetL K) (ipI fun i j => i + j) rSetL) u D σ H := by
  have hl : n < vs.length := by
    by_cases h : n < vs.length
    · exact h
    · rw [List.getElem?_eq_none (by omega)] at hn; cases hn
  exact ⟨.ref p, hv, p, vs, n, .int a, rfl, rfl, .inl (.inl hp), by omega, atI_nat hn, a, k, rfl, rfl, p, vs, n, n, rfl, rfl, hp, by unfold ixN; rw [if_pos (by omega), if_pos (by omega)]; rfl, q⟩
theorem sq_cut (Mid : L2.St → Hp → Prop) {H : Hp} (h1 : ts { D with nx := Mid } σ H) (h2 : ∀ σ' H', Mid σ' H' → u D σ' H') : C8.tCut ts u D σ H := ⟨Mid, h1, h2⟩
/-- the script, cut at 63 -/
theorem ev_script {i : Nat} {a : Addr} {ns : List Int} (hv : σ[i]? = some (some (.ref a))) (h : SqL K G a (ns.map V.int)) (hl : ns.length ≤ 63) : Ev (tSl (rSlL K) (tVar i) tNoPart (tPart (tC (.int 63)))) σ G ns := fun H s Q q => by
  refine ⟨.ref a, hv, 63, rfl, a, ns.map V.int, rfl, s.seq h, fun p np => ?_⟩
  have e : cutV (ns.map V.int) none (some 63) = ns.map V.int := by
    unfold cutV
    rw [HT.sIx_none, show HT.sIx (ns.map V.int).length (ns.map V.int).length (some 63) = min 63 (ns.map V.int).length from HT.sIx_nat _ _ 63, List.drop_zero, Nat.sub_zero]
    exact List.take_of_length_le (by rw [List.length_map]; omega)
  rw [e]
  exact q _ (upd G p (.lst (ns.map V.int))) _ (gr_new s np) ⟨p, _, rfl, upd_same, paired_of_ints ns⟩
end
theorem gr_bag {G H H' : Hp} {b : Addr} {o : HO} (g : Gr (Mb b) G H G H') (n : G b = none) : Gr (Mb b) G H G (upd H' b o) := g.mut (.inr rfl) n
theorem gr_b0 {G H H' : Hp} {b : Addr} (g : Gr M0 G H G H') : Gr (Mb b) G H G H' := g.wk
theorem gr_bt {G H H1 H2 : Hp} {b : Addr} (x : Gr (Mb b) G H G H1) (y : Gr (Mb b) G H1 G H2) (n : G b = none) : Gr (Mb b) G H G H2 := x.trans y fun a e => .inl (by cases e; exact n)
def spLaw (K : Fg) : Sp := fun vs H Q _ => ∃ (a : Addr) (ns : List Int), vs = [.ref a] ∧ SqL K H a (ns.map V.int) ∧ ns.length ≤ 63 ∧ ∀ H', Q (.bl true) H'
theorem rd_pull {σ : L2.St} {G H : Hp} {tm : TE} {i : Nat} {b : Addr} {many : Int} {E : XK} {Q : VK} (hv : σ[i]? = some (some (.ref b))) (s : Same G H) (bg : Bag G H b) (hm : Ev tm σ G many) (h0 : 0 < many) (hl : many.natAbs.log2 < 9000)
    (k : ∀ r H', 0 ≤ r → r < many → Gr (Mb b) G H G H' → Bag G H' b → Q (.int r) H') : tCall spPull [] E (tCons (tVar i) (tCons tm tNil)) σ H Q :=
  ⟨.ref b, hv, hm.flat s s fun v H1 g1 s1 r1 => ⟨b, many, G, by rw [rep_int r1]; rfl, g1.i, bg.step0 g1, h0, hl, fun r H' a1 a2 g2 b2 => k r H' a1 a2 (gr_bt (gr_b0 g1) g2 bg.1) b2⟩⟩
theorem sq_pull {σ : L2.St} {G H : Hp} {tm : TE} {i j : Nat} {b : Addr} {many : Int} {u : TS} {D : Ends} (hv : σ[i]? = some (some (.ref b))) (s : Same G H) (bg : Bag G H b) (hm : Ev tm σ G many) (h0 : 0 < many) (hl : many.natAbs.log2 < 9000)
    (k : ∀ r H', 0 ≤ r → r < many → Gr (Mb b) G H G H' → Bag G H' b → u D (σ.set j (some (.int r))) H') : tSeq (tAsg (tCall spPull [] E0 (tCons (tVar i) (tCons tm tNil))) (gName j)) u D σ H := rd_pull (E := E0) (Q := fun x H1 => gName j x σ H1 (u D)) hv s bg hm h0 hl k
theorem sq_pullAdd {σ : L2.St} {G H : Hp} {tm : TE} {i j : Nat} {b : Addr} {c many : Int} {u : TS} {D : Ends} (hv : σ[i]? = some (some (.ref b))) (s : Same G H) (bg : Bag G H b) (hm : Ev tm σ G many) (h0 : 0 < many) (hl : many.natAbs.log2 < 9000)
    (k : ∀ r H', 0 ≤ r → r < many → Gr (Mb b) G H G H' → Bag G H' b → u D (σ.set j (some (.int (c + r)))) H') : tSeq (tAsg (tOp (rI0 fun i j => .int (i + j)) (tC (.int c)) (tCall spPull [] E0 (tCons (tVar i) (tCons tm tNil)))) (gName j)) u D σ H :=
  rd_pull (E := E0) (Q := fun x H1 => rI0 (fun i j => .int (i + j)) (.int c) x H1 fun x H1 => gName j x σ H1 (u D)) hv s bg hm h0 hl fun r H' a1 a2 g b2 => ⟨c, r, rfl, rfl, k r H' a1 a2 g b2⟩
end Pf

namespace Pf
open PySem PySem.Spec PyProof.Rows L2
/-! ### pairs in order -/
abbrev ltI (p q : Int × Int) : Bool := SrtO.lexB p q
def insP (x : Int × Int) : List (Int × Int) → List (Int × Int)
  | [] => [x]
  | y :: r => if ltI y x = true then y :: insP x r else x :: y :: r
def sortP : List (Int × Int) → List (Int × Int)
  | [] => []
  | x :: r => insP x (sortP r)
theorem insP_perm (x : Int × Int) : ∀ l, (insP x l).Perm (x :: l)
  | [] => List.Perm.refl _
  | y :: r => by
    unfold insP
    split
    · exact ((insP_perm x r).cons y).trans (List.Perm.swap x y r)
    · exact List.Perm.refl _
theorem sortP_perm : ∀ l, (sortP l).Perm l
  | [] => List.Perm.refl _
  | x :: r => (insP_perm x (sortP r)).trans ((sortP_perm r).cons x)
theorem sortP_len (l : List (Int × Int)) : (sortP l).length = l.length := (sortP_perm l).length_eq
theorem ltI_tr {x y z : Int × Int} (h1 : ltI y x = false) (h2 : ltI z y = false) : ltI z x = false := by
  have a := SrtO.lexB_no.mp h1
  have b := SrtO.lexB_no.mp h2
  refine SrtO.lexB_no.mpr ?_
  omega
theorem ltI_as {x y : Int × Int} (h : ltI x y = true) : ltI y x = false := by
  have a := SrtO.lexB_iff.mp h
  refine SrtO.lexB_no.mpr ?_
  omega
theorem ltI_eq {x y : Int × Int} (h1 : ltI x y = false) (h2 : ltI y x = false) : x = y := by
  have a := SrtO.lexB_no.mp h1
  have b := SrtO.lexB_no.mp h2
  have e1 : x.1 = y.1 := by omega
  have e2 : x.2 = y.2 := by omega
  cases x; cases y
  exact congr (congrArg Prod.mk e1) e2
theorem insP_sorted (x : Int × Int) : ∀ l, SrtO.Srtd ltI l → SrtO.Srtd ltI (insP x l)
  | [], _ => List.pairwise_singleton _ _
  | y :: r, h => by
    obtain ⟨h1, h2⟩ := List.pairwise_cons.mp h
    unfold insP
    split
    · rename_i hy
      refine List.pairwise_cons.mpr ⟨fun z hz => ?_, insP_sorted x r h2⟩
      rcases List.mem_cons.mp ((insP_perm x r).mem_iff.mp hz) with e | e
      · subst e; exact ltI_as hy
      · exact h1 z e
    · rename_i hy
      have hy : ltI y x = false := by simpa using hy
      refine List.pairwise_cons.mpr ⟨fun z hz => ?_, h⟩
      rcases List.mem_cons.mp hz with e | e
      · subst e; exact hy
      · exact ltI_tr hy (h1 z e)
theorem sortP_sorted : ∀ l, SrtO.Srtd ltI (sortP l)
  | [] => List.Pairwise.nil
  | x :: r => insP_sorted x _ (sortP_sorted r)
theorem sorted_uniq : ∀ {l m : List (Int × Int)}, l.Perm m → SrtO.Srtd ltI l → SrtO.Srtd ltI m → l = m
  | [], m, p, _, _ => p.nil_eq
  | x :: l, [], p, _, _ => by cases p.symm.nil_eq
  | x :: l, y :: m, p, h1, h2 => by
    have e : x = y := by
      have hx := p.mem_iff.mp (List.mem_cons_self)
      have hy := p.symm.mem_iff.mp (List.mem_cons_self)
      rcases List.mem_cons.mp hx with e | e
      · exact e
      · rcases List.mem_cons.mp hy with e' | e'
        · exact e'.symm
        · exact ltI_eq ((List.pairwise_cons.mp h2).1 x e) ((List.pairwise_cons.mp h1).1 y e')
    subst e
    rw [sorted_uniq (List.Perm.cons_inv p) (List.pairwise_cons.mp h1).2 (List.pairwise_cons.mp h2).2]
theorem sortP_uniq {l m : List (Int × Int)} (p : l.Perm m) (h : SrtO.Srtd ltI l) : l = sortP m := sorted_uniq (p.trans (sortP_perm m).symm) h (sortP_sorted m)
/-- the pair that stands at a value -/
def keyAt (G : Hp) (v : V) : Int × Int := match v with
  | .ref t => match G t with
    | some (.tup [.int i, .int j]) => (i, j)
    | _ => (0, 0)
  | _ => (0, 0)
theorem keyAt_of {G : Hp} {v : V} {p : Int × Int} (h : rep G v p) : keyAt G v = p ∧ ∃ t, v = .ref t ∧ G t = some (.tup [.int p.1, .int p.2]) := by
  obtain ⟨t, u, w, rfl, h2, h3, h4⟩ := h
  cases h3; cases h4
  unfold keyAt
  exact ⟨by simp only [h2], t, rfl, h2⟩
theorem map_keyAt {G : Hp} : ∀ {vs : List V} {ps : List (Int × Int)}, Paired (rep G) vs ps → vs.map (keyAt G) = ps
  | _, _, .nil => rfl
  | _, _, .cons r t => by rw [List.map_cons, (keyAt_of r).1, map_keyAt t]
theorem paired_keyAt {G : Hp} : ∀ {vs : List V}, (∀ v ∈ vs, ∃ p : Int × Int, rep G v p) → Paired (rep G) vs (vs.map (keyAt G))
  | [], _ => .nil
  | v :: vs, h => by
    obtain ⟨p, hp⟩ := h v List.mem_cons_self
    refine .cons ?_ (paired_keyAt fun u hu => h u (List.mem_cons_of_mem _ hu))
    rw [(keyAt_of hp).1]; exact hp
theorem paired_mem {α : Type} [Rep α] {G : Hp} : ∀ {vs : List V} {xs : List α}, Paired (rep G) vs xs → ∀ v ∈ vs, ∃ x : α, rep G v x
  | _, _, .cons r t, v, h => by
    rcases List.mem_cons.mp h with e | e
    · subst e; exact ⟨_, r⟩
    · exact paired_mem t v e
section
variable {α β : Type} [Rep α] [Rep β] {σ : L2.St} {G H : Hp} {te ta tb : TE} {tt : TT} {x : α} {K : Fg} {D : Ends} {ts tr u : TS}
theorem ev_sortedP {ps : List (Int × Int)} (ha : Ev ta σ G ps) : Ev (tCB (rSortedPO K) (tCons ta tNil)) σ G (sortP ps) := ev_B1 ha fun v G' H _ i k Q q => by
  obtain ⟨a, vs, rfl, h2, h3⟩ := k
  refine ⟨a, vs, keyAt G', rfl, .inl (.inl (i _ _ h2)), fun x hx => ?_, fun ys p hs hb np => ?_⟩
  · obtain ⟨p, hp⟩ := paired_mem h3 x hx
    obtain ⟨e, t, e1, e2⟩ := keyAt_of hp
    exact ⟨t, e1, by rw [e]; exact i _ _ e2⟩
  · have hy : ∀ v ∈ ys, ∃ p : Int × Int, rep G' v p := fun v hv => paired_mem h3 v (hb.perm.mem_iff.mp hv)
    have hm : ys.map (keyAt G') = sortP ps := by
      refine sortP_uniq ?_ (List.pairwise_map.mpr hs)
      rw [← map_keyAt h3]
      exact hb.perm.map _
    refine q _ (upd G' p (.lst ys)) _ (gr_new i np) ⟨p, ys, rfl, upd_same, ?_⟩
    rw [← hm]
    exact paired_mono (gr_new (o := .lst ys) i np).g (paired_keyAt hy)
/-! ### at one heap -/
def EvH (te : TE) (σ : L2.St) (G H : Hp) (x : α) : Prop := ∀ Q : VK, (∀ v G' H', Gr M0 G H G' H' → rep G' v x → Q v H') → te σ H Q
def EvIH (wi : TI) (σ : L2.St) (G H : Hp) (xs : List α) : Prop := ∀ R : It → Hp → Prop, (∀ J G' H', Gr M0 G H G' H' → ItOk J G' xs → R J H') → wi σ H R
theorem Ev.at (h : Ev te σ G x) (s : Same G H) : EvH te σ G H x := h H s
theorem EvI.at {wi : TI} {xs : List α} (h : EvI wi σ G xs) (s : Same G H) : EvIH wi σ G H xs := h H s
/-! ### a dict with pairs as keys, still being made -/
abbrev kk (p : Int × Int) : List Key := [Sum.inl p.1, Sum.inl p.2]
theorem kk_inj {p q : Int × Int} (h : kk p = kk q) : p = q := by
  injection h with h1 h
  injection h with h2 h
  cases p; cases q
  exact congr (congrArg Prod.mk (Sum.inl.inj h1)) (Sum.inl.inj h2)
def OptRep (G : Hp) (o : Option V) (m : Option α) : Prop := match m with
  | some x => ∃ v, o = some v ∧ rep G v x
  | none => o = none
def Md (G H : Hp) (d : Addr) (n : Nat) (m : Int × Int → Option α) : Prop := G d = none ∧ ∃ kvs, H d = some (.dT kvs) ∧ kvs.length ≤ n ∧ ∀ p, OptRep G (valV kvs (kk p)) (m p)
theorem OptRep.mono {G G' : Hp} (e : Same G G') {o : Option V} {m : Option α} (h : OptRep G o m) : OptRep G' o m := by
  cases m with
  | none => exact h
  | some x => obtain ⟨v, h1, h2⟩ := h; exact ⟨v, h1, Rep.mono e h2⟩
theorem Md.step {M : Addr → Prop} {G H G' H' : Hp} {d : Addr} {n : Nat} {m : Int × Int → Option α} (x : Md G H d n m) (g : Gr M G H G' H') (hp : ¬ M d) : Md G' H' d n m := by
  obtain ⟨h1, kvs, h2, h3, h4⟩ := x
  exact ⟨g.out h1 h2, kvs, g.h _ _ hp h2, h3, fun p => (h4 p).mono g.g⟩
theorem Md.step0 {G H G' H' : Hp} {d : Addr} {n : Nat} {m : Int × Int → Option α} (x : Md G H d n m) (g : Gr M0 G H G' H') : Md G' H' d n m := x.step g fun z => z
theorem Md.other {q d : Addr} {o : HO} {n : Nat} {m : Int × Int → Option α} (x : Md G H d n m) (ne : d ≠ q) : Md G (upd H q o) d n m := by
  obtain ⟨h1, kvs, h2, h⟩ := x
  exact ⟨h1, kvs, by rw [upd_ne ne]; exact h2, h⟩
theorem Md.up {G' : Hp} {d : Addr} {n : Nat} {m : Int × Int → Option α} (x : Md G H d n m) (g : Same G G') (nd : G' d = none) : Md G' H d n m := by
  obtain ⟨h1, kvs, h2, h3, h4⟩ := x
  exact ⟨nd, kvs, h2, h3, fun p => (h4 p).mono g⟩
theorem Md.cast {d : Addr} {n : Nat} {m m' : Int × Int → Option α} (x : Md G H d n m) (e : ∀ p, m p = m' p) : Md G H d n m' := by
  obtain ⟨h1, kvs, h2, h3, h4⟩ := x
  exact ⟨h1, kvs, h2, h3, fun p => by rw [← e p]; exact h4 p⟩
theorem st_retC {y : α} (h : Ev te σ G x) (s : Same G H) (e : x = y) (k : ∀ v G' H', Gr M0 G H G' H' → rep G' v y → D.rt v H') : tRet te D σ H := h H s _ fun v G' H' g r => k v G' H' g (e ▸ r)
end
end Pf

namespace Pf
open PySem PySem.Spec PyProof.Rows L2
/-! ### == of data -/
mutual
theorem rd_dp {K : Fg} {G H : Hp} (i : Same G H) : ∀ (d : PyData) (v : V), RD G d v → Dp K H v d
  | .none, v, h => by rw [show v = .non from h]; exact .non
  | .bool b, v, h => by rw [show v = .bl b from h]; exact .bl b
  | .int b, v, h => by rw [show v = .int b from h]; exact .int b
  | .str b, v, h => by rw [show v = .str b from h]; exact .str b
  | .list ds, v, ⟨a, vs, h1, h2, h3⟩ => by rw [h1]; exact .lst (.inl (.inl (i _ _ h2))) (rds_dp i ds vs h3)
  | .tuple ds, v, ⟨a, vs, h1, h2, h3⟩ => by rw [h1]; exact .tup (.inl (.inl (i _ _ h2))) (rds_dp i ds vs h3)
  | .dict _, v, h => h.elim
theorem rds_dp {K : Fg} {G H : Hp} (i : Same G H) : ∀ (ds : List PyData) (vs : List V), RDs G ds vs → DpAll K H vs ds
  | [], vs, h => by rw [show vs = [] from h]; exact .nil
  | d :: ds, _, ⟨v, r, h1, h2, h3⟩ => by rw [h1]; exact .cons (rd_dp i d v h2) (rds_dp i ds r h3)
end
/-- data that == tells apart as Lean does -/
class DatE (α : Type) [Rep α] [DecidableEq α] extends Dat α where
  ok : ∀ x : α, (dat x).canLay0 = true
  dp : Nat
  deep : ∀ x : α, (dat x).depth ≤ dp
  eq : ∀ x y : α, PyData.eqv (dat x) (dat y) = decide (x = y)
instance : DatE Int := { (inferInstance : Dat Int) with ok := fun _ => rfl, dp := 0, deep := fun _ => Nat.le_refl _, eq := fun x y => Bool.beq_eq_decide_eq x y }
section
variable {α β : Type} [Rep α] [DecidableEq α] [DatE α] [Rep β] [DecidableEq β] [DatE β]
theorem lay_map : ∀ xs : List α, PyData.canLayAll0 (xs.map dat) = true
  | [] => rfl
  | x :: xs => by rw [List.map_cons, PyData.canLayAll0, DatE.ok x, lay_map xs]; rfl
theorem deep_map : ∀ xs : List α, PyData.depthAll (xs.map dat) ≤ DatE.dp α
  | [] => Nat.zero_le _
  | x :: xs => by rw [List.map_cons, PyData.depthAll]; exact Nat.max_le.mpr ⟨DatE.deep x, deep_map xs⟩
theorem eq_map : ∀ xs ys : List α, PyData.eqvAll (xs.map dat) (ys.map dat) = decide (xs = ys)
  | [], [] => rfl
  | [], y :: ys => by rw [decide_eq_false (fun h => by cases h)]; rfl
  | x :: xs, [] => by rw [decide_eq_false (fun h => by cases h)]; rfl
  | x :: xs, y :: ys => by
    rw [List.map_cons, List.map_cons, PyData.eqvAll, DatE.eq x y, eq_map xs ys]
    by_cases h1 : x = y <;> by_cases h2 : xs = ys <;> simp [h1, h2]
end
instance {α : Type} [Rep α] [DecidableEq α] [DatE α] : DatE (List α) := { (inferInstance : Dat (List α)) with ok := fun xs => lay_map xs, dp := DatE.dp α + 1, deep := fun xs => Nat.succ_le_succ (deep_map xs), eq := fun xs ys => eq_map xs ys }
theorem tup_dec {α : Type} [DecidableEq α] (xs ys : Tup α) : decide (xs.l = ys.l) = decide (xs = ys) := by
  cases xs; cases ys
  simp
instance {α : Type} [Rep α] [DecidableEq α] [DatE α] : DatE (Tup α) := { (inferInstance : Dat (Tup α)) with ok := fun xs => lay_map xs.l, dp := DatE.dp α + 1, deep := fun xs => Nat.succ_le_succ (deep_map xs.l), eq := fun xs ys => (eq_map xs.l ys.l).trans (tup_dec xs ys) }
instance {α β : Type} [Rep α] [DecidableEq α] [DatE α] [Rep β] [DecidableEq β] [DatE β] : DatE (α × β) := { (inferInstance : Dat (α × β)) with
  ok := fun x => by
    show PyData.canLayAll0 [dat x.1, dat x.2] = true
    rw [PyData.canLayAll0, PyData.canLayAll0, PyData.canLayAll0, DatE.ok, DatE.ok]; rfl
  dp := max (DatE.dp α) (DatE.dp β) + 1
  deep := fun x => by
    show PyData.depthAll [dat x.1, dat x.2] + 1 ≤ _
    rw [PyData.depthAll, PyData.depthAll, PyData.depthAll]
    exact Nat.succ_le_succ (Nat.max_le.mpr ⟨Nat.le_trans (DatE.deep x.1) (Nat.le_max_left _ _), Nat.max_le.mpr ⟨Nat.le_trans (DatE.deep x.2) (Nat.le_max_right _ _), Nat.zero_le _⟩⟩)
  eq := fun x y => by
    show PyData.eqvAll [dat x.1, dat x.2] [dat y.1, dat y.2] = _
    rw [PyData.eqvAll, PyData.eqvAll, PyData.eqvAll, DatE.eq, DatE.eq]
    cases x; cases y
    simp }
section
variable {α β γ : Type} [Rep α] [Rep β] [Rep γ] {σ : L2.St} {G H : Hp} {te ta tb : TE} {tt : TT} {x y : α} {K : Fg} {D : Ends} {ts tr u : TS}
/-! ### pairs by < -/
/-! ### tuples cut and put together -/
def cutI {ι : Type} (xs : List ι) (lo hi : Option Int) : List ι := (xs.drop (HT.sIx xs.length 0 lo)).take (HT.sIx xs.length xs.length hi - HT.sIx xs.length 0 lo)
theorem paired_cut {vs : List V} {xs : List α} (h : Paired (rep G) vs xs) (lo hi : Option Int) : Paired (rep G) (cutV vs lo hi) (cutI xs lo hi) := by
  unfold cutV cutI
  rw [paired_len h]
  exact paired_take _ (paired_drop _ h)
def EvO (to : TO) (σ : L2.St) (G : Hp) (o : Option Int) : Prop := ∀ H, Same G H → ∀ Q : Option Int → Hp → Prop, (∀ G' H', Gr M0 G H G' H' → Q o H') → to σ H Q
theorem eo_none : EvO tNoPart σ G none := fun H i Q q => q G H (Gr.refl i)
theorem eo_some {n : Int} (h : Ev te σ G n) : EvO (tPart te) σ G (some n) := fun H i Q q => h H i _ fun v G' H' g k => ⟨n, k, q G' H' g⟩
theorem EvO.mono {to : TO} {o : Option Int} {G1 : Hp} (h : EvO to σ G o) (e : Same G G1) : EvO to σ G1 o := fun H i Q q => h H (e.trans i) Q fun G' H' g => q (uni G' G1) H' (gr_up e i g)
/-! ### zip of two tuples -/
/-! ### a comprehension whose source has come -/
def LcK (g : TG) (tt : TT) (te : TE) (vs : List Nat) (σ : L2.St) (Q : VK) (J : It) (H1 : Hp) : Prop := ∀ D, H1 D = none → ∃ W : Nat → Nat → Hp → Prop, (∃ m, W 0 m (upd H1 D (.lst []))) ∧ ∀ i m H, W i m H →
  (J.stop i H ∧ Q (.ref D) H) ∨ (J.go i H ∧ ∃ Nx : Hp → Prop, (∀ H', Nx H' → ∃ m', m' < m ∧ W (i + 1) m' H') ∧ ∀ x H', J.yld i H x H' → g x (wipe σ vs) H' fun σ2 H2 => wipe σ2 vs = wipe σ vs ∧ tt σ2 H2 fun b H3 =>
    if b = true then te σ2 H3 fun y H4 => ∃ acc, H4 D = some (.lst acc) ∧ acc.length < sizeLine ∧ Nx (upd H4 D (.lst (acc ++ [y]))) else Nx H3)
theorem lc_rest {J : It} {g : TG} {vs : List Nat} {xs : List α} {p : α → Bool} {f : α → β} {H1 : Hp} {Q : VK} (ok : ItOk J G xs) (i : Same G H1) (hl : xs.length ≤ 100000)
    (hb : ∀ x ∈ xs, ∀ v G1, Same G G1 → rep G1 v x → GB g v (wipe σ vs) G1 fun σ2 => wipe σ2 vs = wipe σ vs ∧ EvT tt σ2 G1 (p x) ∧ (p x = true → Ev te σ2 G1 (f x)))
    (q : ∀ v G' H', Gr M0 G H1 G' H' → rep G' v ((xs.filter p).map f) → Q v H') : LcK g tt te vs σ Q J H1 := by
  have h := ev_lcf (wi := fun _ H R => R J H) (σ := σ) (G := G) (g := g) (tt := tt) (te := te) (vs := vs) (p := p) (f := f) (xs := xs) (fun H i R k => k J G H (Gr.refl i) ok) hl hb H1 i Q q
  exact h
theorem sq_lcw {wi : TI} {g : TG} {vs : List Nat} {i : Nat} (h : wi σ H (LcK g tt te vs σ fun x H1 => u D (σ.set i (some x)) H1)) : tSeq (tAsg (tLc wi g tt te vs) (gName i)) u D σ H := h
theorem itok_list {a : Addr} {vs : List V} {xs : List α} (h2 : G a = some (.lst vs)) (h3 : Paired (rep G) vs xs) : ItOk (Itl K a) G xs := by
  refine ⟨fun k H s l => ?_, fun k H s l => ?_, fun k H v H' G1 x s1 s2 y e => ?_⟩
  · obtain ⟨v, e, _⟩ := paired_get h3 (List.getElem?_eq_getElem l)
    exact ⟨vs, v, .inl (.inl (s _ _ h2)), e⟩
  · exact ⟨vs, .inl (.inl (s _ _ h2)), by rw [paired_len h3]; exact l⟩
  · obtain ⟨rfl, y⟩ := y
    have e1 := y vs (.inl (.inl (s2 _ _ (s1 _ _ h2))))
    obtain ⟨x', e2, r⟩ := paired_get' h3 e1
    rw [e] at e2
    cases e2
    exact ⟨G1, Gr.refl s2, Rep.mono s1 r⟩
end
end Pf

namespace Pf
open PySem PySem.Spec PyProof.Rows L2
section
variable {X : Cx} {K : Fg}
/-! ### a < b < c < d -/
end
section
variable {α β γ : Type} [Rep α] [Rep β] [Rep γ] {σ : L2.St} {G H : Hp} {te ta tb tc td : TE} {tt : TT} {K : Fg}
/-! ### two for in one comprehension -/
end
end Pf

namespace Pf
open PySem PySem.Spec PyProof.Rows L2
abbrev Plan := Int × Tup (Int × Int)
def lawPair (a b : Int) : Int × Int := (if b < a then b else a, if b > a then b else a)
def planOf (F : Int) (row : List (Int × Int)) : Plan := (F, Tup.mk (sortP ((row.filter fun lh => decide (1 < lh.2 - lh.1)).map fun lh => lawPair lh.1 (lh.2 % F))))

def isCutM (faces low high : Int) : Bool := if (decide (low < 0) || decide (faces ≤ high)) = true then false else (decide (2 ≤ high - low) && !decide ((low, high) = (0, faces - 1)))
def risingM (cuts : List (Int × Int)) : Bool := ((cuts.zip (cuts.drop 1)).map fun oq => ltI oq.1 oq.2).all id
def crossingM (cuts : List (Int × Int)) : Bool := (cuts.flatMap fun a => cuts.map fun b => decide (a.1 < b.1) && (decide (b.1 < a.2) && decide (a.2 < b.2))).any id
def isPlanM (p : Plan) : Bool :=
  if (decide (p.1 < 3) || (decide (40 < p.1) || !decide ((p.2.l.length : Int) = p.1 - 3))) = true then false
  else if (!(p.2.l.map fun lh => isCutM p.1 lh.1 lh.2).all id) = true then false
  else risingM p.2.l && !crossingM p.2.l
/-- a way to cut the arc from s to e, as it is drawn -/
inductive CutT : Int → Int → List (Int × Int) → Prop
  | leaf {s e : Int} : e - s = 1 → CutT s e []
  | node {s m e : Int} {A B : List (Int × Int)} : s < m → m < e → CutT s m A → CutT m e B → CutT s e ((s, m) :: (m, e) :: (A ++ B))
theorem CutT.len {s e : Int} {A : List (Int × Int)} (h : CutT s e A) : (A.length : Int) = 2 * (e - s - 1) := by
  induction h with
  | leaf h => simp; omega
  | node h1 h2 _ _ ih1 ih2 => simp only [List.length_cons, List.length_append]; omega

/-! ### drawn plans are plans -/
theorem CutT.lt {s e : Int} {A : List (Int × Int)} (h : CutT s e A) : s < e := by
  cases h with
  | leaf h => omega
  | node h1 h2 _ _ => omega
theorem CutT.inside {s e : Int} {A : List (Int × Int)} (h : CutT s e A) : ∀ x ∈ A, s ≤ x.1 ∧ x.1 < x.2 ∧ x.2 ≤ e ∧ ¬ (x.1 = s ∧ x.2 = e) := by
  induction h with
  | leaf h => intro x hx; cases hx
  | @node s m e A B h1 h2 hA hB ih1 ih2 =>
    intro x hx
    rcases List.mem_cons.mp hx with rfl | hx
    · exact ⟨by show s ≤ s; omega, by show s < m; omega, by show m ≤ e; omega, by show ¬ (s = s ∧ m = e); omega⟩
    rcases List.mem_cons.mp hx with rfl | hx
    · exact ⟨by show s ≤ m; omega, by show m < e; omega, by show e ≤ e; omega, by show ¬ (m = s ∧ e = e); omega⟩
    rcases List.mem_append.mp hx with hx | hx
    · have := ih1 x hx; omega
    · have := ih2 x hx; omega
theorem CutT.nodup {s e : Int} {A : List (Int × Int)} (h : CutT s e A) : A.Nodup := by
  induction h with
  | leaf h => exact List.nodup_nil
  | @node s m e A B h1 h2 hA hB ih1 ih2 =>
    have i1 := hA.inside
    have i2 := hB.inside
    rw [List.nodup_cons, List.nodup_cons, List.nodup_append]
    refine ⟨fun z => ?_, fun z => ?_, ih1, ih2, fun x hx y hy e => ?_⟩
    · rcases List.mem_cons.mp z with e | z
      · injection e with e1 e2; omega
      rcases List.mem_append.mp z with z | z
      · have q := i1 _ z; exact q.2.2.2 ⟨rfl, rfl⟩
      · have q := i2 _ z; have q1 : m ≤ s := q.1; omega
    · rcases List.mem_append.mp z with z | z
      · have q := i1 _ z; have q1 : e ≤ m := q.2.2.1; omega
      · have q := i2 _ z; exact q.2.2.2 ⟨rfl, rfl⟩
    · subst e
      have := i1 _ hx
      have := i2 _ hy
      omega
theorem CutT.apart {s e : Int} {A : List (Int × Int)} (h : CutT s e A) : ∀ x ∈ A, ∀ y ∈ A, ¬ (x.1 < y.1 ∧ y.1 < x.2 ∧ x.2 < y.2) := by
  induction h with
  | leaf h => intro x hx; cases hx
  | @node s m e A B h1 h2 hA hB ih1 ih2 =>
    have i1 := hA.inside
    have i2 := hB.inside
    have c : ∀ x ∈ (s, m) :: (m, e) :: (A ++ B), (x.1 = s ∧ x.2 = m) ∨ (x.1 = m ∧ x.2 = e) ∨ (x ∈ A ∧ s ≤ x.1 ∧ x.1 < x.2 ∧ x.2 ≤ m) ∨ (x ∈ B ∧ m ≤ x.1 ∧ x.1 < x.2 ∧ x.2 ≤ e) := by
      intro x hx
      rcases List.mem_cons.mp hx with rfl | hx
      · exact .inl ⟨rfl, rfl⟩
      rcases List.mem_cons.mp hx with rfl | hx
      · exact .inr (.inl ⟨rfl, rfl⟩)
      rcases List.mem_append.mp hx with hx | hx
      · have := i1 x hx; exact .inr (.inr (.inl ⟨hx, by omega⟩))
      · have := i2 x hx; exact .inr (.inr (.inr ⟨hx, by omega⟩))
    intro x hx y hy
    rcases c x hx with hx | hx | ⟨hx, hx'⟩ | ⟨hx, hx'⟩ <;> rcases c y hy with hy | hy | ⟨hy, hy'⟩ | ⟨hy, hy'⟩ <;> first | omega | exact ih1 x hx y hy | exact ih2 x hx y hy
abbrev wideB (lh : Int × Int) : Bool := decide (1 < lh.2 - lh.1)
theorem CutT.wide {s e : Int} {A : List (Int × Int)} (h : CutT s e A) : ((A.filter wideB).length : Int) = if e - s = 1 then 0 else e - s - 2 := by
  induction h with
  | leaf h => rw [if_pos h]; rfl
  | @node s m e A B h1 h2 hA hB ih1 ih2 =>
    have l1 := hA.lt
    have l2 := hB.lt
    rw [if_neg (by omega), List.filter_cons, List.filter_cons, List.filter_append]
    have e1 : wideB (s, m) = decide (1 < m - s) := rfl
    have e2 : wideB (m, e) = decide (1 < e - m) := rfl
    rw [e1, e2]
    by_cases c1 : 1 < m - s <;> by_cases c2 : 1 < e - m <;> simp only [c1, c2, decide_true, decide_false, if_true, if_false, List.length_cons, List.length_append, Bool.false_eq_true] <;> (split at ih1 <;> split at ih2 <;> omega)
/-- a pair of the arc 1 .. n as a pair of corners -/
abbrev foldN (n : Int) (lh : Int × Int) : Int × Int := lawPair lh.1 (lh.2 % n)
theorem fold_lt {n : Int} {x : Int × Int} (h1 : 1 ≤ x.1) (h2 : x.1 < x.2) (h3 : x.2 < n) : foldN n x = x := by
  have e : x.2 % n = x.2 := Int.emod_eq_of_lt (by omega) h3
  unfold foldN lawPair
  rw [e, if_neg (by omega), if_pos (by omega)]
theorem fold_n {n : Int} {x : Int × Int} (h1 : 1 ≤ x.1) (h3 : x.2 = n) : foldN n x = (0, x.1) := by
  have e : x.2 % n = 0 := by rw [h3]; exact Int.emod_self
  unfold foldN lawPair
  rw [e, if_pos (by omega), if_neg (by omega)]
def cutsOf (n : Int) (A : List (Int × Int)) : List (Int × Int) := (A.filter wideB).map (foldN n)
theorem planOf_eq (n : Int) (A : List (Int × Int)) : planOf n A = (n, Tup.mk (sortP (cutsOf n A))) := rfl
theorem cuts_mem {n : Int} {A : List (Int × Int)} (h : CutT 1 n A) {c : Int × Int} (hc : c ∈ cutsOf n A) : (c ∈ A ∧ 1 ≤ c.1 ∧ 2 ≤ c.2 - c.1 ∧ c.2 < n) ∨ (c.1 = 0 ∧ (c.2, n) ∈ A ∧ 2 ≤ c.2 ∧ 2 ≤ n - c.2) := by
  obtain ⟨x, hx, rfl⟩ := List.mem_map.mp hc
  obtain ⟨hx1, hx2⟩ := List.mem_filter.mp hx
  have hx2 : 1 < x.2 - x.1 := of_decide_eq_true hx2
  have hi := h.inside x hx1
  by_cases hn : x.2 = n
  · rw [fold_n hi.1 hn]
    refine .inr ⟨rfl, ?_, by show 2 ≤ x.1; omega, by show 2 ≤ n - x.1; omega⟩
    rw [← hn]; exact hx1
  · rw [fold_lt hi.1 hi.2.1 (by omega)]
    exact .inl ⟨hx1, hi.1, by omega, by omega⟩
theorem cuts_nodup {n : Int} {A : List (Int × Int)} (h : CutT 1 n A) : (cutsOf n A).Nodup := by
  unfold cutsOf
  have hf : (A.filter wideB).Nodup := h.nodup.filter _
  refine List.pairwise_map.mpr (hf.imp_of_mem ?_)
  intro x y hx hy hne e
  have ix := h.inside x (List.mem_filter.mp hx).1
  have iy := h.inside y (List.mem_filter.mp hy).1
  refine hne ?_
  by_cases hxn : x.2 = n <;> by_cases hyn : y.2 = n
  · rw [fold_n ix.1 hxn, fold_n iy.1 hyn] at e
    injection e with _ e2
    cases x; cases y
    exact congr (congrArg Prod.mk e2) (hxn.trans hyn.symm)
  · rw [fold_n ix.1 hxn, fold_lt iy.1 iy.2.1 (by omega)] at e
    have e1 : (0 : Int) = y.1 := congrArg Prod.fst e
    omega
  · rw [fold_n iy.1 hyn, fold_lt ix.1 ix.2.1 (by omega)] at e
    have e1 : x.1 = (0 : Int) := congrArg Prod.fst e
    omega
  · rw [fold_lt ix.1 ix.2.1 (by omega), fold_lt iy.1 iy.2.1 (by omega)] at e
    exact e
theorem ltI_tot {x y : Int × Int} (h : ltI y x = false) (ne : x ≠ y) : ltI x y = true := by
  cases e : ltI x y with
  | true => rfl
  | false => exact absurd (ltI_eq e h) ne
theorem sort_strict {l : List (Int × Int)} (h : l.Nodup) : (sortP l).Pairwise fun x y => ltI x y = true := by
  have hn : (sortP l).Nodup := (sortP_perm l).nodup_iff.mpr h
  have hs := sortP_sorted l
  refine (List.Pairwise.and hn hs).imp ?_
  rintro x y ⟨h1, h2⟩
  exact ltI_tot h2 h1
theorem rising_of : ∀ {l : List (Int × Int)}, (l.Pairwise fun x y => ltI x y = true) → risingM l = true
  | [], _ => rfl
  | [_], _ => rfl
  | x :: y :: r, h => by
    obtain ⟨h1, h2⟩ := List.pairwise_cons.mp h
    have ih := rising_of h2
    unfold risingM at ih ⊢
    show ((ltI x y) :: _).all id = true
    rw [List.all_cons, Bool.and_eq_true]
    exact ⟨h1 y List.mem_cons_self, ih⟩
theorem drawn_is_plan {n : Int} {A : List (Int × Int)} (h : CutT 1 n A) (h3 : 3 ≤ n) (h40 : n ≤ 40) : isPlanM (planOf n A) = true := by
  rw [planOf_eq]
  have hl : ((sortP (cutsOf n A)).length : Int) = n - 3 := by
    rw [sortP_len]
    show (((A.filter wideB).map (foldN n)).length : Int) = n - 3
    rw [List.length_map, h.wide, if_neg (by omega)]
    omega
  have hm : ∀ c, c ∈ sortP (cutsOf n A) ↔ c ∈ cutsOf n A := fun c => (sortP_perm _).mem_iff
  unfold isPlanM
  have c1 : (decide (n < 3) || (decide (40 < n) || !decide (((sortP (cutsOf n A)).length : Int) = n - 3))) = false := by
    rw [decide_eq_false (by omega), decide_eq_false (by omega), decide_eq_true hl]; rfl
  have c2 : ((sortP (cutsOf n A)).map fun lh => isCutM n lh.1 lh.2).all id = true := by
    rw [List.all_eq_true]
    intro b hb
    obtain ⟨c, hc, rfl⟩ := List.mem_map.mp hb
    rcases cuts_mem h ((hm c).mp hc) with q | q
    · show isCutM n c.1 c.2 = true
      unfold isCutM
      rw [decide_eq_false (by omega), decide_eq_false (by omega), if_neg (by decide), decide_eq_true (by omega), decide_eq_false (fun e => by have e1 : c.1 = 0 := congrArg Prod.fst e; omega)]
      rfl
    · show isCutM n c.1 c.2 = true
      unfold isCutM
      rw [decide_eq_false (by omega), decide_eq_false (by omega), if_neg (by decide), decide_eq_true (by omega), decide_eq_false (fun e => by have e1 : c.2 = n - 1 := congrArg Prod.snd e; omega)]
      rfl
  have c3 : crossingM (sortP (cutsOf n A)) = false := by
    cases e : crossingM (sortP (cutsOf n A)) with
    | false => rfl
    | true =>
      exfalso
      unfold crossingM at e
      rw [List.any_eq_true] at e
      obtain ⟨b, hb, hb2⟩ := e
      obtain ⟨x, hx, hb⟩ := List.mem_flatMap.mp hb
      obtain ⟨y, hy, rfl⟩ := List.mem_map.mp hb
      simp only [id, Bool.and_eq_true, decide_eq_true_eq] at hb2
      rcases cuts_mem h ((hm x).mp hx) with q | q <;> rcases cuts_mem h ((hm y).mp hy) with q' | q'
      · exact h.apart x q.1 y q'.1 hb2
      · omega
      · exact h.apart y q'.1 (x.2, n) q.2.1 ⟨by show y.1 < x.2; omega, by show x.2 < y.2; omega, by show y.2 < n; omega⟩
      · omega
  show (if (decide (n < 3) || (decide (40 < n) || !decide (((sortP (cutsOf n A)).length : Int) = n - 3))) = true then false
    else if (!((sortP (cutsOf n A)).map fun lh => isCutM n lh.1 lh.2).all id) = true then false else risingM (sortP (cutsOf n A)) && !crossingM (sortP (cutsOf n A))) = true
  rw [c1, if_neg (by decide), c2, if_neg (by decide), c3, rising_of (sort_strict (cuts_nodup h))]
  rfl

end Pf

namespace Pf
open PySem PySem.Spec PyProof.Rows L2
/-! ### corners become others -/
theorem all_map {α : Type} {f : α → Bool} {l : List α} : (l.map f).all id = true ↔ ∀ x ∈ l, f x = true := by
  rw [List.all_eq_true]
  constructor
  · intro h x hx
    exact h _ (List.mem_map.mpr ⟨x, hx, rfl⟩)
  · intro h b hb
    obtain ⟨x, hx, rfl⟩ := List.mem_map.mp hb
    exact h x hx
/-- what a plan is, in plain words -/
structure Valid (n : Int) (L : List (Int × Int)) : Prop where
  lo : 3 ≤ n
  hi : n ≤ 40
  len : (L.length : Int) = n - 3
  cut : ∀ c ∈ L, 0 ≤ c.1 ∧ 2 ≤ c.2 - c.1 ∧ c.2 < n ∧ ¬ (c.1 = 0 ∧ c.2 = n - 1)
  nd : L.Nodup
  no : ∀ x ∈ L, ∀ y ∈ L, ¬ (x.1 < y.1 ∧ y.1 < x.2 ∧ x.2 < y.2)
theorem isCut_iff {n l h : Int} : isCutM n l h = true ↔ 0 ≤ l ∧ 2 ≤ h - l ∧ h < n ∧ ¬ (l = 0 ∧ h = n - 1) := by
  unfold isCutM
  by_cases c : l < 0 ∨ n ≤ h
  · have e : (decide (l < 0) || decide (n ≤ h)) = true := by simpa using c
    rw [if_pos e]
    constructor
    · intro z; cases z
    · intro z; omega
  · have e : ¬ (decide (l < 0) || decide (n ≤ h)) = true := by simpa using c
    rw [if_neg e, Bool.and_eq_true, decide_eq_true_eq, Bool.not_eq_true', decide_eq_false_iff_not]
    constructor
    · rintro ⟨h1, h2⟩
      exact ⟨by omega, h1, by omega, fun z => h2 (congr (congrArg Prod.mk z.1) z.2)⟩
    · rintro ⟨h1, h2, h3, h4⟩
      exact ⟨h2, fun z => h4 ⟨congrArg Prod.fst z, congrArg Prod.snd z⟩⟩
theorem crossing_iff {L : List (Int × Int)} : crossingM L = false ↔ ∀ x ∈ L, ∀ y ∈ L, ¬ (x.1 < y.1 ∧ y.1 < x.2 ∧ x.2 < y.2) := by
  constructor
  · intro h x hx y hy z
    have : crossingM L = true := by
      unfold crossingM
      rw [List.any_eq_true]
      exact ⟨_, List.mem_flatMap.mpr ⟨x, hx, List.mem_map.mpr ⟨y, hy, rfl⟩⟩, by simp only [id, Bool.and_eq_true, decide_eq_true_eq]; exact z⟩
    rw [h] at this
    cases this
  · intro h
    cases e : crossingM L with
    | false => rfl
    | true =>
      exfalso
      unfold crossingM at e
      rw [List.any_eq_true] at e
      obtain ⟨b, hb, hb2⟩ := e
      obtain ⟨x, hx, hb⟩ := List.mem_flatMap.mp hb
      obtain ⟨y, hy, rfl⟩ := List.mem_map.mp hb
      simp only [id, Bool.and_eq_true, decide_eq_true_eq] at hb2
      exact h x hx y hy hb2
theorem ltI_trans {x y z : Int × Int} (h1 : ltI x y = true) (h2 : ltI y z = true) : ltI x z = true := by
  have a := SrtO.lexB_iff.mp h1
  have b := SrtO.lexB_iff.mp h2
  refine SrtO.lexB_iff.mpr ?_
  omega
theorem rising_pw : ∀ {l : List (Int × Int)}, risingM l = true → l.Pairwise fun x y => ltI x y = true
  | [], _ => List.Pairwise.nil
  | [_], _ => List.pairwise_singleton _ _
  | x :: y :: r, h => by
    unfold risingM at h
    have h : ((ltI x y) :: (((y :: r).zip ((y :: r).drop 1)).map fun oq => ltI oq.1 oq.2)).all id = true := h
    rw [List.all_cons, Bool.and_eq_true] at h
    have ih := rising_pw (l := y :: r) h.2
    refine List.pairwise_cons.mpr ⟨fun z hz => ?_, ih⟩
    rcases List.mem_cons.mp hz with rfl | hz
    · exact h.1
    · exact ltI_trans h.1 ((List.pairwise_cons.mp ih).1 z hz)
theorem pw_sorted {l : List (Int × Int)} (h : l.Pairwise fun x y => ltI x y = true) : l = sortP l := sortP_uniq (List.Perm.refl _) (h.imp ltI_as)
theorem ltI_irr (x : Int × Int) : ltI x x = false := SrtO.lexB_no.mpr (by omega)
theorem pw_nodup {l : List (Int × Int)} (h : l.Pairwise fun x y => ltI x y = true) : l.Nodup := h.imp fun {x y} h e => by subst e; rw [ltI_irr] at h; cases h
theorem plan_iff {n : Int} {L : List (Int × Int)} : isPlanM (n, Tup.mk L) = true ↔ Valid n L ∧ L = sortP L := by
  constructor
  · intro h
    unfold isPlanM at h
    have h : (if (decide (n < 3) || (decide (40 < n) || !decide ((L.length : Int) = n - 3))) = true then false else if (!(L.map fun lh => isCutM n lh.1 lh.2).all id) = true then false else risingM L && !crossingM L) = true := h
    split at h
    · cases h
    rename_i c1
    split at h
    · cases h
    rename_i c2
    simp only [Bool.or_eq_true, decide_eq_true_eq, Bool.not_eq_true', decide_eq_false_iff_not, not_or, Int.not_lt, Decidable.not_not] at c1
    rw [Bool.not_eq_true', Bool.not_eq_false] at c2
    rw [Bool.and_eq_true, Bool.not_eq_true'] at h
    have pw := rising_pw h.1
    exact ⟨⟨c1.1, c1.2.1, c1.2.2, fun c hc => isCut_iff.mp (all_map.mp c2 c hc), pw_nodup pw, crossing_iff.mp h.2⟩, pw_sorted pw⟩
  · rintro ⟨v, e⟩
    have c1 : (decide (n < 3) || (decide (40 < n) || !decide ((L.length : Int) = n - 3))) = false := by
      have := v.lo
      have := v.hi
      rw [decide_eq_false (by omega), decide_eq_false (by omega), decide_eq_true v.len]; rfl
    have c2 : (L.map fun lh => isCutM n lh.1 lh.2).all id = true := all_map.mpr fun c hc => isCut_iff.mpr (v.cut c hc)
    have c3 : risingM L = true := by rw [e]; exact rising_of (sort_strict v.nd)
    unfold isPlanM
    show (if (decide (n < 3) || (decide (40 < n) || !decide ((L.length : Int) = n - 3))) = true then false else if (!(L.map fun lh => isCutM n lh.1 lh.2).all id) = true then false else risingM L && !crossingM L) = true
    rw [c1, if_neg (by decide), c2, if_neg (by decide), c3, crossing_iff.mpr v.no]
    rfl
theorem Valid.perm {n : Int} {L M : List (Int × Int)} (v : Valid n L) (h : L.Perm M) : Valid n M :=
  ⟨v.lo, v.hi, by rw [← h.length_eq]; exact v.len, fun c hc => v.cut c (h.mem_iff.mpr hc), h.nodup_iff.mp v.nd, fun x hx y hy => v.no x (h.mem_iff.mpr hx) y (h.mem_iff.mpr hy)⟩
theorem plan_facts {p : Plan} (h : isPlanM p = true) : 3 ≤ p.1 ∧ p.1 ≤ 40 ∧ p.2.l.length ≤ 37 ∧ (∀ c ∈ p.2.l, 0 ≤ c.1 ∧ c.1 < p.1 ∧ 0 ≤ c.2 ∧ c.2 < p.1) ∧ Valid p.1 p.2.l ∧ p.2.l = sortP p.2.l := by
  obtain ⟨n, ⟨L⟩⟩ := p
  obtain ⟨v, e⟩ := plan_iff.mp h
  have h1 := v.lo
  have h2 := v.hi
  have h3 := v.len
  exact ⟨h1, h2, by show L.length ≤ 37; omega, fun c hc => by have := v.cut c hc; show 0 ≤ c.1 ∧ c.1 < n ∧ 0 ≤ c.2 ∧ c.2 < n; omega, v, e⟩

end Pf

namespace Pf
open PySem PySem.Spec PyProof.Rows L2
/-! ### plans under turning and mirroring -/
theorem lp_sym (a b : Int) : lawPair a b = lawPair b a := by
  unfold lawPair
  by_cases h1 : b < a
  · rw [if_pos h1, if_neg (by omega), if_neg (by omega), if_pos (by omega)]
  · by_cases h2 : a < b
    · rw [if_neg h1, if_pos (by omega), if_pos (by omega), if_neg (by omega)]
    · have e : a = b := by omega
      subst e
      rfl
theorem lp_lt {a b : Int} (h : a < b) : lawPair a b = (a, b) := by
  unfold lawPair
  rw [if_neg (by omega), if_pos (by omega)]
theorem lp_cases (a b : Int) : (lawPair a b = (a, b) ∧ a ≤ b) ∨ (lawPair a b = (b, a) ∧ b < a) := by
  by_cases h : b < a
  · exact .inr ⟨by rw [lp_sym]; exact lp_lt h, h⟩
  · refine .inl ⟨?_, by omega⟩
    by_cases h2 : a < b
    · exact lp_lt h2
    · have e : a = b := by omega
      subst e
      unfold lawPair
      simp
end Pf

namespace Pf
open PySem PySem.Spec PyProof.Rows L2
/-! ### a def whose last parameter y has a default dv -/
structure TxD (K : Fg) (mg : Str → Option Value) (x : Str) (ps : List Str) (y : Str) (st : Stmt) (n : Nat) (dv : V) : Prop where
  ex : ∃ f fd, FunD K x x (defArgs st) (defBody st) (defScope st) [dv] [] f fd ∧ Binds K fd ps [] ∧ (∃ ds, Vals [dv] ds ∧ Binds K fd ps ds) ∧ KBn K fd ps n [y] (fun us ws => us ++ ws) (fun vs zs => vs ++ zs) ∧ mg x = some (.ref f)
structure DfD (P : Program) (w : World) (K : Fg) (mg : Str → Option Value) (base : Heap) (k : Nat) (x : Str) (ps : List Str) (y : Str) (n : Nat) (dv : V) (sp : Sp) : Prop where
  ex : ∃ f fd, FnOk P w K mg base CX0 k f fd ps sp ∧ Binds K fd ps [] ∧ (∃ ds, Vals [dv] ds ∧ Binds K fd ps ds) ∧ KBn K fd ps n [y] (fun us ws => us ++ ws) (fun vs zs => vs ++ zs) ∧ PySem.W.keepIn K (.ref f) = true ∧ mg x = some (.ref f)
section
variable {P : Program} {w : World} {K : Fg} {mg : Str → Option Value} {base : Heap}
theorem TxD.ok {x y : Str} {st : Stmt} {N ps : List Str} {k n : Nat} {dv : V} {sp : Sp} (T : TxD K mg x ps y st n dv) (S : FnScope N ps (defScope st)) (len : ∀ vs H Q E, sp vs H Q E → vs.length = ps.length)
    (hbody : ∀ (cdv : Value) (f : Addr) (A : Around) (outer : List Env) (s : Shared) (H : Hp) (vs : List V) (Q : VK) (E : XK), Room k (A.deeper (envOfC x (defScope st) s.heap.objs.size f cdv)) → sp vs H Q E →
      ∃ t, PSs (cxOf CX0 P w K mg base N x (defScope st) f cdv A outer s H E).nox (defBody st) t ∧ t { nx := fun _ H' => Q .non H', rt := Q } (start N vs) H) : DfD P w K mg base (k + 1) x ps y n dv sp := by
  obtain ⟨f, fd, F, b, b1, b2, m⟩ := T.ex
  refine ⟨f, fd, F.ok S len fun cdv A outer s H vs Q E hr h => ?_, b, b1, b2, F.kp, m⟩
  obtain ⟨t, h1, h2⟩ := hbody cdv f A outer s H vs Q E hr h
  exact ⟨t, h1.nox, h2⟩
variable {X : Cx} {j k n : Nat} {x y : Str} {ps : List Str} {dv : V} {sp : Sp} {p pos : Pos} {e : Expr} {es : List Expr} {t tk : TA}
end
section
variable {α β γ : Type} [Rep α] [Rep β] [Rep γ] {σ : L2.St} {G H : Hp} {ta tb : TE} {x : α} {x2 : β} {v2 : V}
end
/-! ### such a def as the top leaves it -/
section
variable {K : Fg} {mg : Str → Option Value} {x y : Str} {st : Stmt} {f T : Addr} {oc : Value} {od an : Option Addr} {osl : Array (Option Value)} {kV doc pm cdv ct u : Value} {o : Obj} {m n : Nat} {dv : V} {ps : List Str}
end
end Pf

namespace Pf
open PySem PySem.Spec PyProof.Rows L2
/-- around a body nothing is let out -/
theorem takes_n5 {X : Cx} : L2N.Takes X (fun _ _ _ _ => False) := fun _ _ ⟨_, _, _, _, _, _, _, _, _, _, _, _, _, _, _, _, w⟩ => w.elim
section
variable {P : Program} {w : World} {K : Fg} {mg : Str → Option Value} {base : Heap}
/-- a def that may raise: its errors bear no context -/
theorem _root_.L2.Fun.okN {x qual : Str} {st : Stmt} {f : Addr} {fd : FuncData} {N ps : List Str} {k : Nat} {sp : Sp} (F : Fun K x qual st f fd) (S : FnScope N ps (defScope st)) (lenS : ∀ vs H Q E, sp vs H Q E → vs.length = ps.length)
    (runs : ∀ (cdv : Value) (A : Around) (outer : List Env) (s : Shared) (H : Hp) (vs : List V) (Q : VK) (E : XK), Room k (A.deeper (envOfC qual (defScope st) s.heap.objs.size f cdv)) → sp vs H Q E →
      ∃ t, PSs (cxOf (L2N.CX P w) P w K mg base N qual (defScope st) f cdv A outer s H E) (defBody st) t ∧ t { nx := fun _ H' => Q .non H', rt := Q } (start N vs) H) : FnOk P w K mg base (L2N.CX P w) (k + 1) f fd ps sp := by
  obtain ⟨_, _, _, _, _, _, cdv, _, _, rfl, look, code⟩ := F.ex
  exact fn_of look code S lenS fun A outer s H vs Q E hr hsp => runs cdv A outer s H vs Q E hr hsp
end
/-! ### errors of the program's own, made with a text -/
structure DfX (P : Program) (w : World) (K : Fg) (mg : Str → Option Value) (base : Heap) (k : Nat) (x : Str) (ps : List Str) (sp : Sp) : Prop where
  ex : ∃ f fd, FnOk P w K mg base (L2N.CX P w) k f fd ps sp ∧ Binds K fd ps [] ∧ PySem.W.keepIn K (.ref f) = true ∧ mg x = some (.ref f)
section
variable {P : Program} {w : World} {K : Fg} {mg : Str → Option Value} {base : Heap}
theorem Tx.okX {x : Str} {st : Stmt} {N ps : List Str} {k : Nat} {sp : Sp} (T : Tx K mg x ps st) (S : FnScope N ps (defScope st)) (len : ∀ vs H Q E, sp vs H Q E → vs.length = ps.length)
    (hbody : ∀ (cdv : Value) (f : Addr) (A : Around) (outer : List Env) (s : Shared) (H : Hp) (vs : List V) (Q : VK) (E : XK), Room k (A.deeper (envOfC x (defScope st) s.heap.objs.size f cdv)) → sp vs H Q E →
      ∃ t, PSs (cxOf (L2N.CX P w) P w K mg base N x (defScope st) f cdv A outer s H E) (defBody st) t ∧ t { nx := fun _ H' => Q .non H', rt := Q } (start N vs) H) : DfX P w K mg base (k + 1) x ps sp := by
  obtain ⟨f, fd, F, b, m⟩ := T.ex
  exact ⟨f, fd, F.okN S len fun cdv A outer s H vs Q E hr h => hbody cdv f A outer s H vs Q E hr h, b, F.kp, m⟩
variable {X : Cx} {j k : Nat} {x : Str} {ps : List Str} {sp : Sp} {p pos : Pos} {e : Expr} {es : List Expr} {t : TA} {W : WX}
/-- a call within a try -/
theorem pe_dfS (D : DfX X.prog X.w X.K X.mg X.base j x ps sp) (hr : Room k X.A) (le : j ≤ k) (hg : Gl X x) (tk : L2N.Takes X W)
    (ha : PA X (e :: es) t) (hdb : (x == ("__debug__" : Str)) = false := by decide) (he : starEach (e :: es) X.env = (false, eval e X.env) :: starEach es X.env := by rfl) (hpl : (backTo pos (starEach es X.env)).any (·.1) = false := by rfl) :
    PE X (.Call (.Name x p) (e :: es) [] pos) (tCallS sp (WE W) t) := by
  obtain ⟨f, fd, F, b, kp, m⟩ := D.ex
  exact pe_callS F (hr.mono le) hg m kp b (fun σ => L2N.passAt tk σ) ha hdb he hpl
end
/-! ### a list that is new -/
section
variable {α β : Type} [Rep α] [Rep β] {σ : L2.St} {G H : Hp} {te : TE} {tt : TT} {g : TG} {K : Fg}
/-- a new list that the asker may change -/
def EvN (te : TE) (σ : L2.St) (G : Hp) (xs : List α) : Prop := ∀ H, Same G H → ∀ Q : VK, (∀ p G' H', Gr M0 G H G' H' → H p = none → Ml G' H' p xs → Q (.ref p) H') → te σ H Q
theorem EvN.ev {xs : List α} (h : EvN te σ G xs) : Ev te σ G xs := fun H i Q q => h H i Q fun p G' H' g np m => by
  obtain ⟨G2, g2, r2, _⟩ := m.frz g np
  exact q _ G2 H' g2 r2
end
/-! ### a dict of pairs that stands still -/
structure Dic (α : Type) where
  m : Int × Int → Option α
instance {α : Type} [Rep α] : Rep (Dic α) := ⟨fun G v d => ∃ a kvs, v = .ref a ∧ G a = some (.dT kvs) ∧ ∀ p, OptRep G (valV kvs (kk p)) (d.m p),
  fun e ⟨a, kvs, h1, h2, h3⟩ => ⟨a, kvs, h1, e _ _ h2, fun p => (h3 p).mono e⟩⟩
section
variable {α : Type} [Rep α] {σ : L2.St} {G H : Hp} {ta tb : TE} {K : Fg}
theorem Md.frz {M : Addr → Prop} {Ge He : Hp} {d : Addr} {n : Nat} {m : Int × Int → Option α} (x : Md G H d n m) (g : Gr M Ge He G H) (np : He d = none) : ∃ G', Gr M Ge He G' H ∧ Pf.rep G' (.ref d) (Dic.mk m) ∧ Same G G' := by
  obtain ⟨h1, kvs, h2, h3, h4⟩ := x
  exact ⟨upd G d (.dT kvs), g.still np h1 h2, ⟨d, kvs, rfl, upd_same, fun p => (h4 p).mono (same_new h1)⟩, same_new h1⟩
theorem opt_some {o : Option V} {m : Option α} (h : OptRep G o m) : o.isSome = m.isSome := by
  cases m with
  | none => rw [show o = none from h]; rfl
  | some x => obtain ⟨v, e, _⟩ := h; rw [e]; rfl
end
/-! ### defs that hand back a new list -/
section
variable {α β γ : Type} [Rep α] [Rep β] [Rep γ] {σ : L2.St} {G H : Hp} {ta tb te : TE} {x : α} {x2 : β} {D : Ends} {u : TS}
end
end Pf

namespace Pf
open PySem PySem.Spec PyProof.Rows L2
/-! ### lines and fans -/
def sidesM (n : Int) : List (Int × Int) := (rng 0 n).map fun c => lawPair c ((c + 1) % n)
def linesM (p : Plan) : List (Int × Int) := sortP (sidesM p.1 ++ p.2.l)
def lawSides (n : Int) : List (Int × Int) := ((rng 0 (n - 1)).map fun l => (l, l + 1)) ++ [(0, n - 1)]
def allLines (p : Plan) : List (Int × Int) := sortP (lawSides p.1 ++ p.2.l)
theorem rng_snoc {a b : Int} (h : a ≤ b) : rng a (b + 1) = rng a b ++ [b] := by
  unfold rng
  have e : (b + 1 - a).toNat = (b - a).toNat + 1 := by omega
  rw [e, List.range_succ, List.map_append]
  congr 1
  show [a + ((b - a).toNat : Int)] = [b]
  congr 1
  omega
theorem sides_eq {n : Int} (h : 2 ≤ n) : sidesM n = lawSides n := by
  unfold sidesM lawSides
  have e : rng 0 n = rng 0 (n - 1) ++ [n - 1] := by
    have z := rng_snoc (a := 0) (b := n - 1) (by omega)
    rw [show n - 1 + 1 = n by omega] at z
    exact z
  rw [e, List.map_append]
  congr 1
  · refine List.map_congr_left fun c hc => ?_
    have hc := rng_mem.mp hc
    rw [Int.emod_eq_of_lt (by omega) (by omega), lp_lt (by omega)]
  · show [lawPair (n - 1) ((n - 1 + 1) % n)] = [(0, n - 1)]
    rw [show n - 1 + 1 = n by omega, Int.emod_self, lp_sym, lp_lt (by omega)]
theorem lines_eq {p : Plan} (h : 2 ≤ p.1) : linesM p = allLines p := by
  unfold linesM allLines
  rw [sides_eq h]
theorem lines_len {p : Plan} (h : isPlanM p = true) : ((allLines p).length : Int) = 2 * p.1 - 3 := by
  obtain ⟨h3, h40, _, _, v, _⟩ := plan_facts h
  have := v.len
  unfold allLines lawSides
  rw [sortP_len, List.length_append, List.length_append, List.length_map, rng_len]
  simp only [List.length_singleton]
  omega
theorem line_lt {p : Plan} (h : isPlanM p = true) {q : Int × Int} (hq : q ∈ allLines p) : 0 ≤ q.1 ∧ q.1 < q.2 ∧ q.2 < p.1 := by
  obtain ⟨h3, h40, _, _, v, _⟩ := plan_facts h
  unfold allLines at hq
  have hq := (sortP_perm _).mem_iff.mp hq
  rcases List.mem_append.mp hq with hq | hq
  · unfold lawSides at hq
    rcases List.mem_append.mp hq with hq | hq
    · obtain ⟨l, hl, rfl⟩ := List.mem_map.mp hq
      have hl := rng_mem.mp hl
      exact ⟨by show 0 ≤ l; omega, by show l < l + 1; omega, by show l + 1 < p.1; omega⟩
    · rw [List.mem_singleton.mp hq]
      exact ⟨by show (0 : Int) ≤ 0; omega, by show (0 : Int) < p.1 - 1; omega, by show p.1 - 1 < p.1; omega⟩
  · have := v.cut q hq
    omega
end Pf

namespace Pf
open PySem PySem.Spec PyProof.Rows L2
/-! ### dicts whose keys are tuples of whole numbers and texts, in their order -/
class TK (κ : Type) [Rep κ] where
  ky : κ → List Key
  inj : ∀ {x y : κ}, ky x = ky y → x = y
  to : ∀ {G : Hp} {b : Addr} {x : κ}, G b = some (.tup ((ky x).map kV)) → rep G (.ref b) x
  of : ∀ {G : Hp} {v : V} {x : κ}, rep G v x → ∃ b, v = .ref b ∧ G b = some (.tup ((ky x).map kV))
instance : TK (Int × Int) where
  ky := kk
  inj := kk_inj
  to := fun {G b x} h => ⟨b, .int x.1, .int x.2, rfl, h, rfl, rfl⟩
  of := fun {G v x} ⟨b, u, w, e, h, h1, h2⟩ => ⟨b, e, by rw [rep_int h1, rep_int h2] at h; exact h⟩
instance : TK (Tri Int Int Int) where
  ky := fun x => [Sum.inl x.a, Sum.inl x.b, Sum.inl x.c]
  inj := fun {x y} h => by
    injection h with h1 h; injection h with h2 h; injection h with h3 h
    cases x; cases y
    cases Sum.inl.inj h1; cases Sum.inl.inj h2; cases Sum.inl.inj h3; rfl
  to := fun {G b x} h => ⟨b, .int x.a, .int x.b, .int x.c, rfl, h, rfl, rfl, rfl⟩
  of := fun {G v x} ⟨b, u, w, z, e, h, h1, h2, h3⟩ => ⟨b, e, by rw [rep_int h1, rep_int h2, rep_int h3] at h; exact h⟩
instance : TK (Tri Int Int Str) where
  ky := fun x => [Sum.inl x.a, Sum.inl x.b, Sum.inr x.c]
  inj := fun {x y} h => by
    injection h with h1 h; injection h with h2 h; injection h with h3 h
    cases x; cases y
    cases Sum.inl.inj h1; cases Sum.inl.inj h2; cases Sum.inr.inj h3; rfl
  to := fun {G b x} h => ⟨b, .int x.a, .int x.b, .str x.c, rfl, h, rfl, rfl, rfl⟩
  of := fun {G v x} ⟨b, u, w, z, e, h, h1, h2, h3⟩ => ⟨b, e, by rw [rep_int h1, rep_int h2, rep_str h3] at h; exact h⟩
structure Dct (κ α : Type) where
  l : List (κ × α)
section
variable {κ α β : Type} [Rep κ] [TK κ] [DecidableEq κ] [Rep α] [Rep β] {σ : L2.St} {G H : Hp} {ta tb te : TE} {K : Fg} {D : Ends} {u : TS}
def EnR (G : Hp) (kv : List Key × V) (x : κ × α) : Prop := kv.1 = TK.ky x.1 ∧ rep G kv.2 x.2
theorem enr_mono {G G' : Hp} (e : Same G G') {kvs : List (List Key × V)} {l : List (κ × α)} (h : Paired (EnR G) kvs l) : Paired (EnR G') kvs l := Paired.mapP h fun _ _ r => ⟨r.1, Rep.mono e r.2⟩
instance : Rep (Dct κ α) := ⟨fun G v d => ∃ a kvs, v = .ref a ∧ G a = some (.dT kvs) ∧ Paired (EnR G) kvs d.l, fun e ⟨a, kvs, h1, h2, h3⟩ => ⟨a, kvs, h1, e _ _ h2, enr_mono e h3⟩⟩
def look (l : List (κ × α)) (k : κ) : Option α := (l.find? fun e => decide (e.1 = k)).map (·.2)
def put (l : List (κ × α)) (k : κ) (x : α) : List (κ × α) := if (l.any fun e => decide (e.1 = k)) = true then l.map (fun e => if e.1 = k then (e.1, x) else e) else l ++ [(k, x)]
def Mt (G H : Hp) (d : Addr) (l : List (κ × α)) : Prop := G d = none ∧ ∃ kvs, H d = some (.dT kvs) ∧ Paired (EnR G) kvs l
theorem Mt.step {M : Addr → Prop} {G' H' : Hp} {d : Addr} {l : List (κ × α)} (x : Mt G H d l) (g : Gr M G H G' H') (hp : ¬ M d) : Mt G' H' d l := by
  obtain ⟨h1, kvs, h2, h3⟩ := x
  exact ⟨g.out h1 h2, kvs, g.h _ _ hp h2, enr_mono g.g h3⟩
theorem Mt.step0 {G' H' : Hp} {d : Addr} {l : List (κ × α)} (x : Mt G H d l) (g : Gr M0 G H G' H') : Mt G' H' d l := x.step g fun z => z
theorem Mt.other {q d : Addr} {o : HO} {l : List (κ × α)} (x : Mt G H d l) (ne : d ≠ q) : Mt G (upd H q o) d l := by
  obtain ⟨h1, kvs, h2, h⟩ := x
  exact ⟨h1, kvs, by rw [upd_ne ne]; exact h2, h⟩
theorem Mt.frz {M : Addr → Prop} {Ge He : Hp} {d : Addr} {l : List (κ × α)} (x : Mt G H d l) (g : Gr M Ge He G H) (np : He d = none) : ∃ G', Gr M Ge He G' H ∧ Pf.rep G' (.ref d) (Dct.mk l) ∧ Same G G' := by
  obtain ⟨h1, kvs, h2, h4⟩ := x
  exact ⟨upd G d (.dT kvs), g.still np h1 h2, ⟨d, kvs, rfl, upd_same, enr_mono (same_new h1) h4⟩, same_new h1⟩
/-! d stands still -/
/-- a value or None -/
instance : Rep (Option Int) := ⟨fun _ v x => v = match x with | some i => .int i | none => .non, fun _ h => h⟩
instance : Flat (Option Int) := ⟨fun h => h⟩
end
section
variable {κ α : Type} [DecidableEq κ]
/-! a law of look and put -/
theorem look_put (l : List (κ × α)) (k q : κ) (x : α) : look (put l k x) q = if q = k then some x else look l q := by
  have key : ∀ l : List (κ × α), (l.map fun e => if e.1 = k then (e.1, x) else e).find? (fun e => decide (e.1 = q)) = (l.find? fun e => decide (e.1 = q)).map fun e => if e.1 = k then (e.1, x) else e := by
    intro l
    induction l with
    | nil => rfl
    | cons e r ih =>
      rw [List.map_cons, List.find?_cons, List.find?_cons]
      have h1 : (if e.1 = k then (e.1, x) else e).1 = e.1 := by by_cases h : e.1 = k <;> simp [h]
      rw [h1]
      cases decide (e.1 = q) with
      | true => rfl
      | false => exact ih
  unfold look put
  by_cases h : (l.any fun e => decide (e.1 = k)) = true
  · rw [if_pos h, key]
    by_cases e : q = k
    · subst e
      rw [if_pos rfl]
      cases f : l.find? fun e => decide (e.1 = q) with
      | none =>
        obtain ⟨e, he, hq⟩ := List.any_eq_true.mp h
        exact absurd hq (List.find?_eq_none.mp f e he)
      | some e =>
        have := List.find?_some f
        have he : e.1 = q := of_decide_eq_true this
        show some (if e.1 = q then (e.1, x) else e).2 = some x
        rw [if_pos he]
    · rw [if_neg e]
      cases f : l.find? fun e => decide (e.1 = q) with
      | none => rfl
      | some z =>
        have he := List.find?_some f
        have he : z.1 = q := of_decide_eq_true he
        show some (if z.1 = k then (z.1, x) else z).2 = some z.2
        rw [if_neg fun h => e (he.symm.trans h)]
  · rw [if_neg h, List.find?_append]
    have hn : (l.find? fun e => decide (e.1 = k)) = none := by
      refine List.find?_eq_none.mpr fun e he hq => h (List.any_eq_true.mpr ⟨e, he, hq⟩)
    by_cases e : q = k
    · subst e
      rw [if_pos rfl, hn, Option.none_or]
      rw [List.find?_cons, show decide ((q, x).1 = q) = true from decide_eq_true rfl]
      rfl
    · rw [if_neg e]
      cases f : l.find? fun e => decide (e.1 = q) with
      | none =>
        rw [Option.none_or, List.find?_cons, show decide ((k, x).1 = q) = false from decide_eq_false fun z => e z.symm]
        rfl
      | some z => rfl
theorem put_keys (l : List (κ × α)) (k : κ) (x : α) : (put l k x).map (·.1) = if k ∈ l.map (·.1) then l.map (·.1) else l.map (·.1) ++ [k] := by
  unfold put
  by_cases h : (l.any fun e => decide (e.1 = k)) = true
  · obtain ⟨e, he, hq⟩ := List.any_eq_true.mp h
    rw [if_pos h, if_pos (List.mem_map.mpr ⟨e, he, of_decide_eq_true hq⟩), List.map_map]
    refine List.map_congr_left fun e _ => ?_
    show (if e.1 = k then (e.1, x) else e).1 = e.1
    by_cases h : e.1 = k <;> simp [h]
  · rw [if_neg h, if_neg fun z => by
      obtain ⟨e, he, hq⟩ := List.mem_map.mp z
      exact h (List.any_eq_true.mpr ⟨e, he, decide_eq_true hq⟩)]
    simp
theorem put_nodup {l : List (κ × α)} (h : (l.map (·.1)).Nodup) (k : κ) (x : α) : ((put l k x).map (·.1)).Nodup := by
  rw [put_keys]
  by_cases e : k ∈ l.map (·.1)
  · rw [if_pos e]; exact h
  · rw [if_neg e]
    refine List.nodup_append.mpr ⟨h, List.pairwise_singleton _ _, fun a ha b hb => ?_⟩
    rw [List.mem_singleton.mp hb]
    intro z; subst z; exact e ha
theorem look_mem {l : List (κ × α)} {k : κ} : (look l k).isSome = true ↔ k ∈ l.map (·.1) := by
  unfold look
  rw [Option.isSome_map, List.find?_isSome]
  constructor
  · rintro ⟨e, he, hq⟩
    exact List.mem_map.mpr ⟨e, he, of_decide_eq_true hq⟩
  · intro h
    obtain ⟨e, he, hq⟩ := List.mem_map.mp h
    exact ⟨e, he, decide_eq_true hq⟩
end
end Pf

namespace Pf
open PySem PySem.Spec PyProof.Rows L2
/-! ### enumerate of a tuple -/
section
variable {prog : Program} {w : World} {A : Around} {E : Value → Shared → Prop} {s : Shared}
end
/-! ### a loop whose source has come -/
section
variable {α : Type} [Rep α] {σ : L2.St} {G H : Hp} {D : Ends} {ts u : TS} {g : TG} {K : Fg}
end
/-! ### t[::-1], t a tuple -/
section
variable {prog : Program} {w : World} {A : Around} {E : Value → Shared → Prop} {s : Shared}
end
end Pf

namespace Pf
open PySem PySem.Spec PyProof.Rows L2
/-! ### a plan, looked at cut by cut -/
/-! ### enumerate, <= of pairs -/
section
variable {α β γ : Type} [Rep α] [Rep β] [Rep γ] {σ : L2.St} {G H : Hp} {ta tb : TE} {K : Fg}
end
end Pf

namespace Pf
open PySem PySem.Spec PyProof.Rows L2
def waysBeside (ways : List Int) (first chosen last : Int) : Int := ix ways (chosen - first + 1) * ix ways (last - chosen + 1)
/-! ### the way of a number -/
def before (W : List Int) (s m e : Int) : Int := ((rng (s + 1) m).map fun c => waysBeside W s c e).sum
inductive CutN (W : List Int) : Int → Int → Int → List (Int × Int) → Prop
  | leaf {s e k : Int} : e - s < 2 → CutN W s e k []
  | node {s m e k : Int} {A B : List (Int × Int)} : s < m → m < e → 0 ≤ k - before W s m e → k - before W s m e < waysBeside W s m e →
      CutN W s m ((k - before W s m e) / ix W (e - m + 1)) A → CutN W m e ((k - before W s m e) % ix W (e - m + 1)) B → CutN W s e k (([(s, m), (m, e)].filter wideB) ++ A ++ B)
theorem CutN.cut {W : List Int} {s e k : Int} {L : List (Int × Int)} (h : CutN W s e k L) : s < e → ∃ A, CutT s e A ∧ L = A.filter wideB := by
  induction h with
  | leaf h => intro q; exact ⟨[], .leaf (by omega), rfl⟩
  | @node s m e k A B h1 h2 h3 h4 _ _ ih1 ih2 =>
    intro _
    obtain ⟨A', c1, e1⟩ := ih1 h1
    obtain ⟨B', c2, e2⟩ := ih2 h2
    refine ⟨_, .node h1 h2 c1 c2, ?_⟩
    rw [e1, e2, List.append_assoc, ← List.filter_append, ← List.filter_append]
    rfl
theorem sum_snoc (l : List Int) (x : Int) : (l ++ [x]).sum = l.sum + x := by
  rw [List.sum_append]
  simp
theorem before_s {W : List Int} {s m e : Int} (h : s < m) : before W s (m + 1) e = before W s m e + waysBeside W s m e := by
  unfold before
  rw [rng_snoc (by omega), List.map_append]
  exact sum_snoc _ _
theorem rng_shift (a b k : Int) : rng (a + k) (b + k) = (rng a b).map fun c => c + k := by
  unfold rng
  rw [List.map_map, show (b + k - (a + k)).toNat = (b - a).toNat by omega]
  refine List.map_congr_left fun c _ => ?_
  show a + k + (c : Int) = a + (c : Int) + k
  omega
theorem before_shift (W : List Int) (s m e k : Int) : before W (s + k) (m + k) (e + k) = before W s m e := by
  unfold before
  rw [show s + k + 1 = s + 1 + k by omega, rng_shift, List.map_map]
  congr 1
  refine List.map_congr_left fun c _ => ?_
  show waysBeside W (s + k) (c + k) (e + k) = waysBeside W s c e
  unfold waysBeside
  rw [show c + k - (s + k) + 1 = c - s + 1 by omega, show e + k - (c + k) + 1 = e - c + 1 by omega]
structure WOk (W : List Int) (n : Int) : Prop where
  len : n < W.length
  pos : ∀ i, 2 ≤ i → i ≤ n → 0 < ix W i
  small : ∀ i, 0 ≤ ix W i ∧ ix W i < 2 ^ 80
  sum : ∀ m, 3 ≤ m → m ≤ n → ix W m = before W 0 (m - 1) (m - 1)
theorem WOk.whole {W : List Int} {n s e : Int} (w : WOk W n) (h : 2 ≤ e - s) (hn : e - s + 1 ≤ n) : before W s e e = ix W (e - s + 1) := by
  rw [w.sum (e - s + 1) (by omega) hn, ← before_shift W 0 _ _ s]
  rw [show (0 : Int) + s = s by omega, show e - s + 1 - 1 + s = e by omega]
theorem WOk.beside {W : List Int} {n s m e : Int} (w : WOk W n) : 0 ≤ waysBeside W s m e := Int.mul_nonneg (w.small _).1 (w.small _).1
theorem CutT.few {s e : Int} {A : List (Int × Int)} (h : CutT s e A) : ((A.filter wideB).length : Int) ≤ e - s := by
  rw [h.wide]
  have := h.lt
  split <;> omega

end Pf

namespace Pf
open PySem PySem.Spec PyProof.Rows L2
/-! ### divmod of great numbers -/
section
variable {α β : Type} [Rep α] [Rep β] {σ : L2.St} {G H : Hp} {te ta tb : TE} {tt : TT} {x : α} {K : Fg} {D : Ends} {ts tr u : TS}
/-! ### lists of one's own -/
/-! ### while, += of whole numbers -/
end
/-! ### defs that refuse -/
section
variable {α β : Type} [Rep α] [Rep β]
end
end Pf

namespace Pf
open PySem PySem.Spec PyProof.Rows L2
/-! ### the number of a way to cut -/
inductive NumT (W : List Int) : Int → Int → List (Int × Int) → Int → Prop
  | leaf {s e : Int} : e - s = 1 → NumT W s e [] 0
  | node {s m e k1 k2 : Int} {A B : List (Int × Int)} : s < m → m < e → NumT W s m A k1 → NumT W m e B k2 → NumT W s e ((s, m) :: (m, e) :: (A ++ B)) (before W s m e + k1 * ix W (e - m + 1) + k2)
theorem NumT.cut {W : List Int} {s e k : Int} {A : List (Int × Int)} (h : NumT W s e A k) : CutT s e A := by
  induction h with
  | leaf h => exact .leaf h
  | node h1 h2 _ _ ih1 ih2 => exact .node h1 h2 ih1 ih2
theorem before_mono {W : List Int} {n s e : Int} (w : WOk W n) : ∀ (d : Nat) (m : Int), s < m → before W s m e ≤ before W s (m + d) e
  | 0, m, _ => by rw [show m + ((0 : Nat) : Int) = m by omega]; exact Int.le_refl _
  | d + 1, m, h => by
    have ih := before_mono w d m h (e := e)
    have z := before_s (W := W) (s := s) (m := m + d) (e := e) (by omega)
    have b := w.beside (s := s) (m := m + d) (e := e)
    rw [show m + ((d + 1 : Nat) : Int) = m + d + 1 by omega]
    omega
theorem before_le {W : List Int} {n s e m m' : Int} (w : WOk W n) (h : s < m) (h2 : m ≤ m') : before W s m e ≤ before W s m' e := by
  have z := before_mono w (m' - m).toNat m h (e := e)
  rw [show m + (((m' - m).toNat : Nat) : Int) = m' by omega] at z
  exact z
theorem CutN.uniq {W : List Int} {n s e k : Int} {L : List (Int × Int)} (w : WOk W n) (h : CutN W s e k L) : ∀ {L' : List (Int × Int)}, CutN W s e k L' → L = L' := by
  induction h with
  | leaf h =>
    intro L' h'
    cases h' with
    | leaf _ => rfl
    | node a b _ _ _ _ => omega
  | @node s m e k A B h1 h2 h3 h4 _ _ ih1 ih2 =>
    intro L' h'
    cases h' with
    | leaf _ => omega
    | @node _ m' _ _ A' B' a1 a2 a3 a4 c1 c2 =>
      have em : m = m' := by
        have s1 := before_s (W := W) (s := s) (m := m) (e := e) h1
        have s2 := before_s (W := W) (s := s) (m := m') (e := e) a1
        rcases Int.lt_trichotomy m m' with q | q | q
        · have := before_le w (s := s) (e := e) (m := m + 1) (m' := m') (by omega) (by omega); omega
        · exact q
        · have := before_le w (s := s) (e := e) (m := m' + 1) (m' := m) (by omega) (by omega); omega
      subst em
      rw [ih1 c1, ih2 c2]
/-! the lines of an arc -/
def Sub (J : Int → Int → Prop) (s e : Int) (A : List (Int × Int)) : Prop := ∀ a b, s ≤ a → a < b → b ≤ e → ¬ (a = s ∧ b = e) → (J a b ↔ b - a = 1 ∨ (a, b) ∈ A)
theorem Sub.left {J : Int → Int → Prop} {s m e : Int} {A B : List (Int × Int)} (h : Sub J s e ((s, m) :: (m, e) :: (A ++ B))) (h1 : s < m) (h2 : m < e) (hB : CutT m e B) : Sub J s m A := by
  intro a b ha hab hb hne
  rw [h a b ha hab (by omega) (by omega)]
  constructor
  · rintro (z | z)
    · exact .inl z
    · rcases List.mem_cons.mp z with z | z
      · injection z with z1 z2; omega
      rcases List.mem_cons.mp z with z | z
      · injection z with z1 z2; omega
      rcases List.mem_append.mp z with z | z
      · exact .inr z
      · have := hB.inside _ z
        have q1 : m ≤ a := this.1
        omega
  · rintro (z | z)
    · exact .inl z
    · exact .inr (List.mem_cons_of_mem _ (List.mem_cons_of_mem _ (List.mem_append_left _ z)))
theorem Sub.right {J : Int → Int → Prop} {s m e : Int} {A B : List (Int × Int)} (h : Sub J s e ((s, m) :: (m, e) :: (A ++ B))) (h1 : s < m) (h2 : m < e) (hA : CutT s m A) : Sub J m e B := by
  intro a b ha hab hb hne
  rw [h a b (by omega) hab hb (by omega)]
  constructor
  · rintro (z | z)
    · exact .inl z
    · rcases List.mem_cons.mp z with z | z
      · injection z with z1 z2; omega
      rcases List.mem_cons.mp z with z | z
      · injection z with z1 z2; omega
      rcases List.mem_append.mp z with z | z
      · have := hA.inside _ z
        have q1 : b ≤ m := this.2.2.1
        omega
      · exact .inr z
  · rintro (z | z)
    · exact .inl z
    · exact .inr (List.mem_cons_of_mem _ (List.mem_cons_of_mem _ (List.mem_append_right _ z)))
theorem Sub.mid {J : Int → Int → Prop} {s m e : Int} {A B : List (Int × Int)} (h : Sub J s e ((s, m) :: (m, e) :: (A ++ B))) (h1 : s < m) (h2 : m < e) : J s m ∧ J m e :=
  ⟨(h s m (by omega) h1 (by omega) (by omega)).mpr (.inr List.mem_cons_self), (h m e (by omega) h2 (by omega) (by omega)).mpr (.inr (List.mem_cons_of_mem _ List.mem_cons_self))⟩
theorem Sub.no {J : Int → Int → Prop} {s m e c : Int} {A B : List (Int × Int)} (h : Sub J s e ((s, m) :: (m, e) :: (A ++ B))) (h1 : s < m) (h2 : m < e) (hA : CutT s m A) (hB : CutT m e B) (hc : s < c) (hcm : c < m) : ¬ J c e := by
  intro z
  rcases (h c e (by omega) (by omega) (by omega) (by omega)).mp z with z | z
  · omega
  rcases List.mem_cons.mp z with z | z
  · injection z with z1 z2; omega
  rcases List.mem_cons.mp z with z | z
  · injection z with z1 z2; omega
  rcases List.mem_append.mp z with z | z
  · have := hA.inside _ z
    have q1 : e ≤ m := this.2.2.1
    omega
  · have := hB.inside _ z
    have q1 : m ≤ c := this.1
    omega
theorem mem_sides {n a b : Int} : (a, b) ∈ lawSides n ↔ (0 ≤ a ∧ a < n - 1 ∧ b = a + 1) ∨ (a = 0 ∧ b = n - 1) := by
  unfold lawSides
  rw [List.mem_append, List.mem_singleton]
  constructor
  · rintro (z | z)
    · obtain ⟨l, hl, e⟩ := List.mem_map.mp z
      have hl := rng_mem.mp hl
      injection e with e1 e2
      subst e1
      exact .inl ⟨hl.1, hl.2, e2.symm⟩
    · injection z with z1 z2
      exact .inr ⟨z1, z2⟩
  · rintro (⟨z1, z2, z3⟩ | ⟨z1, z2⟩)
    · exact .inl (List.mem_map.mpr ⟨a, rng_mem.mpr ⟨z1, z2⟩, by rw [z3]⟩)
    · exact .inr (by rw [z1, z2])
theorem mem_lines {n a b : Int} {L : List (Int × Int)} (h : 2 ≤ n) : (a, b) ∈ linesM (n, Tup.mk (sortP L)) ↔ (a, b) ∈ lawSides n ∨ (a, b) ∈ L := by
  rw [lines_eq (p := (n, Tup.mk (sortP L))) h]
  unfold allLines
  rw [(sortP_perm _).mem_iff, List.mem_append]
  show _ ∨ (a, b) ∈ sortP L ↔ _
  rw [(sortP_perm L).mem_iff]
theorem sub_p {n : Int} {A : List (Int × Int)} (h : CutT 1 n A) (h3 : 3 ≤ n) : Sub (fun a b => lawPair (a % n) (b % n) ∈ linesM (planOf n A)) 1 n A := by
  intro a b ha hab hb hne
  have ea : a % n = a := Int.emod_eq_of_lt (by omega) (by omega)
  show lawPair (a % n) (b % n) ∈ linesM (planOf n A) ↔ _
  rw [ea, planOf_eq]
  by_cases hbn : b = n
  · subst hbn
    rw [Int.emod_self, lp_sym, lp_lt (by omega), mem_lines (by omega), mem_sides]
    constructor
    · rintro (z | z)
      · left; omega
      · rcases cuts_mem h z with q | q
        · have : (1 : Int) ≤ 0 := q.2.1
          omega
        · exact .inr q.2.1
    · rintro (z | z)
      · left; right; omega
      · by_cases q : b - a = 1
        · left; right; omega
        · refine .inr (List.mem_map.mpr ⟨(a, b), List.mem_filter.mpr ⟨z, decide_eq_true (by show 1 < b - a; omega)⟩, ?_⟩)
          exact fold_n ha rfl
  · have eb : b % n = b := Int.emod_eq_of_lt (by omega) (by omega)
    rw [eb, lp_lt hab, mem_lines (by omega), mem_sides]
    constructor
    · rintro (z | z)
      · left; omega
      · rcases cuts_mem h z with q | q
        · exact .inr q.1
        · have : a = 0 := q.1
          omega
    · rintro (z | z)
      · left; left; omega
      · by_cases q : b - a = 1
        · left; left; omega
        · refine .inr (List.mem_map.mpr ⟨(a, b), List.mem_filter.mpr ⟨z, decide_eq_true (by show 1 < b - a; omega)⟩, ?_⟩)
          exact fold_lt ha hab (by omega)
/-! moved by one -/
abbrev sh (c : Int) (x : Int × Int) : Int × Int := (x.1 + c, x.2 + c)
/-! by reckoning -/
end Pf

namespace Pf
open PySem PySem.Spec PyProof.Rows L2
/-! ### lines, and the parts between them -/
/-- a and b are joined -/
def Jn (p : Plan) (a b : Int) : Prop := lawPair a b ∈ linesM p
instance (p : Plan) (a b : Int) : Decidable (Jn p a b) := inferInstanceAs (Decidable (_ ∈ _))
theorem Jn.sym {p : Plan} {a b : Int} (h : Jn p a b) : Jn p b a := by unfold Jn at h ⊢; rw [lp_sym]; exact h
theorem lines_mem {p : Plan} (h : isPlanM p = true) {a b : Int} : (a, b) ∈ linesM p ↔ (a, b) ∈ lawSides p.1 ∨ (a, b) ∈ p.2.l := by
  obtain ⟨h3, _⟩ := plan_facts h
  rw [lines_eq (by omega)]
  unfold allLines
  rw [(sortP_perm _).mem_iff, List.mem_append]
theorem jn_lt {p : Plan} (h : isPlanM p = true) {a b : Int} (hab : a < b) : Jn p a b ↔ (0 ≤ a ∧ b < p.1 ∧ b = a + 1) ∨ (a = 0 ∧ b = p.1 - 1) ∨ (a, b) ∈ p.2.l := by
  obtain ⟨h3, _⟩ := plan_facts h
  unfold Jn
  rw [lp_lt hab, lines_mem h, mem_sides]
  constructor
  · rintro ((z | z) | z)
    · left; omega
    · right; left; exact z
    · right; right; exact z
  · rintro (z | z | z)
    · left; left; omega
    · left; right; exact z
    · right; exact z
theorem Jn.ne {p : Plan} (h : isPlanM p = true) {a b : Int} (j : Jn p a b) : 0 ≤ a ∧ a < p.1 ∧ 0 ≤ b ∧ b < p.1 ∧ a ≠ b := by
  obtain ⟨h3, _⟩ := plan_facts h
  unfold Jn at j
  rw [lines_eq (by omega)] at j
  have := line_lt h j
  rcases lp_cases a b with ⟨e, q⟩ | ⟨e, q⟩
  · rw [e] at this
    have h1 : 0 ≤ a := this.1
    have h2 : a < b := this.2.1
    have h3 : b < p.1 := this.2.2
    omega
  · rw [e] at this
    have h1 : 0 ≤ b := this.1
    have h2 : b < a := this.2.1
    have h3 : a < p.1 := this.2.2
    omega
theorem jn_side {p : Plan} (h : isPlanM p = true) {a b : Int} (h0 : 0 ≤ a) (h1 : b < p.1) (e : b = a + 1) : Jn p a b := (jn_lt h (by omega)).mpr (.inl ⟨h0, h1, e⟩)
theorem jn_last {p : Plan} (h : isPlanM p = true) : Jn p 0 (p.1 - 1) := by
  obtain ⟨h3, _⟩ := plan_facts h
  exact (jn_lt h (by omega)).mpr (.inr (.inl ⟨rfl, rfl⟩))
theorem no_cross {p : Plan} (h : isPlanM p = true) {a b c d : Int} (hab : a < b) (hbc : b < c) (hcd : c < d) (h1 : Jn p a c) (h2 : Jn p b d) : False := by
  obtain ⟨_, _, _, _, v, _⟩ := plan_facts h
  have n1 := h1.ne h
  have n2 := h2.ne h
  rcases (jn_lt h (by omega)).mp h1 with z | z | z
  · omega
  · omega
  rcases (jn_lt h (by omega)).mp h2 with y | y | y
  · omega
  · omega
  exact v.no _ z _ y ⟨hab, hbc, hcd⟩
/-- going round, a, b and c are met in this order -/
def Cy (a b c : Int) : Prop := (a < b ∧ b < c) ∨ (b < c ∧ c < a) ∨ (c < a ∧ a < b)
instance (a b c : Int) : Decidable (Cy a b c) := inferInstanceAs (Decidable (_ ∨ _))
theorem Cy.rot {a b c : Int} (h : Cy a b c) : Cy b c a := by unfold Cy at *; omega
/-- a part, as one goes round it: s, v, e -/
structure Tr (p : Plan) (s v e : Int) : Prop where
  cy : Cy s v e
  se : Jn p s e
  sv : Jn p s v
  ve : Jn p v e
theorem Tr.rot {p : Plan} {s v e : Int} (t : Tr p s v e) : Tr p v e s := ⟨t.cy.rot, t.sv.sym, t.ve, t.se.sym⟩
instance (p : Plan) (s v e : Int) : Decidable (Tr p s v e) := decidable_of_iff (Cy s v e ∧ Jn p s e ∧ Jn p s v ∧ Jn p v e) ⟨fun h => ⟨h.1, h.2.1, h.2.2.1, h.2.2.2⟩, fun h => ⟨h.1, h.2, h.3, h.4⟩⟩
theorem tr_aux {p : Plan} (h : isPlanM p = true) {s v w e : Int} (t : Tr p s v e) (u : Tr p s w e) (h1 : Cy s v w) : False := by
  have a := t.cy; have b := u.cy
  unfold Cy at a b h1
  have x1 := u.sv; have x2 := t.ve
  by_cases c1 : s < v ∧ v < w ∧ w < e
  · exact no_cross h c1.1 c1.2.1 c1.2.2 x1 x2
  by_cases c2 : v < w ∧ w < e ∧ e < s
  · exact no_cross h c2.1 c2.2.1 c2.2.2 x2 x1.sym
  by_cases c3 : w < e ∧ e < s ∧ s < v
  · exact no_cross h c3.1 c3.2.1 c3.2.2 x1.sym x2.sym
  by_cases c4 : e < s ∧ s < v ∧ v < w
  · exact no_cross h c4.1 c4.2.1 c4.2.2 x2.sym x1
  omega
theorem Tr.uniq {p : Plan} (h : isPlanM p = true) {s v w e : Int} (t : Tr p s v e) (u : Tr p s w e) : v = w := by
  apply Classical.byContradiction
  intro ne
  have a := t.cy; have b := u.cy
  by_cases c : Cy s v w
  · exact tr_aux h t u c
  · refine tr_aux h u t ?_
    unfold Cy at *; omega
/-! going round -/
theorem wrap {n x : Int} (h0 : 0 ≤ x) (h2 : x < 2 * n) : x % n = if x < n then x else x - n := by
  by_cases h : x < n
  · rw [if_pos h, Int.emod_eq_of_lt h0 h]
  · rw [if_neg h]
    have e : x = (x - n) + n := by omega
    rw [e, Int.add_emod_right, Int.emod_eq_of_lt (by omega) (by omega)]
    omega
theorem wrapN {n x : Int} (h0 : -n ≤ x) (h2 : x < n) : x % n = if x < 0 then x + n else x := by
  by_cases h : x < 0
  · rw [if_pos h, ← Int.add_emod_right, Int.emod_eq_of_lt (by omega) (by omega)]
  · rw [if_neg h, Int.emod_eq_of_lt (by omega) (by omega)]
def goM (n s e : Int) : List Int := (rng 1 ((e - s) % n)).map fun k => (s + k) % n
theorem mem_go {n s e c : Int} (hs : 0 ≤ s ∧ s < n) (he : 0 ≤ e ∧ e < n) (ne : s ≠ e) : c ∈ goM n s e ↔ 0 ≤ c ∧ c < n ∧ Cy s c e := by
  unfold goM
  rw [List.mem_map, wrapN (by omega) (by omega)]
  constructor
  · rintro ⟨k, hk, rfl⟩
    have hk := rng_mem.mp hk
    have hkn : k < n := by split at hk <;> omega
    rw [wrap (by omega) (by omega)]
    unfold Cy
    split <;> split at hk <;> omega
  · rintro ⟨h0, h1, hc⟩
    unfold Cy at hc
    refine ⟨if c < s then c + n - s else c - s, rng_mem.mpr ?_, ?_⟩
    · split <;> split <;> omega
    · split
      · rw [show s + (c + n - s) = c + n by omega, Int.add_emod_right, Int.emod_eq_of_lt h0 h1]
      · rw [show s + (c - s) = c by omega, Int.emod_eq_of_lt h0 h1]
/-- the third corner between t and u, going round -/
def thM (p : Plan) (t u : Int) : Option Int := (goM p.1 t u).find? fun c => decide (Jn p c t) && decide (Jn p c u)
theorem th_iff {p : Plan} (h : isPlanM p = true) {t u c : Int} (j : Jn p t u) : thM p t u = some c ↔ Tr p t c u := by
  have ne := j.ne h
  constructor
  · intro e
    unfold thM at e
    have h1 := List.mem_of_find?_eq_some e
    have h2 := List.find?_some e
    simp only [Bool.and_eq_true, decide_eq_true_eq] at h2
    have := (mem_go (by omega) (by omega) (by omega)).mp h1
    exact ⟨this.2.2, j, h2.1.sym, h2.2⟩
  · intro t'
    have n1 := t'.sv.ne h
    have hm : c ∈ goM p.1 t u := (mem_go (by omega) (by omega) (by omega)).mpr ⟨by omega, by omega, t'.cy⟩
    cases e : thM p t u with
    | none =>
      unfold thM at e
      have := List.find?_eq_none.mp e c hm
      simp only [Bool.and_eq_true, decide_eq_true_eq, not_and] at this
      exact absurd t'.ve (this t'.sv.sym)
    | some d =>
      unfold thM at e
      have h1 := List.mem_of_find?_eq_some e
      have h2 := List.find?_some e
      simp only [Bool.and_eq_true, decide_eq_true_eq] at h2
      have := (mem_go (by omega) (by omega) (by omega)).mp h1
      rw [Tr.uniq h t' ⟨this.2.2, j, h2.1.sym, h2.2⟩]
/-! the parts -/
abbrev T3 := Tri Int Int Int
def partsM (p : Plan) : List T3 := (linesM p).flatMap fun lm => ((rng (lm.2 + 1) p.1).filter fun c => decide ((lm.1, c) ∈ linesM p) && decide ((lm.2, c) ∈ linesM p)).map fun c => ⟨lm.1, lm.2, c⟩
theorem jn_in {p : Plan} {a b : Int} (h : a < b) : (a, b) ∈ linesM p ↔ Jn p a b := by unfold Jn; rw [lp_lt h]
theorem mem_parts {p : Plan} (h : isPlanM p = true) {a b c : Int} : (⟨a, b, c⟩ : T3) ∈ partsM p ↔ a < b ∧ b < c ∧ Jn p a b ∧ Jn p a c ∧ Jn p b c := by
  obtain ⟨h3, _⟩ := plan_facts h
  unfold partsM
  rw [List.mem_flatMap]
  constructor
  · rintro ⟨⟨x, y⟩, h1, h2⟩
    obtain ⟨z, hz, e⟩ := List.mem_map.mp h2
    obtain ⟨hz1, hz2⟩ := List.mem_filter.mp hz
    have hz1 := rng_mem.mp hz1
    simp only [Bool.and_eq_true, decide_eq_true_eq] at hz2
    injection e with e1 e2 e3
    have e1 : x = a := e1
    have e2 : y = b := e2
    subst e1 e2 e3
    have l1 := line_lt h (q := (x, y)) (by rw [← lines_eq (by omega)]; exact h1)
    have l2 : x < y := l1.2.1
    have l3 : y + 1 ≤ z := hz1.1
    exact ⟨l2, by omega, (jn_in l2).mp h1, (jn_in (by omega)).mp hz2.1, (jn_in (by omega)).mp hz2.2⟩
  · rintro ⟨hab, hbc, j1, j2, j3⟩
    have n3 := j3.ne h
    refine ⟨(a, b), (jn_in hab).mpr j1, List.mem_map.mpr ⟨c, List.mem_filter.mpr ⟨rng_mem.mpr ⟨by show b + 1 ≤ c; omega, by omega⟩, ?_⟩, rfl⟩⟩
    simp only [Bool.and_eq_true, decide_eq_true_eq]
    exact ⟨(jn_in (by omega)).mpr j2, (jn_in hbc).mpr j3⟩
def puts3 (t : T3) : List ((Int × Int) × Int) := [((t.a, t.c), t.b), ((t.b, t.a), t.c), ((t.c, t.b), t.a)]
def putsM (p : Plan) : List ((Int × Int) × Int) := (partsM p).flatMap puts3
theorem mem_puts {p : Plan} (h : isPlanM p = true) {s e v : Int} : ((s, e), v) ∈ putsM p ↔ Tr p s v e := by
  unfold putsM
  rw [List.mem_flatMap]
  constructor
  · rintro ⟨⟨a, b, c⟩, h1, h2⟩
    obtain ⟨l1, l2, j1, j2, j3⟩ := (mem_parts h).mp h1
    have t : Tr p a b c := ⟨.inl ⟨l1, l2⟩, j2, j1, j3⟩
    simp only [puts3, List.mem_cons, List.not_mem_nil, or_false, Prod.mk.injEq] at h2
    rcases h2 with ⟨⟨rfl, rfl⟩, rfl⟩ | ⟨⟨rfl, rfl⟩, rfl⟩ | ⟨⟨rfl, rfl⟩, rfl⟩
    · exact t
    · exact t.rot
    · exact t.rot.rot
  · intro t
    have c := t.cy
    unfold Cy at c
    rcases c with c | c | c
    · exact ⟨⟨s, v, e⟩, (mem_parts h).mpr ⟨c.1, c.2, t.sv, t.se, t.ve⟩, by simp [puts3]⟩
    · exact ⟨⟨v, e, s⟩, (mem_parts h).mpr ⟨c.1, c.2, t.ve, t.sv.sym, t.se.sym⟩, by simp [puts3]⟩
    · exact ⟨⟨e, s, v⟩, (mem_parts h).mpr ⟨c.1, c.2, t.se.sym, t.ve.sym, t.sv⟩, by simp [puts3]⟩
def putAll {κ α : Type} [DecidableEq κ] (ps : List (κ × α)) (l : List (κ × α)) : List (κ × α) := ps.foldl (fun l kv => put l kv.1 kv.2) l
theorem putAll_snoc {κ α : Type} [DecidableEq κ] (ps : List (κ × α)) (x : κ × α) (l : List (κ × α)) : putAll (ps ++ [x]) l = put (putAll ps l) x.1 x.2 := by unfold putAll; rw [List.foldl_append]; rfl
theorem look_all {κ α : Type} [DecidableEq κ] (n : Nat) : ∀ (ps : List (κ × α)), ps.length = n → (∀ k v v', (k, v) ∈ ps → (k, v') ∈ ps → v = v') → ∀ k v, look (putAll ps []) k = some v ↔ (k, v) ∈ ps := by
  induction n with
  | zero =>
    intro ps hl _ k v
    rw [List.length_eq_zero_iff.mp hl]
    constructor
    · intro h; cases h
    · intro h; cases h
  | succ n ih =>
    intro ps hl hc k v
    have hne : ps ≠ [] := fun z => by rw [z] at hl; cases hl
    obtain ⟨qs, x, rfl⟩ : ∃ qs x, ps = qs ++ [x] := ⟨ps.dropLast, ps.getLast hne, (List.dropLast_concat_getLast hne).symm⟩
    rw [List.length_append] at hl
    have hl : qs.length = n := Nat.succ.inj hl
    have hq := ih qs hl (fun k v v' h1 h2 => hc k v v' (List.mem_append_left _ h1) (List.mem_append_left _ h2))
    rw [putAll_snoc, look_put, List.mem_append, List.mem_singleton]
    by_cases e : k = x.1
    · subst e
      rw [if_pos rfl]
      constructor
      · intro h; injection h with h; right; rw [← h]
      · rintro (h | h)
        · rw [hc x.1 v x.2 (List.mem_append_left _ h) (List.mem_append_right _ (List.mem_singleton.mpr rfl))]
        · rw [← h]
    · rw [if_neg e, hq k v]
      constructor
      · exact .inl
      · rintro (h | h)
        · exact h
        · exact absurd (congrArg Prod.fst h) e
def thirdsM (p : Plan) : Dct (Int × Int) Int := ⟨putAll (putsM p) []⟩
theorem look_thirds {p : Plan} (h : isPlanM p = true) {s e v : Int} : look (thirdsM p).l (s, e) = some v ↔ Tr p s v e := by
  unfold thirdsM
  rw [look_all (putsM p).length (putsM p) rfl (fun k v v' h1 h2 => Tr.uniq h ((mem_puts h (s := k.1) (e := k.2)).mp h1) ((mem_puts h).mp h2)), mem_puts h]
/-! ### each plan is a way to cut the arc from 0 on -/
theorem top_of {P : Int → Prop} {s e : Int} (h : ∃ m, s < m ∧ m < e ∧ P m) : ∃ m, s < m ∧ m < e ∧ P m ∧ ∀ x, m < x → x < e → ¬ P x := by
  obtain ⟨m, h1, h2, h3⟩ := h
  have key : ∀ (d : Nat) (m : Int), s < m → m < e → P m → e - m ≤ d → ∃ m, s < m ∧ m < e ∧ P m ∧ ∀ x, m < x → x < e → ¬ P x := by
    intro d
    induction d with
    | zero => intro m a b c z; omega
    | succ d ih =>
      intro m a b c z
      by_cases q : ∃ x, m < x ∧ x < e ∧ P x
      · obtain ⟨x, q1, q2, q3⟩ := q
        exact ih x (by omega) q2 q3 (by omega)
      · exact ⟨m, a, b, c, fun x hx he hp => q ⟨x, hx, he, hp⟩⟩
  exact key (e - m).toNat m h1 h2 h3 (by omega)
theorem cnt_split {α : Type} {P Q R : α → Bool} : ∀ {L : List α}, (∀ x ∈ L, P x = true → Q x = true ∨ R x = true) → L.countP P ≤ L.countP Q + L.countP R
  | [], _ => Nat.le_refl _
  | x :: L, h => by
    have ih := cnt_split (L := L) fun y hy => h y (List.mem_cons_of_mem _ hy)
    have hx := h x List.mem_cons_self
    rw [List.countP_cons, List.countP_cons, List.countP_cons]
    by_cases p : P x = true
    · rw [if_pos p]
      rcases hx p with q | q
      · rw [if_pos q]; split <;> omega
      · rw [if_pos q]; split <;> omega
    · rw [if_neg p]; split <;> split <;> omega
def inA (s e : Int) (c : Int × Int) : Bool := decide (s ≤ c.1 ∧ c.2 ≤ e)
def inB (s e : Int) (c : Int × Int) : Bool := decide (s ≤ c.1 ∧ c.2 ≤ e ∧ ¬ (c.1 = s ∧ c.2 = e))
theorem cnt_close {L : List (Int × Int)} (nd : L.Nodup) (s e : Int) : L.countP (inA s e) ≤ L.countP (inB s e) + if (s, e) ∈ L then 1 else 0 := by
  rw [← nd.count (a := (s, e))]
  refine cnt_split fun x _ hp => ?_
  have hp : s ≤ x.1 ∧ x.2 ≤ e := of_decide_eq_true hp
  by_cases q : x = (s, e)
  · right; rw [q]; exact beq_self_eq_true _
  · left
    refine decide_eq_true ⟨hp.1, hp.2, fun z => q ?_⟩
    obtain ⟨a, b⟩ := x
    rw [show a = s from z.1, show b = e from z.2]
abbrev JL (L : List (Int × Int)) (a b : Int) : Prop := b - a = 1 ∨ (a, b) ∈ L
theorem tree_aux {L : List (Int × Int)} (nd : L.Nodup) (hw : ∀ c ∈ L, 2 ≤ c.2 - c.1) (no : ∀ x ∈ L, ∀ y ∈ L, ¬ (x.1 < y.1 ∧ y.1 < x.2 ∧ x.2 < y.2)) : ∀ (d : Nat) (s e : Int), e - s = d → 1 ≤ d →
    ((L.countP (inB s e) : Nat) : Int) ≤ (if e - s = 1 then 0 else e - s - 2) ∧ ((e - s = 1 ∨ ((L.countP (inB s e) : Nat) : Int) = e - s - 2) → ∃ A, CutT s e A ∧ Sub (JL L) s e A) := by
  intro d
  induction d using Nat.strongRecOn with
  | ind d ih =>
    intro s e hd h1
    by_cases d1 : d = 1
    · have z : L.countP (inB s e) = 0 := by
        refine List.countP_eq_zero.mpr fun c hc q => ?_
        have q : s ≤ c.1 ∧ c.2 ≤ e ∧ ¬ (c.1 = s ∧ c.2 = e) := of_decide_eq_true q
        have := hw c hc
        omega
      rw [z]
      refine ⟨by rw [if_pos (by omega)]; exact Int.le_refl _, fun _ => ⟨[], .leaf (by omega), fun a b ha hab hb hne => ?_⟩⟩
      omega
    · obtain ⟨m, hm1, hm2, hm3, hmax⟩ := top_of (P := fun m => m = s + 1 ∨ (s, m) ∈ L) (s := s) (e := e) ⟨s + 1, by omega, by omega, .inl rfl⟩
      obtain ⟨i1, t1⟩ := ih (m - s).toNat (by omega) s m (by omega) (by omega)
      obtain ⟨i2, t2⟩ := ih (e - m).toNat (by omega) m e (by omega) (by omega)
      have c1 := cnt_close nd s m
      have c2 := cnt_close nd m e
      have over : ∀ c ∈ L, s ≤ c.1 → c.2 ≤ e → ¬ (c.1 = s ∧ c.2 = e) → c.2 ≤ m ∨ m ≤ c.1 := by
        intro c hc z1 z2 z3
        have hwc := hw c hc
        by_cases q : c.2 ≤ m
        · exact .inl q
        by_cases q2 : m ≤ c.1
        · exact .inr q2
        exfalso
        by_cases q3 : c.1 = s
        · exact hmax c.2 (by omega) (by omega) (.inr (by rw [← q3]; exact hc))
        · rcases hm3 with z | z
          · omega
          · exact no _ z c hc ⟨by show s < c.1; omega, by show c.1 < m; omega, by show m < c.2; omega⟩
      have sp : L.countP (inB s e) ≤ L.countP (inA s m) + L.countP (inA m e) := by
        refine cnt_split fun c hc q => ?_
        have q : s ≤ c.1 ∧ c.2 ≤ e ∧ ¬ (c.1 = s ∧ c.2 = e) := of_decide_eq_true q
        rcases over c hc q.1 q.2.1 q.2.2 with z | z
        · exact .inl (decide_eq_true ⟨q.1, z⟩)
        · exact .inr (decide_eq_true ⟨z, q.2.1⟩)
      have b1 : ((L.countP (inA s m) : Nat) : Int) ≤ m - s - 1 := by
        by_cases z : m - s = 1
        · rw [if_pos z] at i1
          rw [if_neg (fun q => by have : 2 ≤ m - s := hw _ q; omega)] at c1
          omega
        · rw [if_neg z] at i1
          split at c1 <;> omega
      have b2 : ((L.countP (inA m e) : Nat) : Int) ≤ e - m - 1 := by
        by_cases z : e - m = 1
        · rw [if_pos z] at i2
          rw [if_neg (fun q => by have : 2 ≤ e - m := hw _ q; omega)] at c2
          omega
        · rw [if_neg z] at i2
          split at c2 <;> omega
      refine ⟨by rw [if_neg (by omega)]; omega, fun hf => ?_⟩
      have hf : ((L.countP (inB s e) : Nat) : Int) = e - s - 2 := by omega
      have f1 : m - s = 1 ∨ ((L.countP (inB s m) : Nat) : Int) = m - s - 2 := by
        by_cases z : m - s = 1
        · exact .inl z
        · rw [if_neg z] at i1
          right; split at c1 <;> omega
      have f2 : e - m = 1 ∨ ((L.countP (inB m e) : Nat) : Int) = e - m - 2 := by
        by_cases z : e - m = 1
        · exact .inl z
        · rw [if_neg z] at i2
          right; split at c2 <;> omega
      have l2 : JL L m e := by
        by_cases z : e - m = 1
        · exact .inl z
        · rw [if_neg z] at i2
          by_cases q : (m, e) ∈ L
          · exact .inr q
          · rw [if_neg q] at c2; omega
      have l1 : JL L s m := by
        rcases hm3 with z | z
        · exact .inl (by omega)
        · exact .inr z
      obtain ⟨A, ca, sa⟩ := t1 f1
      obtain ⟨B, cb, sb⟩ := t2 f2
      refine ⟨_, .node hm1 hm2 ca cb, fun a b ha hab hb hne => ?_⟩
      have ja : JL L a b ↔ b - a = 1 ∨ (a, b) ∈ (s, m) :: (m, e) :: (A ++ B) := by
        by_cases w1 : b ≤ m
        · by_cases w2 : a = s ∧ b = m
          · obtain ⟨rfl, rfl⟩ := w2
            exact ⟨fun _ => .inr List.mem_cons_self, fun _ => l1⟩
          · rw [sa a b ha hab w1 w2]
            constructor
            · rintro (z | z)
              · exact .inl z
              · exact .inr (List.mem_cons_of_mem _ (List.mem_cons_of_mem _ (List.mem_append_left _ z)))
            · rintro (z | z)
              · exact .inl z
              · rcases List.mem_cons.mp z with z | z
                · injection z with z1 z2; omega
                rcases List.mem_cons.mp z with z | z
                · injection z with z1 z2; omega
                rcases List.mem_append.mp z with z | z
                · exact .inr z
                · have := cb.inside _ z
                  have q1 : m ≤ a := this.1
                  omega
        · by_cases w3 : m ≤ a
          · by_cases w2 : a = m ∧ b = e
            · obtain ⟨rfl, rfl⟩ := w2
              exact ⟨fun _ => .inr (List.mem_cons_of_mem _ List.mem_cons_self), fun _ => l2⟩
            · rw [sb a b w3 hab hb w2]
              constructor
              · rintro (z | z)
                · exact .inl z
                · exact .inr (List.mem_cons_of_mem _ (List.mem_cons_of_mem _ (List.mem_append_right _ z)))
              · rintro (z | z)
                · exact .inl z
                · rcases List.mem_cons.mp z with z | z
                  · injection z with z1 z2; omega
                  rcases List.mem_cons.mp z with z | z
                  · injection z with z1 z2; omega
                  rcases List.mem_append.mp z with z | z
                  · have := ca.inside _ z
                    have q1 : b ≤ m := this.2.2.1
                    omega
                  · exact .inr z
          · constructor
            · rintro (z | z)
              · exact .inl z
              · rcases over (a, b) z ha hb hne with y | y
                · exact absurd y w1
                · exact absurd y w3
            · rintro (z | z)
              · exact .inl z
              · rcases List.mem_cons.mp z with z | z
                · injection z with z1 z2; omega
                rcases List.mem_cons.mp z with z | z
                · injection z with z1 z2; omega
                rcases List.mem_append.mp z with z | z
                · have := ca.inside _ z
                  have q1 : b ≤ m := this.2.2.1
                  omega
                · have := cb.inside _ z
                  have q1 : m ≤ a := this.1
                  omega
      exact ja
theorem tree_of {p : Plan} (h : isPlanM p = true) : ∃ A, CutT 0 (p.1 - 1) A ∧ Sub (fun a b => Jn p a b) 0 (p.1 - 1) A := by
  obtain ⟨h3, h40, _, _, v, _⟩ := plan_facts h
  have hc : p.2.l.countP (inB 0 (p.1 - 1)) = p.2.l.length := List.countP_eq_length.mpr fun c hc => by
    have := v.cut c hc
    exact decide_eq_true ⟨by omega, by omega, by omega⟩
  have hl := v.len
  obtain ⟨A, ca, sa⟩ := (tree_aux v.nd (fun c hc => (v.cut c hc).2.1) v.no (p.1 - 1).toNat 0 (p.1 - 1) (by omega) (by omega)).2 (by rw [hc]; omega)
  refine ⟨A, ca, fun a b ha hab hb hne => ?_⟩
  show Jn p a b ↔ _
  rw [← sa a b ha hab hb hne, jn_lt h hab]
  constructor
  · rintro (z | z | z)
    · exact .inl (by omega)
    · exact absurd z hne
    · exact .inr z
  · rintro (z | z)
    · exact .inl ⟨ha, by omega, by omega⟩
    · exact .inr (.inr z)
/-- the third corner within a line, and beyond it -/
theorem CutT.down {J : Int → Int → Prop} {s e : Int} {A : List (Int × Int)} (h : CutT s e A) : Sub J s e A → ∀ x y, 2 ≤ y - x → ((x, y) ∈ A ∨ (x = s ∧ y = e)) → ∃ m, x < m ∧ m < y ∧ J x m ∧ J m y := by
  induction h with
  | leaf h => intro _ x y h2 hm; rcases hm with z | z; cases z; omega
  | @node s m e A B h1 h2 hA hB ih1 ih2 =>
    intro sb x y hw hm
    have mid := sb.mid h1 h2
    have l := ih1 (sb.left h1 h2 hB)
    have r := ih2 (sb.right h1 h2 hA)
    rcases hm with z | ⟨rfl, rfl⟩
    · rcases List.mem_cons.mp z with z | z
      · injection z with z1 z2; exact l x y hw (.inr ⟨z1, z2⟩)
      rcases List.mem_cons.mp z with z | z
      · injection z with z1 z2; exact r x y hw (.inr ⟨z1, z2⟩)
      rcases List.mem_append.mp z with z | z
      · exact l x y hw (.inl z)
      · exact r x y hw (.inl z)
    · exact ⟨m, h1, h2, mid⟩
theorem CutT.beyond {J : Int → Int → Prop} {s e : Int} {A : List (Int × Int)} (h : CutT s e A) : Sub J s e A → J s e → ∀ x y, (x, y) ∈ A → ∃ m, s ≤ m ∧ m ≤ e ∧ ((m < x ∧ J m x ∧ J m y) ∨ (y < m ∧ J x m ∧ J y m)) := by
  induction h with
  | leaf h => intro _ _ x y hm; cases hm
  | @node s m e A B h1 h2 hA hB ih1 ih2 =>
    intro sb j x y z
    have mid := sb.mid h1 h2
    rcases List.mem_cons.mp z with z | z
    · injection z with z1 z2; subst z1 z2
      exact ⟨e, by omega, Int.le_refl _, .inr ⟨h2, j, mid.2⟩⟩
    rcases List.mem_cons.mp z with z | z
    · injection z with z1 z2; subst z1 z2
      exact ⟨s, Int.le_refl _, by omega, .inl ⟨h1, mid.1, j⟩⟩
    rcases List.mem_append.mp z with z | z
    · obtain ⟨k, q1, q2, q3⟩ := ih1 (sb.left h1 h2 hB) mid.1 x y z
      exact ⟨k, q1, by omega, q3⟩
    · obtain ⟨k, q1, q2, q3⟩ := ih2 (sb.right h1 h2 hA) mid.2 x y z
      exact ⟨k, by omega, q2, q3⟩
theorem CutT.sides {s e : Int} {A : List (Int × Int)} (h : CutT s e A) : ∀ x y, s ≤ x → y ≤ e → y - x = 1 → 2 ≤ e - s → (x, y) ∈ A := by
  induction h with
  | leaf h => intro x y _ _ _ h2; omega
  | @node s m e A B h1 h2 hA hB ih1 ih2 =>
    intro x y hx hy hxy _
    by_cases q : y ≤ m
    · by_cases z : x = s ∧ y = m
      · rw [z.1, z.2]; exact List.mem_cons_self
      · exact List.mem_cons_of_mem _ (List.mem_cons_of_mem _ (List.mem_append_left _ (ih1 x y hx q hxy (by omega))))
    · by_cases z : x = m ∧ y = e
      · rw [z.1, z.2]; exact List.mem_cons_of_mem _ List.mem_cons_self
      · exact List.mem_cons_of_mem _ (List.mem_cons_of_mem _ (List.mem_append_right _ (ih2 x y (by omega) hy hxy (by omega))))
/-- on each side of a line that is no side of the ring lies a part -/
theorem tr_ex {p : Plan} (h : isPlanM p = true) {t u : Int} (j : Jn p t u) (hs : ¬ (u = t + 1 ∨ (t = p.1 - 1 ∧ u = 0))) : ∃ c, Tr p t c u := by
  obtain ⟨A, ca, sa⟩ := tree_of h
  obtain ⟨h3, _⟩ := plan_facts h
  have ne := j.ne h
  have jl : Jn p 0 (p.1 - 1) := jn_last h
  rcases Int.lt_or_gt_of_ne ne.2.2.2.2 with q | q
  · have hm : (t, u) ∈ A ∨ (t = 0 ∧ u = p.1 - 1) := by
      by_cases z : t = 0 ∧ u = p.1 - 1
      · exact .inr z
      · rcases (sa t u (by omega) q (by omega) z).mp j with y | y
        · omega
        · exact .inl y
    obtain ⟨m, z1, z2, z3, z4⟩ := ca.down sa t u (by omega) hm
    exact ⟨m, .inl ⟨z1, z2⟩, j, z3, z4⟩
  · have w : ¬ (u = 0 ∧ t = p.1 - 1) := by omega
    rcases (sa u t (by omega) q (by omega) w).mp j.sym with y | y
    · have hs' : Jn p u t := j.sym
      by_cases hA : (u, t) ∈ A
      · obtain ⟨m, _, _, z | z⟩ := ca.beyond sa jl u t hA
        · exact ⟨m, .inr (.inl ⟨z.1, q⟩), j, z.2.2.sym, z.2.1⟩
        · exact ⟨m, .inr (.inr ⟨q, z.1⟩), j, z.2.2, z.2.1.sym⟩
      · obtain ⟨m, _, _, z | z⟩ := ca.beyond sa jl u t (ca.sides u t (by omega) (by omega) y (by omega))
        · exact ⟨m, .inr (.inl ⟨z.1, q⟩), j, z.2.2.sym, z.2.1⟩
        · exact ⟨m, .inr (.inr ⟨q, z.1⟩), j, z.2.2, z.2.1.sym⟩
    · obtain ⟨m, _, _, z | z⟩ := ca.beyond sa jl u t y
      · exact ⟨m, .inr (.inl ⟨z.1, q⟩), j, z.2.2.sym, z.2.1⟩
      · exact ⟨m, .inr (.inr ⟨q, z.1⟩), j, z.2.2, z.2.1.sym⟩
end Pf

namespace Pf
open PySem PySem.Spec PyProof.Rows L2
open PySem.W (alike alikeAll dataLt keyToks keyToksAll AllAlike Sortable dataLe AlikeAll minD EachIs)
/-! ### min and sorted of data of any depth -/
/-! ### data in order -/
class DatA (α : Type) [Rep α] [DecidableEq α] [DatE α] : Prop where
  al : ∀ x y : α, alike (dat x) (dat y) = true
instance : DatA Int := ⟨fun _ _ => by simp [dat, Dat.dat, alike]⟩
section
variable {α β γ : Type} [Rep α] [DecidableEq α] [DatE α] [DatA α] [Rep β] [DecidableEq β] [DatE β] [DatA β] [Rep γ] [DecidableEq γ] [DatE γ] [DatA γ]
theorem al_map : ∀ xs ys : List α, alikeAll (xs.map dat) (ys.map dat) = true
  | [], _ => by simp [alikeAll]
  | _ :: _, [] => by simp [alikeAll]
  | x :: xs, y :: ys => by
    rw [List.map_cons, List.map_cons, alikeAll, DatA.al x y, al_map xs ys]; rfl
instance : DatA (List α) := ⟨fun xs ys => al_map xs ys⟩
instance : DatA (Tup α) := ⟨fun xs ys => al_map xs.l ys.l⟩
instance : DatA (α × β) := ⟨fun x y => by
  show alikeAll [dat x.1, dat x.2] [dat y.1, dat y.2] = true
  rw [alikeAll, alikeAll, alikeAll, DatA.al, DatA.al]; rfl⟩
variable {σ : L2.St} {G H : Hp} {ta : TE} {K : Fg}
end
end Pf

namespace Pf
open PySem PySem.Spec PyProof.Rows L2
/-! ### sets of tuples of ints, of up to three hundred -/
/-- from any hash each slot begins a run, early enough -/
structure Met (m : Nat) : Prop where
  odd : m % 2 = 1
  meets : ∀ (h : Int) (j : Nat), j ≤ m → ∃ n, n ≤ m + 12 ∧ runI m (SetTable.bits h) n = j
theorem Met.hit {m : Nat} (M : Met m) (h : Int) {j : Nat} (hj : j ≤ m) : ∃ k, k < 10 * SetTable.turns m ∧ way m h k = j := by
  obtain ⟨n, hn, e⟩ := M.meets h j hj
  obtain ⟨k, hk, e2⟩ := run_nth m (SetTable.bits h) n
  exact ⟨k, by unfold SetTable.turns; omega, (congrArg SetTable.Probe.j e2).trans e⟩
theorem wayLe (m : Nat) (h : Int) (k : Nat) : way m h k ≤ m := by
  have b1 : SetTable.bits h % (m + 1) ≤ m := Nat.le_of_lt_succ (Nat.mod_lt _ (by omega))
  have b2 := runEnd_bd b1
  exact Nat.le_trans (Nat.le_add_right _ _) (nth_in (m := m) k (runAt m (SetTable.bits h % (m + 1)) (SetTable.bits h)) (show SetTable.bits h % (m + 1) + (SetTable.runEnd m (SetTable.bits h % (m + 1)) - SetTable.bits h % (m + 1)) ≤ m by omega))
/-- a table in which each one is met again from its hash -/
structure Tb (t : SetTable) (hs : List Int) : Prop where
  up : Ris t.place.toList
  clean : t.dummies = #[]
  size : t.place.size = hs.length
  met : Met t.mask
  within : ∀ x ∈ t.place.toList, x ≤ t.mask
  back : ∀ (i : Nat) (h : Int) (j : Nat), hs[i]? = some h → t.place.toList[i]? = some j → ∃ k, way t.mask h k = j ∧ ∀ c, c < k → way t.mask h c ∈ t.place.toList
theorem Tb.gap {t : SetTable} {hs : List Int} (T : Tb t hs) (hl : hs.length ≤ t.mask) (h : Int) : ∃ n, n < 10 * SetTable.turns t.mask ∧ way t.mask h n ∉ t.place.toList ∧ ∀ c, c < n → way t.mask h c ∈ t.place.toList := by
  obtain ⟨j, hj, hn⟩ := st_missing t.place.toList (t.mask + 1) (by rw [Array.length_toList, T.size]; omega)
  obtain ⟨k, hk, e⟩ := T.met.hit h (Nat.le_of_lt_succ hj)
  obtain ⟨n, a, b, c⟩ := st_least (p := fun k => way t.mask h k ∉ t.place.toList) k (show way t.mask h k ∉ _ by rw [e]; exact hn)
  exact ⟨n, by omega, b, fun z hz => Classical.not_not.mp (c z hz)⟩
theorem Tb.ahead {t : SetTable} {hs : List Int} (T : Tb t hs) {h : Int} {n i j : Nat} (hn : way t.mask h n ∉ t.place.toList) (hi : hs[i]? = some h) (hj : t.place.toList[i]? = some j) : ∃ k, k < n ∧ way t.mask h k = j := by
  obtain ⟨k, e, hb⟩ := T.back i h j hi hj
  refine ⟨k, Nat.lt_of_not_le fun z => ?_, e⟩
  rcases Nat.lt_or_eq_of_le z with y | y
  · exact hn (hb n y)
  · exact hn (y ▸ e ▸ List.mem_of_getElem? hj)
/-- one more in the first gap of its way -/
theorem Tb.put {t : SetTable} {hs : List Int} (T : Tb t hs) {h : Int} {n : Nat} (hn : way t.mask h n ∉ t.place.toList) (hb : ∀ c, c < n → way t.mask h c ∈ t.place.toList) {p : Nat} (hp : p = SetTable.below t.place (way t.mask h n)) :
    p ≤ hs.length ∧ Tb (t.put (way t.mask h n)).1 (hs.take p ++ h :: hs.drop p) ∧ (t.put (way t.mask h n)).1.fill = hs.length + 1 := by
  subst hp
  have lw := wayLe t.mask h n
  generalize ej : way t.mask h n = j at hn lw
  have c1 := (below_cut T.up j).1
  have pl : SetTable.below t.place j ≤ t.place.toList.length := by rw [Array.length_toList]; exact c1
  have pz : SetTable.below t.place j ≤ hs.length := T.size ▸ c1
  have nw := put_place t j
  have zs : (t.put j).1.place.size = hs.length + 1 := by rw [← Array.length_toList, nw, len_ins _ pl, Array.length_toList, T.size]
  have old : ∀ x, x ∈ t.place.toList → x ∈ (t.put j).1.place.toList := fun x hx => by rw [nw]; exact mem_ins.2 (.inr hx)
  refine ⟨pz, ⟨ris_insert T.up fun e => hn (List.mem_of_getElem? (by rw [Array.getElem?_toList]; exact e)), put_dm T.clean j, by rw [zs, len_ins _ pz], T.met, fun x hx => ?_, fun i g y e1 e2 => ?_⟩, ?_⟩
  · rw [nw] at hx
    rcases mem_ins.1 hx with z | z
    · rw [z]; exact lw
    · exact T.within x z
  · rw [tins_get hs pz] at e1
    rw [nw, tins_get _ pl] at e2
    by_cases c : i < SetTable.below t.place j
    · rw [if_pos c] at e1 e2
      obtain ⟨k, e, z⟩ := T.back i g y e1 e2
      exact ⟨k, e, fun c' hc' => old _ (z c' hc')⟩
    · rw [if_neg c] at e1 e2
      by_cases d : i = SetTable.below t.place j
      · rw [if_pos d] at e1 e2
        cases e1; cases e2
        exact ⟨n, ej, fun c' hc' => old _ (hb c' hc')⟩
      · rw [if_neg d] at e1 e2
        obtain ⟨k, e, z⟩ := T.back _ g y e1 e2
        exact ⟨k, e, fun c' hc' => old _ (z c' hc')⟩
  · show (t.put j).1.place.size + (t.put j).1.dummies.size = _
    rw [zs, put_dm T.clean j]; rfl
/-! laid anew -/
theorem Met.free {m : Nat} (M : Met m) (owner : Array (Option Nat)) (h : Int) {j : Nat} (hj : j ≤ m) (hf : oAt owner j = none) :
    ∃ n, SetTable.layClean.free m owner (SetTable.turns m) (SetTable.bits h % (m + 1)) (SetTable.bits h) = some (way m h n) ∧ oAt owner (way m h n) = none ∧ ∀ c, c < n → oAt owner (way m h c) ≠ none := by
  obtain ⟨r, hr, e⟩ := M.meets h j hj
  have ew : way m h (off m (SetTable.bits h % (m + 1)) (SetTable.bits h) r) = j := by
    have z := congrArg SetTable.Probe.j (nth_off m r (SetTable.bits h % (m + 1)) (SetTable.bits h))
    rw [itL_run] at z
    exact z.trans e
  obtain ⟨n, a1, a2, a3⟩ := st_least (p := fun k => oAt owner (way m h k) = none) _ (show oAt owner (way m h (off m (SetTable.bits h % (m + 1)) (SetTable.bits h) r)) = none by rw [ew]; exact hf)
  refine ⟨n, free_spec m owner (SetTable.turns m) r _ _ n (by unfold SetTable.turns; omega) a1 (fun k hk => ?_) (Option.isNone_iff_eq_none.mpr a2), a2, a3⟩
  exact Bool.eq_false_iff.mpr fun z => a3 k hk (Option.isNone_iff_eq_none.mp z)
end Pf

namespace Pf
open PySem PySem.Spec PyProof.Rows L2
abbrev Rows := List (Addr × List Int)
/-- the set at a: its tuples with where they stand, in the order of its slots -/
structure Pst (P : Program) (w : World) (h : Heap) (a : Addr) (L : Rows) (es : Array (Int × Value)) (ep : Nat) (t : SetTable) : Prop where
  (ob : ∃ o, h.get? a = some o ∧ o.ExactSet ∧ o.data = .set es ep t) (rows : es.toList = rowsOf P w L) (tab : Tb t (L.map fun p => thash P w p.2)) (nd : (L.map (·.2)).Nodup) (tup : ∀ p ∈ L, IsT P w h p.2 p.1)
  (plain : t.plain = true) (led : w.params.followText "set-order" = true ∨ t.led = true) (room : L.length * 5 < t.mask * 3) (msk : MaskOk t.mask ∨ t.mask = 511) (few : L.length ≤ 300)
section
variable {P : Program} {w : World} {A : Around} {E : Value → Shared → Prop} {s : Shared} {a : Addr} {L : Rows} {es : Array (Int × Value)} {ep : Nat} {t : SetTable}
theorem Pst.at {h : Heap} (R : Pst P w h a L es ep t) {i : Nat} {p : Addr × List Int} (e : L[i]? = some p) : es[i]? = some (thash P w p.2, Value.ref p.1) := by
  rw [← Array.getElem?_toList, R.rows]
  simp [rowsOf, e]
/-- the n-th step of the way of a hash -/
abbrev pr (m : Nat) (h : Int) (n : Nat) : SetTable.Probe := nth m (runAt m (SetTable.bits h % (m + 1)) (SetTable.bits h)) n
theorem Pst.keep {h h' : Heap} (R : Pst P w h a L es ep t) (ha : ∀ o, h.get? a = some o → h'.get? a = some o) (ht : ∀ p ∈ L, IsT P w h' p.2 p.1) : Pst P w h' a L es ep t := by
  obtain ⟨o, ho, r⟩ := R.ob
  exact { R with ob := ⟨o, ha o ho, r⟩, tup := ht }
end
end Pf

namespace Pf
open PySem PySem.Spec PyProof.Rows L2
section
variable {P : Program} {w : World} {A : Around} {E : Value → Shared → Prop} {s : Shared} {a : Addr} {L : Rows} {es : Array (Int × Value)} {ep : Nat} {t : SetTable}
end
/-! ### over the layer -/
/-- the set at a, without its tuples -/
abbrev PstO (P : Program) (w : World) (a : Addr) (L : Rows) : HO := .ext fun h => ∃ (es : Array (Int × Value)) (ep : Nat) (t : SetTable), (∃ o, h.get? a = some o ∧ o.ExactSet ∧ o.data = .set es ep t) ∧ es.toList = rowsOf P w L ∧ Tb t (L.map fun p => thash P w p.2) ∧ (L.map (·.2)).Nodup ∧ t.plain = true ∧
    (w.params.followText "set-order" = true ∨ t.led = true) ∧ L.length * 5 < t.mask * 3 ∧ (MaskOk t.mask ∨ t.mask = 511) ∧ L.length ≤ 300
theorem Pst.ok {P : Program} {w : World} {H : Hp} {h : Heap} {a : Addr} {L : Rows} {es : Array (Int × Value)} {ep : Nat} {t : SetTable} (R : Pst P w h a L es ep t) : ObjOk P w H h a (PstO P w a L) :=
  ⟨⟨es, ep, t, R.ob, R.rows, R.tab, R.nd, R.plain, R.led, R.room, R.msk, R.few⟩, (by obtain ⟨o, ho, _⟩ := R.ob; exact ⟨o, ho⟩), fun h1 h2 ⟨es', ep', t', ⟨o', ho', r'⟩, q'⟩ k => ⟨es', ep', t', ⟨o', k o' ho', r'⟩, q'⟩⟩
end Pf

namespace Pf
open PySem PySem.Spec PyProof.Rows L2
def PSetAt (P : Program) (w : World) (G : Hp) (v : V) (l : List (Int × Int)) : Prop := ∃ (a : Addr) (L : Rows), v = .ref a ∧ G a = some (PstO P w a L) ∧ (∀ p ∈ L, G p.1 = some (.tup (p.2.map V.int))) ∧ (∀ q : Int × Int, [q.1, q.2] ∈ L.map (fun r : Addr × List Int => r.2) ↔ q ∈ l) ∧ ∀ p ∈ L, ∃ q : Int × Int, p.2 = [q.1, q.2]
theorem PSetAt.mono {P : Program} {w : World} {G G' : Hp} {v : V} {l : List (Int × Int)} (e : Same G G') (h : PSetAt P w G v l) : PSetAt P w G' v l := by
  obtain ⟨a, L, h1, h2, h3, h4⟩ := h
  exact ⟨a, L, h1, e _ _ h2, fun p hp => e _ _ (h3 p hp), h4⟩
section
variable {P : Program} {w : World} {K : Fg} {σ : L2.St} {G : Hp} {ta tb : TE}
end
end Pf

namespace Pf
open PySem PySem.Spec PyProof.Rows L2
open PySem.W (alike alikeAll dataLt keyToks keyToksAll AllAlike Sortable dataLe AlikeAll minD EachIs)
/-! ### triples as data -/
instance {α β γ : Type} [Rep α] [DecidableEq α] [DatE α] [Rep β] [DecidableEq β] [DatE β] [Rep γ] [DecidableEq γ] [DatE γ] : DatE (Tri α β γ) := { (inferInstance : Dat (Tri α β γ)) with
  ok := fun x => by
    show PyData.canLayAll0 [dat x.a, dat x.b, dat x.c] = true
    simp only [PyData.canLayAll0, DatE.ok, Bool.and_true]
  dp := max (DatE.dp α) (max (DatE.dp β) (DatE.dp γ)) + 1
  deep := fun x => by
    show PyData.depthAll [dat x.a, dat x.b, dat x.c] + 1 ≤ _
    rw [PyData.depthAll, PyData.depthAll, PyData.depthAll, PyData.depthAll]
    exact Nat.succ_le_succ (Nat.max_le.mpr ⟨Nat.le_trans (DatE.deep x.a) (Nat.le_max_left _ _), Nat.max_le.mpr ⟨Nat.le_trans (Nat.le_trans (DatE.deep x.b) (Nat.le_max_left _ _)) (Nat.le_max_right _ _), Nat.max_le.mpr ⟨Nat.le_trans (Nat.le_trans (DatE.deep x.c) (Nat.le_max_right _ _)) (Nat.le_max_right _ _), Nat.zero_le _⟩⟩⟩)
  eq := fun x y => by
    show PyData.eqvAll [dat x.a, dat x.b, dat x.c] [dat y.a, dat y.b, dat y.c] = _
    simp only [PyData.eqvAll, DatE.eq, Bool.and_true]
    cases x; cases y
    simp only [Tri.mk.injEq, Bool.decide_and] }
instance {α β γ : Type} [Rep α] [DecidableEq α] [DatE α] [DatA α] [Rep β] [DecidableEq β] [DatE β] [DatA β] [Rep γ] [DecidableEq γ] [DatE γ] [DatA γ] : DatA (Tri α β γ) := ⟨fun x y => by
  show alikeAll [dat x.a, dat x.b, dat x.c] [dat y.a, dat y.b, dat y.c] = true
  simp only [alikeAll, DatA.al, Bool.and_true]⟩
def lt3 (x y : T3) : Prop := x.a < y.a ∨ (x.a = y.a ∧ (x.b < y.b ∨ (x.b = y.b ∧ x.c < y.c)))
theorem ltI_lex {x y : Int × Int} (h : ltI x y = true) : x.1 < y.1 ∨ (x.1 = y.1 ∧ x.2 < y.2) := by
  apply Classical.byContradiction
  intro z
  have e : ltI x y = false := SrtO.lexB_no.mpr (by omega)
  rw [e] at h
  cases h
theorem lines_strict {p : Plan} (h : isPlanM p = true) : (linesM p).Pairwise fun x y => ltI x y = true := by
  obtain ⟨h3, _, _, _, v, _⟩ := plan_facts h
  rw [lines_eq (by omega)]
  unfold allLines
  refine sort_strict (List.nodup_append.mpr ⟨?_, v.nd, fun x hx y hy e => ?_⟩)
  · unfold lawSides
    refine List.nodup_append.mpr ⟨?_, List.pairwise_singleton _ _, fun x hx y hy e => ?_⟩
    · refine List.pairwise_map.mpr ?_
      unfold rng
      refine List.pairwise_map.mpr (List.nodup_range.imp fun {a b} hab => fun e => hab ?_)
      injection e with e _
      omega
    · obtain ⟨l, hl, rfl⟩ := List.mem_map.mp hx
      have hl := rng_mem.mp hl
      rw [List.mem_singleton.mp hy] at e
      injection e with e1 e2
      omega
  · subst e
    have := v.cut x hy
    obtain ⟨a, b⟩ := x
    have h0 : 0 ≤ a ∧ 2 ≤ b - a ∧ b < p.1 ∧ ¬ (a = 0 ∧ b = p.1 - 1) := this
    rcases mem_sides.mp hx with z | z <;> omega
theorem rng_up (a b : Int) : (rng a b).Pairwise (· < ·) := by
  unfold rng
  refine List.pairwise_map.mpr (List.pairwise_lt_range.imp fun {x y} h => ?_)
  omega
theorem parts_up {p : Plan} (h : isPlanM p = true) : (partsM p).Pairwise lt3 := by
  unfold partsM
  refine List.pairwise_flatMap.mpr ⟨fun lm _ => ?_, (lines_strict h).imp fun {x y} hxy a ha b hb => ?_⟩
  · refine List.pairwise_map.mpr (((rng_up _ _).filter _).imp fun {x y} hxy => ?_)
    exact .inr ⟨rfl, .inr ⟨rfl, hxy⟩⟩
  · obtain ⟨c, _, rfl⟩ := List.mem_map.mp ha
    obtain ⟨d, _, rfl⟩ := List.mem_map.mp hb
    rcases ltI_lex hxy with z | ⟨z1, z2⟩
    · exact .inl z
    · exact .inr ⟨z1, .inl z2⟩
theorem rng_nodup (a b : Int) : (rng a b).Nodup := (rng_up a b).imp fun h e => by omega
end Pf

namespace Pf
open PySem PySem.Spec PyProof.Rows L2
/-! ### the law's dict of lines, both ways, and its places -/
def tied2 (lh : Int × Int) : List ((Int × Int) × Bool) := [((lh.1, lh.2), true), ((lh.2, lh.1), true)]
def tiedD (p : Plan) : Dct (Int × Int) Bool := ⟨putAll ((allLines p).flatMap tied2) []⟩
theorem putAll_nodup {κ α : Type} [DecidableEq κ] : ∀ (ps l : List (κ × α)), (l.map (·.1)).Nodup → ((putAll ps l).map (·.1)).Nodup
  | [], _, h => h
  | x :: ps, l, h => putAll_nodup ps (put l x.1 x.2) (put_nodup h x.1 x.2)
theorem look_tied {p : Plan} (h : isPlanM p = true) (a b : Int) : (look (tiedD p).l (a, b)).isSome = decide (Jn p a b) := by
  obtain ⟨h3, _⟩ := plan_facts h
  have key := look_all ((allLines p).flatMap tied2).length ((allLines p).flatMap tied2) rfl (fun k v v' h1 h2 => by
    obtain ⟨x, _, hx⟩ := List.mem_flatMap.mp h1
    obtain ⟨y, _, hy⟩ := List.mem_flatMap.mp h2
    simp only [tied2, List.mem_cons, List.not_mem_nil, or_false, Prod.mk.injEq] at hx hy
    rcases hx with hx | hx <;> rcases hy with hy | hy <;> rw [hx.2, hy.2])
  have iff : (look (tiedD p).l (a, b)).isSome = true ↔ Jn p a b := by
    rw [Option.isSome_iff_exists]
    constructor
    · rintro ⟨v, hv⟩
      obtain ⟨x, hx, hm⟩ := List.mem_flatMap.mp ((key (a, b) v).mp hv)
      have lt := line_lt h hx
      rw [← lines_eq (by omega)] at hx
      simp only [tied2, List.mem_cons, List.not_mem_nil, or_false, Prod.mk.injEq] at hm
      obtain ⟨x1, x2⟩ := x
      have j : Jn p x1 x2 := (jn_in lt.2.1).mp hx
      rcases hm with ⟨⟨rfl, rfl⟩, _⟩ | ⟨⟨rfl, rfl⟩, _⟩
      · exact j
      · exact j.sym
    · intro j
      have ne := j.ne h
      refine ⟨true, (key (a, b) true).mpr (List.mem_flatMap.mpr ?_)⟩
      rw [← lines_eq (by omega)]
      rcases Int.lt_or_gt_of_ne ne.2.2.2.2 with q | q
      · exact ⟨(a, b), (jn_in q).mpr j, by simp [tied2]⟩
      · exact ⟨(b, a), (jn_in q).mpr j.sym, by simp [tied2]⟩
  by_cases j : Jn p a b
  · rw [decide_eq_true j]; exact iff.mpr j
  · rw [decide_eq_false j]
    cases e : (look (tiedD p).l (a, b)).isSome with
    | false => rfl
    | true => exact absurd (iff.mp e) j
def keysM (p : Plan) : List (Int × Int) := (tiedD p).l.map (·.1)
def spotsM (p : Plan) : List (Int × Int) := sortP (keysM p)
theorem keys_nodup (p : Plan) : (keysM p).Nodup := putAll_nodup _ [] List.nodup_nil
theorem mem_keys {p : Plan} (h : isPlanM p = true) {a b : Int} : (a, b) ∈ keysM p ↔ Jn p a b := by
  unfold keysM
  rw [← look_mem, look_tied h]
  exact decide_eq_true_iff
def swapP (x : Int × Int) : Int × Int := (x.2, x.1)
theorem lines_nodup {p : Plan} (h : isPlanM p = true) : (linesM p).Nodup := pw_nodup (lines_strict h)
theorem both_perm {p : Plan} (h : isPlanM p = true) : (linesM p ++ (linesM p).map swapP).Perm (keysM p) := by
  obtain ⟨h3, _⟩ := plan_facts h
  have lt : ∀ x ∈ linesM p, x.1 < x.2 := fun x hx => (line_lt h (by rw [← lines_eq (by omega)]; exact hx)).2.1
  refine (List.perm_ext_iff_of_nodup (List.nodup_append.mpr ⟨lines_nodup h, ?_, fun x hx y hy e => ?_⟩) (keys_nodup p)).mpr fun x => ?_
  · refine List.pairwise_map.mpr ((lines_nodup h).imp fun {x y} hxy e => hxy ?_)
    injection e with e1 e2
    exact Prod.ext e2 e1
  · obtain ⟨z, hz, rfl⟩ := List.mem_map.mp hy
    have q1 := lt x hx
    have q2 := lt z hz
    rw [e] at q1
    have q1 : z.2 < z.1 := q1
    omega
  · obtain ⟨a, b⟩ := x
    rw [mem_keys h, List.mem_append]
    constructor
    · rintro (z | z)
      · exact (jn_in (lt _ z)).mp z
      · obtain ⟨⟨u, v⟩, hy, e⟩ := List.mem_map.mp z
        injection e with e1 e2
        have e1 : v = a := e1
        have e2 : u = b := e2
        subst e1 e2
        exact ((jn_in (lt _ hy)).mp hy).sym
    · intro j
      have ne := j.ne h
      rcases Int.lt_or_gt_of_ne ne.2.2.2.2 with q | q
      · exact .inl ((jn_in q).mpr j)
      · exact .inr (List.mem_map.mpr ⟨(b, a), (jn_in q).mpr j.sym, rfl⟩)
theorem spots_len {p : Plan} (h : isPlanM p = true) : ((spotsM p).length : Int) = 4 * p.1 - 6 := by
  obtain ⟨h3, _⟩ := plan_facts h
  have := (both_perm h).length_eq
  have hl := lines_len h
  rw [← lines_eq (by omega)] at hl
  rw [List.length_append, List.length_map] at this
  unfold spotsM
  rw [sortP_len]
  omega
/-! the law's parts -/
end Pf

namespace Pf
open PySem PySem.Spec PyProof.Rows L2
/-! ### new lists -/
section
variable {α β γ : Type} [Rep α] [Rep β] [Rep γ] {σ : L2.St} {G H : Hp} {te ta tb : TE} {tt : TT} {x : α} {K : Fg} {D : Ends} {ts tr u : TS}
/-! xs.index(x) -/
/-! a list within a list or a pair is changed -/
end
end Pf

namespace Pf
open PySem PySem.Spec PyProof.Rows L2
/-! ### a comprehension that draws from the bag -/
section
variable {α β γ : Type} [Rep α] [Rep β] [Rep γ] {σ : L2.St} {G H : Hp} {te ta tb : TE} {tt : TT} {K : Fg} {D : Ends} {ts tr u : TS} {g : TG}
theorem bag_ne {b q : Addr} (bg : Bag G H b) (n : H q = none) : b ≠ q := by
  obtain ⟨_, _, _, _, _, _, eb, _⟩ := bg
  exact ne_of_none eb n
theorem lc_bag {wi : TI} {vs : List Nat} {xs : List α} {R : β → Prop} {b : Addr} {Q : VK} (hx : EvI wi σ G xs) (s : Same G H) (bg : Bag G H b) (hl : xs.length ≤ 100000)
    (hb : ∀ x ∈ xs, ∀ v G1, Same G G1 → rep G1 v x → GB g v (wipe σ vs) G1 fun σ2 => wipe σ2 vs = wipe σ vs ∧ ∀ H Q', Same G1 H → Bag G1 H b → (∀ y v' G' H', R y → Gr (Mb b) G1 H G' H' → Bag G' H' b → rep G' v' y → Q' v' H') → te σ2 H Q')
    (k : ∀ (ys : List β) v G' H', (∀ y ∈ ys, R y) → ys.length = xs.length → Gr (Mb b) G H G' H' → Bag G' H' b → rep G' v ys → Q v H') : tLc wi g tYes te vs σ H Q := by
  refine hx H s _ fun J G1 H1 g1 ok D nD => ?_
  have bg1 := bg.step0 g1
  have nG : G1 D = none := up_none g1.i nD
  have hne := bag_ne bg1 nD
  refine ⟨fun k m H => m = xs.length - k ∧ k ≤ xs.length ∧ ∃ (Gk : Hp) (ys : List β), Gr (Mb b) G1 H1 Gk H ∧ Bag Gk H b ∧ Ml Gk H D ys ∧ ys.length = k ∧ ∀ y ∈ ys, R y, ⟨_, rfl, Nat.zero_le _, G1, [], (Gr.refl g1.i).mut (.inl nD) nG, bg1.other hne, ⟨nG, [], upd_same, .nil⟩, rfl, fun _ h => nomatch h⟩, ?_⟩
  rintro n m H2 ⟨rfl, hk, Gk, ys, gk, bk, ml, hy, hR⟩
  by_cases hlt : n < xs.length
  · refine .inr ⟨ok.go n H2 (gk.g.trans gk.i) hlt, fun H' => ∃ (Gk : Hp) (ys : List β), Gr (Mb b) G1 H1 Gk H' ∧ Bag Gk H' b ∧ Ml Gk H' D ys ∧ ys.length = n + 1 ∧ ∀ y ∈ ys, R y, fun H' h' => ⟨xs.length - (n + 1), by omega, rfl, hlt, h'⟩, fun v H3 yl => ?_⟩
    have hxk : xs[n]? = some xs[n] := List.getElem?_eq_getElem hlt
    obtain ⟨G3, g3, r3⟩ := ok.yld n H2 v H3 Gk xs[n] gk.g gk.i yl hxk
    have bk3 := bk.step0 g3
    have g13 : Gr (Mb b) G1 H1 G3 H3 := gk.trans g3.wk fun a e => .inl (by cases e; exact bk3.1)
    refine hb xs[n] (List.getElem_mem hlt) v G3 (g1.g.trans g13.g) r3 H3 g3.i _ fun σ2 ⟨hw, he⟩ => ⟨hw, ?_⟩
    show te σ2 H3 _
    refine he H3 _ g3.i bk3 fun y v' G5 H5 hy5 g5 b5 r5 => ?_
    have ml5 := (ml.step0 g3).step g5 (fun e => hne e.symm)
    obtain ⟨n5, acc, e5, p5⟩ := ml5
    have g15 : Gr (Mb b) G1 H1 G5 H5 := g13.trans g5 fun a e => .inl (by cases e; exact b5.1)
    refine ⟨acc, e5, sl_lt (by rw [paired_len p5]; omega), G5, ys ++ [y], g15.mut (.inl nD) n5, b5.other hne, ⟨n5, acc ++ [v'], upd_same, paired_app p5 (.cons r5 .nil)⟩, by rw [List.length_append]; show ys.length + 1 = n + 1; omega, fun z hz => ?_⟩
    rcases List.mem_append.mp hz with hz | hz
    · exact hR z hz
    · rw [List.mem_singleton.mp hz]; exact hy5
  · have e : n = xs.length := by omega
    obtain ⟨n5, acc, e5, p5⟩ := ml
    have sn := same_new (o := HO.lst acc) n5
    have bk' : Bag (upd Gk D (.lst acc)) H2 b := bk.up sn (by rw [upd_ne hne]; exact bk.1)
    refine .inl ⟨ok.stop n H2 (gk.g.trans gk.i) (by omega), k ys _ (upd Gk D (.lst acc)) H2 hR (by omega) (g1.wk.trans (gk.still nD n5 e5) fun a e => .inl (by cases e; exact bk'.1)) bk' ⟨D, acc, rfl, upd_same, paired_mono sn p5⟩⟩
end
/-! ### fans -/
theorem jn_next {p : Plan} (h : isPlanM p = true) {f : Int} (hf : 0 ≤ f ∧ f < p.1) : Jn p f ((f + 1) % p.1) := by
  obtain ⟨h3, _⟩ := plan_facts h
  rw [wrap (by omega) (by omega)]
  split
  · exact jn_side h (by omega) (by omega) rfl
  · have e : f = p.1 - 1 := by omega
    subst e
    rw [show p.1 - 1 + 1 - p.1 = 0 by omega]
    exact (jn_last h).sym
end Pf

namespace Pf
open PySem PySem.Spec PyProof.Rows L2
section
variable {α β γ : Type} [Rep α] [Rep β] [Rep γ] {σ : L2.St} {G H : Hp} {te ta tb : TE} {tt : TT} {K : Fg} {D : Ends} {ts tr u : TS} {g : TG} {x : α}
end
/-! ### arcs -/
def arc (n s e : Int) : List Int := (rng 0 ((e - s) % n)).map fun k => (s + k) % n
end Pf

namespace Pf
open PySem PySem.Spec PyProof.Rows L2
/-! ### how many a set has -/
theorem g3 {α β γ : Type} [Rep α] [Rep β] [Rep γ] {K : Fg} {σ : L2.St} {G H : Hp} {v : V} {x : Tri α β γ} {i j l : Nat} {Q : L2.St → Hp → Prop} (r : rep G v x) (s : Same G H) (h : ∀ u w z, rep G u x.a → rep G w x.b → rep G z x.c → Q (((σ.set i (some u)).set j (some w)).set l (some z)) H) : gTup K 3 (gCons (gName i) (gCons (gName j) (gCons (gName l) gNil))) v σ H Q := by
  obtain ⟨a, u, w, z, rfl, h2, h3, h4, h5⟩ := r
  exact ⟨a, [u, w, z], rfl, .inl (.inl (s _ _ h2)), rfl, u, [w, z], rfl, w, [z], rfl, z, [], rfl, rfl, h u w z h3 h4 h5⟩
/-! ### a way among texts -/
section
variable {σ : L2.St} {G H : Hp} {ta tb : TE} {K : Fg}
theorem inV_strs (x : Str) : ∀ ys : List Str, inV (.str x) (ys.map V.str) = decide (x ∈ ys)
  | [] => rfl
  | y :: ys => by
    have ih := inV_strs x ys
    unfold inV at ih ⊢
    rw [List.map_cons, List.any_cons, ih]
    show ((y == x) || decide (x ∈ ys)) = decide (x ∈ y :: ys)
    by_cases h : y = x
    · subst h
      rw [beq_self_eq_true, decide_eq_true List.mem_cons_self]; rfl
    · rw [beq_eq_false_iff_ne.mpr h, Bool.false_or]
      exact decide_eq_decide.mpr ⟨List.mem_cons_of_mem _, fun z => (List.mem_cons.mp z).resolve_left fun e => h e.symm⟩
theorem strs_flat (ys : List Str) : (ys.map V.str).all flatV = true := List.all_eq_true.mpr fun v hv => by obtain ⟨y, _, rfl⟩ := List.mem_map.mp hv; rfl
theorem ev_notInS {x : Str} {ys : List Str} {a : Addr} (ha : Ev ta σ G x) (hS : ∀ H, SqT K H a (ys.map V.str)) : Ev (tOp (rIn K true) ta (tC (.ref a))) σ G (!decide (x ∈ ys)) := fun H i Q q => ha H i _ fun v G1 H1 g1 k1 => by
  cases k1
  exact ⟨a, ys.map V.str, rfl, .inr (hS H1), rfl, strs_flat ys, q _ G1 H1 g1 (by rw [inV_strs]; rfl)⟩
end
/-! ### pinches -/
abbrev sE : Str := "even"
abbrev sO : Str := "odd"
abbrev sP : Str := "pinch"
def thW (p : Plan) (s : Int × Int) (way : Str) : Option Int := if way = sE then thM p s.1 s.2 else thM p s.2 s.1
def behindM (s : Int × Int) (word : Str) (c : Int) : Int × Int := if word = sP then (c, s.1) else (s.2, c)
def otherW (way : Str) : Str := if way = sE then sO else sE
theorem th_some {p : Plan} (h : isPlanM p = true) {s : Int × Int} {way : Str} {c : Int} (j : Jn p s.1 s.2) : thW p s way = some c ↔ (way = sE ∧ Tr p s.1 c s.2) ∨ (way ≠ sE ∧ Tr p s.2 c s.1) := by
  unfold thW
  by_cases e : way = sE
  · rw [if_pos e, th_iff h j]
    exact ⟨fun t => .inl ⟨e, t⟩, fun z => z.elim (fun z => z.2) (fun z => absurd e z.1)⟩
  · rw [if_neg e, th_iff h j.sym]
    exact ⟨fun t => .inr ⟨e, t⟩, fun z => z.elim (fun z => absurd z.1 e) (fun z => z.2)⟩
theorem other_ne {way : Str} (e : way ≠ sE) : otherW way = sE := if_neg e
theorem other_e : otherW sE = sO := if_pos rfl
/-- what a pinch and an unpinch lead to -/
structure Pin (p : Plan) (s : Int × Int) (way : Str) (c : Int) : Prop where
  j1 : Jn p c s.1
  j2 : Jn p s.2 c
  t1 : thW p (c, s.1) way = some s.2
  t2 : thW p (s.2, c) way = some s.1
  t3 : thW p (swapP s) (otherW way) = some c
  ne : c ≠ s.1 ∧ c ≠ s.2
theorem pin_of {p : Plan} (h : isPlanM p = true) {s : Int × Int} {way : Str} {c : Int} (j : Jn p s.1 s.2) (e : thW p s way = some c) : Pin p s way c := by
  rcases (th_some h j).mp e with ⟨rfl, t⟩ | ⟨hw, t⟩
  · have n1 := t.sv.ne h
    have n2 := t.ve.ne h
    exact ⟨t.sv.sym, t.ve.sym, (th_some h (s := (c, s.1)) t.sv.sym).mpr (.inl ⟨rfl, t.rot⟩), (th_some h (s := (s.2, c)) t.ve.sym).mpr (.inl ⟨rfl, t.rot.rot⟩), by rw [other_e]; exact (th_some h (s := swapP s) j.sym).mpr (.inr ⟨by decide, t⟩), by omega⟩
  · have n1 := t.sv.ne h
    have n2 := t.ve.ne h
    exact ⟨t.ve, t.sv, (th_some h (s := (c, s.1)) t.ve).mpr (.inr ⟨hw, t.rot.rot⟩), (th_some h (s := (s.2, c)) t.sv).mpr (.inr ⟨hw, t.rot⟩), by rw [other_ne hw]; exact (th_some h (s := swapP s) j.sym).mpr (.inl ⟨rfl, t⟩), by omega⟩
theorem lp_ne {a b c d : Int} (h : ¬ (a = c ∧ b = d)) (h2 : ¬ (a = d ∧ b = c)) : lawPair a b ≠ lawPair c d := by
  rcases lp_cases a b with ⟨e, _⟩ | ⟨e, _⟩ <;> rcases lp_cases c d with ⟨f, _⟩ | ⟨f, _⟩ <;> rw [e, f] <;> intro z <;> injection z with z1 z2 <;> omega
end Pf

namespace Pf
open PySem PySem.Spec PyProof.Rows L2
/-! ### the strip's order -/
def ordN (p : Plan) : Nat → Int → Int → Bool → List Int
  | 0, s, _, _ => [s]
  | k + 1, s, e, b => match look (thirdsM p).l (s, e) with
    | none => [s]
    | some c => if b = true then ordN p k s c (!b) ++ ordN p k c e (!b) else ordN p k c e (!b) ++ ordN p k s c (!b)
theorem arc_w {n s e : Int} (hs : 0 ≤ s ∧ s < n) (he : 0 ≤ e ∧ e < n) : (e - s) % n = if e < s then e - s + n else e - s := by
  rw [wrapN (by omega) (by omega)]
  by_cases h : e < s
  · rw [if_pos (by omega), if_pos h]
  · rw [if_neg (by omega), if_neg h]
theorem cy_w {n s c e : Int} (hs : 0 ≤ s ∧ s < n) (hc : 0 ≤ c ∧ c < n) (he : 0 ≤ e ∧ e < n) (h : Cy s c e) : (c - s) % n + (e - c) % n = (e - s) % n ∧ 1 ≤ (c - s) % n ∧ 1 ≤ (e - c) % n := by
  rw [arc_w hs hc, arc_w hc he, arc_w hs he]
  unfold Cy at h
  split <;> split <;> split <;> omega
theorem rng_app {a b c : Int} (h1 : a ≤ b) (h2 : b ≤ c) : rng a c = rng a b ++ rng b c := by
  unfold rng
  rw [show (c - a).toNat = (b - a).toNat + (c - b).toNat by omega, List.range_add, List.map_append, List.map_map]
  congr 1
  refine List.map_congr_left fun k _ => ?_
  show a + (((b - a).toNat + k : Nat) : Int) = b + (k : Int)
  omega
theorem rng_sh (a b d : Int) : rng (a + d) (b + d) = (rng a b).map fun k => k + d := by
  unfold rng
  rw [show b + d - (a + d) = b - a by omega, List.map_map]
  refine List.map_congr_left fun k _ => ?_
  show a + d + (k : Int) = a + (k : Int) + d
  omega
theorem arc_split {n s c e : Int} (hs : 0 ≤ s ∧ s < n) (hc : 0 ≤ c ∧ c < n) (he : 0 ≤ e ∧ e < n) (h : Cy s c e) : arc n s e = arc n s c ++ arc n c e := by
  obtain ⟨w1, w2, w3⟩ := cy_w hs hc he h
  unfold arc
  rw [← w1, rng_app (a := 0) (b := (c - s) % n) (by omega) (by omega), List.map_append]
  congr 1
  have z := rng_sh 0 ((e - c) % n) ((c - s) % n)
  rw [show (0 : Int) + (c - s) % n = (c - s) % n by omega, show (e - c) % n + (c - s) % n = (c - s) % n + (e - c) % n by omega] at z
  rw [z, List.map_map]
  refine List.map_congr_left fun k _ => ?_
  show (s + (k + (c - s) % n)) % n = (c + k) % n
  have : (c - s) % n = c - s ∨ (c - s) % n = c - s + n := by rw [arc_w hs hc]; split <;> omega
  rcases this with e | e
  · rw [e]; congr 1; omega
  · rw [e, show s + (k + (c - s + n)) = c + k + n by omega, Int.add_emod_right]
theorem look_none {p : Plan} (h : isPlanM p = true) {s e : Int} (j : Jn p s e) : look (thirdsM p).l (s, e) = none ↔ (s + 1) % p.1 = e := by
  have ne := j.ne h
  constructor
  · intro z
    apply Classical.byContradiction
    intro q
    obtain ⟨c, t⟩ := tr_ex h j (fun z => q (by
      rcases z with z | z
      · rw [z, Int.emod_eq_of_lt (by omega) (by omega)]
      · rw [z.1, z.2, show p.1 - 1 + 1 = p.1 by omega, Int.emod_self]))
    rw [(look_thirds h).mpr t] at z
    cases z
  · intro q
    cases z : look (thirdsM p).l (s, e) with
    | none => rfl
    | some c =>
      exfalso
      have t := (look_thirds h).mp z
      have n1 := t.sv.ne h
      have cy := t.cy
      unfold Cy at cy
      rw [wrap (by omega) (by omega)] at q
      split at q <;> omega
theorem arc_one {n s : Int} (hs : 0 ≤ s ∧ s < n) (h2 : 2 ≤ n) : arc n s ((s + 1) % n) = [s] := by
  have e : ((s + 1) % n - s) % n = 1 := by
    rw [Int.emod_sub_emod]
    rw [show s + 1 - s = 1 by omega, Int.emod_eq_of_lt (by omega) (by omega)]
  unfold arc
  rw [e]
  show [(s + (0 + ((0 : Nat) : Int))) % n] = [s]
  rw [show s + (0 + ((0 : Nat) : Int)) = s by omega, Int.emod_eq_of_lt hs.1 hs.2]
theorem ord_perm {p : Plan} (h : isPlanM p = true) : ∀ (k : Nat) (s e : Int) (b : Bool), Jn p s e → (e - s) % p.1 ≤ k → (ordN p k s e b).Perm (arc p.1 s e) := by
  have h3 := (plan_facts h).1
  intro k
  induction k with
  | zero =>
    intro s e b j hk
    have ne := j.ne h
    rw [arc_w (by omega) (by omega)] at hk
    split at hk <;> omega
  | succ k ih =>
    intro s e b j hk
    have ne := j.ne h
    unfold ordN
    cases z : look (thirdsM p).l (s, e) with
    | none =>
      rw [← (look_none h j).mp z, arc_one (by omega) (by omega)]
    | some c =>
      have t := (look_thirds h).mp z
      have n1 := t.sv.ne h
      obtain ⟨w1, w2, w3⟩ := cy_w (n := p.1) (by omega) (by omega) (by omega) t.cy
      have i1 := ih s c (!b) t.sv (by omega)
      have i2 := ih c e (!b) t.ve (by omega)
      rw [arc_split (by omega) (by omega) (by omega) t.cy]
      show (if b = true then ordN p k s c (!b) ++ ordN p k c e (!b) else ordN p k c e (!b) ++ ordN p k s c (!b)).Perm _
      split
      · exact i1.append i2
      · exact (i2.append i1).trans List.perm_append_comm
def ordM (p : Plan) : List Int := [0] ++ ordN p 40 1 0 true
theorem jn_10 {p : Plan} (h : isPlanM p = true) : Jn p 1 0 := (jn_side h (a := 0) (b := 1) (by omega) (by have := (plan_facts h).1; omega) rfl).sym
end Pf

namespace Pf
open PySem PySem.Spec PyProof.Rows L2
/-! ### the hands of the parts: a part is of the right hand where it lies beyond an even count of cuts, as seen from the side of 0 and 1 -/
/-- a corner that lies beyond a cut, or at its ends -/
def far (m : Int × Int) (c : Int) : Bool := if m.1 = 0 then decide (c = 0 ∨ m.2 ≤ c) else decide (m.1 ≤ c ∧ c ≤ m.2)
def beyT (m : Int × Int) (a b c : Int) : Bool := far m a && far m b && far m c
def dep (p : Plan) (a b c : Int) : Nat := p.2.l.countP fun m => beyT m a b c
def hnd (p : Plan) (a b c : Int) : Bool := decide (dep p a b c % 2 = 0)
theorem beyT_rot (m : Int × Int) (a b c : Int) : beyT m a b c = beyT m b c a := by
  unfold beyT
  cases far m a <;> cases far m b <;> cases far m c <;> rfl
theorem beyT_sw (m : Int × Int) (a b c : Int) : beyT m a b c = beyT m b a c := by
  unfold beyT
  cases far m a <;> cases far m b <;> cases far m c <;> rfl
theorem dep_rot (p : Plan) (a b c : Int) : dep p a b c = dep p b c a := by unfold dep; congr 1; funext m; exact beyT_rot m a b c
theorem dep_sw (p : Plan) (a b c : Int) : dep p a b c = dep p b a c := by unfold dep; congr 1; funext m; exact beyT_sw m a b c
theorem hnd_rot (p : Plan) (a b c : Int) : hnd p a b c = hnd p b c a := by unfold hnd; rw [dep_rot]
theorem hnd_sw (p : Plan) (a b c : Int) : hnd p a b c = hnd p b a c := by unfold hnd; rw [dep_sw]
theorem cut_facts {p : Plan} (h : isPlanM p = true) {m : Int × Int} (hm : m ∈ p.2.l) : 0 ≤ m.1 ∧ m.1 + 2 ≤ m.2 ∧ m.2 < p.1 ∧ ¬ (m.1 = 0 ∧ m.2 = p.1 - 1) ∧ Jn p m.1 m.2 := by
  obtain ⟨h3, h40, hl, hb, hv, _⟩ := plan_facts h
  obtain ⟨a1, a2, a3, a4⟩ := hv.cut m hm
  refine ⟨a1, by omega, a3, a4, (jn_lt h (by omega)).mpr (.inr (.inr hm))⟩
theorem far_or {p : Plan} (h : isPlanM p = true) {m : Int × Int} (hm : m ∈ p.2.l) {u v : Int} (j : Jn p u v) (hu : far m u = true) (hv : far m v = false) : u = m.1 ∨ u = m.2 := by
  obtain ⟨x, y⟩ := m
  obtain ⟨c0, c1, c2, c3, jm⟩ := cut_facts h hm
  obtain ⟨j1, j2, j3, j4, j5⟩ := j.ne h
  simp only at *
  unfold far at hu hv
  simp only at hu hv
  by_cases hx : x = 0
  · subst hx
    rw [if_pos rfl] at hu hv
    have hu := of_decide_eq_true hu
    have hv := of_decide_eq_false hv
    by_cases e : u = 0 ∨ u = y
    · exact e
    · exact (no_cross h (a := 0) (b := v) (c := y) (d := u) (by omega) (by omega) (by omega) jm j.sym).elim
  · rw [if_neg hx] at hu hv
    have hu := of_decide_eq_true hu
    have hv := of_decide_eq_false hv
    by_cases e : u = x ∨ u = y
    · exact e
    · by_cases hvx : v < x
      · exact (no_cross h (a := v) (b := x) (c := u) (d := y) (by omega) (by omega) (by omega) j.sym jm).elim
      · exact (no_cross h (a := x) (b := u) (c := y) (d := v) (by omega) (by omega) (by omega) jm j).elim
/-- the third corner of a part goes with the line, but for the line itself -/
theorem far_third {p : Plan} (h : isPlanM p = true) {m : Int × Int} (hm : m ∈ p.2.l) {a b d : Int} (ja : Jn p a d) (jb : Jn p b d) (ne : a ≠ b) (hne : m ≠ lawPair a b) (ha : far m a = true) (hb : far m b = true) : far m d = true := by
  cases hd : far m d with
  | true => rfl
  | false =>
    exfalso
    have e1 := far_or h hm ja ha hd
    have e2 := far_or h hm jb hb hd
    obtain ⟨c0, c1, _⟩ := cut_facts h hm
    apply hne
    obtain ⟨x, y⟩ := m
    simp only at *
    unfold lawPair
    rcases e1 with e1 | e1 <;> rcases e2 with e2 | e2
    · omega
    · subst e1 e2; rw [if_neg (by omega), if_pos (by omega)]
    · subst e1 e2; rw [if_pos (by omega), if_neg (by omega)]
    · omega
theorem bey_other {p : Plan} (h : isPlanM p = true) {m : Int × Int} (hm : m ∈ p.2.l) {a b c d : Int} (t : Tr p a c b) (u : Tr p b d a) (hne : m ≠ lawPair a b) : beyT m a b c = beyT m a b d := by
  have ne := (t.se.ne h).2.2.2.2
  unfold beyT
  cases ha : far m a with
  | false => simp
  | true =>
    cases hb : far m b with
    | false => simp
    | true => rw [far_third h hm t.sv t.ve.sym ne hne ha hb, far_third h hm u.ve.sym u.sv ne hne ha hb]
/-- a line with parts on both sides is a cut -/
theorem both_cut {p : Plan} (h : isPlanM p = true) {a b c d : Int} (t : Tr p a c b) (u : Tr p b d a) : lawPair a b ∈ p.2.l := by
  have j := t.se
  obtain ⟨a1, a2, a3, a4, a5⟩ := j.ne h
  obtain ⟨_, _, c1, c2, _⟩ := t.sv.ne h
  obtain ⟨_, _, d1, d2, _⟩ := u.sv.ne h
  have x := t.cy; have y := u.cy
  unfold Cy at x y
  by_cases hab : a < b
  · rw [lp_lt hab]
    rcases (jn_lt h hab).mp j with z | z | z
    · omega
    · omega
    · exact z
  · rw [lp_sym, lp_lt (by omega)]
    rcases (jn_lt h (show b < a by omega)).mp j.sym with z | z | z
    · omega
    · omega
    · exact z
theorem bey_self {p : Plan} (h : isPlanM p = true) {a b c d : Int} (t : Tr p a c b) (u : Tr p b d a) : beyT (lawPair a b) a b c = !beyT (lawPair a b) a b d := by
  have hm := both_cut h t u
  obtain ⟨m0, m1, m2, m3, _⟩ := cut_facts h hm
  obtain ⟨a1, a2, a3, a4, a5⟩ := t.se.ne h
  obtain ⟨_, _, c1, c2, _⟩ := t.sv.ne h
  obtain ⟨_, _, d1, d2, _⟩ := u.sv.ne h
  have x := t.cy; have y := u.cy
  unfold Cy at x y
  have key : ∀ {l r : Int}, l < r → ∀ e, far (l, r) e = if l = 0 then decide (e = 0 ∨ r ≤ e) else decide (l ≤ e ∧ e ≤ r) := fun _ _ => rfl
  have hT : ∀ {q : Prop} [Decidable q], q → decide q = true := fun hq => decide_eq_true hq
  have hF : ∀ {q : Prop} [Decidable q], ¬ q → decide q = false := fun hq => decide_eq_false hq
  unfold beyT
  by_cases hab : a < b
  · rw [lp_lt hab] at m0 m1 m2 m3 ⊢
    simp only at m0 m1 m2 m3
    rw [key hab, key hab, key hab, key hab]
    by_cases h0 : a = 0
    · rw [if_pos h0, if_pos h0, if_pos h0, if_pos h0, hT (show a = 0 ∨ b ≤ a by omega), hT (show b = 0 ∨ b ≤ b by omega), hF (show ¬ (c = 0 ∨ b ≤ c) by omega), hT (show d = 0 ∨ b ≤ d by omega)]; rfl
    · rw [if_neg h0, if_neg h0, if_neg h0, if_neg h0, hT (show a ≤ a ∧ a ≤ b by omega), hT (show a ≤ b ∧ b ≤ b by omega), hT (show a ≤ c ∧ c ≤ b by omega), hF (show ¬ (a ≤ d ∧ d ≤ b) by omega)]; rfl
  · have hba : b < a := by omega
    rw [lp_sym, lp_lt hba] at m0 m1 m2 m3 ⊢
    simp only at m0 m1 m2 m3
    rw [key hba, key hba, key hba, key hba]
    by_cases h0 : b = 0
    · rw [if_pos h0, if_pos h0, if_pos h0, if_pos h0, hT (show a = 0 ∨ a ≤ a by omega), hT (show b = 0 ∨ a ≤ b by omega), hT (show c = 0 ∨ a ≤ c by omega), hF (show ¬ (d = 0 ∨ a ≤ d) by omega)]; rfl
    · rw [if_neg h0, if_neg h0, if_neg h0, if_neg h0, hT (show b ≤ a ∧ a ≤ a by omega), hT (show b ≤ b ∧ b ≤ a by omega), hF (show ¬ (b ≤ c ∧ c ≤ a) by omega), hT (show b ≤ d ∧ d ≤ a by omega)]; rfl
theorem countP_diff {α : Type} [DecidableEq α] {f g : α → Bool} {x : α} : ∀ {l : List α}, l.Nodup → x ∈ l → (∀ y ∈ l, y ≠ x → f y = g y) → f x = true → g x = false → l.countP f = l.countP g + 1
  | y :: l, nd, hx, he, hf, hg => by
    rw [List.nodup_cons] at nd
    by_cases e : y = x
    · subst e
      rw [List.countP_cons_of_pos hf, List.countP_cons_of_neg (by rw [hg]; decide)]
      congr 1
      exact List.countP_congr fun z hz => by rw [he z (List.mem_cons_of_mem _ hz) (fun q => nd.1 (q ▸ hz))]
    · have hx' : x ∈ l := (List.mem_cons.mp hx).resolve_left (fun q => e q.symm)
      have ih := countP_diff nd.2 hx' (fun z hz => he z (List.mem_cons_of_mem _ hz)) hf hg
      have ey := he y (List.mem_cons_self) e
      rw [List.countP_cons, List.countP_cons, ih, ey]
      omega
theorem dep_step {p : Plan} (h : isPlanM p = true) {a b c d : Int} (t : Tr p a c b) (u : Tr p b d a) (hb : beyT (lawPair a b) a b c = true) : dep p a b c = dep p a b d + 1 := by
  obtain ⟨_, _, _, _, hv, _⟩ := plan_facts h
  refine countP_diff hv.nd (both_cut h t u) (fun m hm ne => bey_other h hm t u ne) hb ?_
  have e := bey_self h t u
  rw [hb] at e
  cases z : beyT (lawPair a b) a b d with
  | false => rfl
  | true => rw [z] at e; cases e
/-- two parts at one line are of unlike hands -/
theorem hnd_flip {p : Plan} (h : isPlanM p = true) {a b c d : Int} (t : Tr p a c b) (u : Tr p b d a) : hnd p a b c = !hnd p a b d := by
  unfold hnd
  cases e : beyT (lawPair a b) a b c with
  | true =>
    rw [dep_step h t u e]
    by_cases z : dep p a b d % 2 = 0
    · rw [decide_eq_true z, decide_eq_false (by omega)]; rfl
    · rw [decide_eq_false z, decide_eq_true (by omega)]; rfl
  | false =>
    have e2 : beyT (lawPair b a) b a d = true := by
      rw [lp_sym, beyT_sw]
      have q := bey_self h t u
      rw [e] at q
      cases z : beyT (lawPair a b) a b d with
      | true => rfl
      | false => rw [z] at q; cases q
    have q := dep_step h u t e2
    rw [dep_sw p b a d, dep_sw p b a c] at q
    rw [q]
    by_cases z : dep p a b c % 2 = 0
    · rw [decide_eq_true z, decide_eq_false (by omega)]; rfl
    · rw [decide_eq_false z, decide_eq_true (by omega)]; rfl
theorem dep_root {p : Plan} (h : isPlanM p = true) (c : Int) : dep p 0 1 c = 0 := by
  unfold dep
  rw [List.countP_eq_zero]
  intro m hm
  obtain ⟨m0, m1, m2, m3, _⟩ := cut_facts h hm
  unfold beyT far
  by_cases e : m.1 = 0
  · rw [if_pos e, if_pos e, if_pos e, decide_eq_false (p := (1 : Int) = 0 ∨ m.2 ≤ 1) (by omega)]; simp
  · rw [if_neg e, if_neg e, if_neg e, decide_eq_false (p := m.1 ≤ 0 ∧ 0 ≤ m.2) (by omega)]; simp
theorem hnd_root {p : Plan} (h : isPlanM p = true) (c : Int) : hnd p 0 1 c = true := by unfold hnd; rw [dep_root h]; rfl
theorem tr_root {p : Plan} (h : isPlanM p = true) : ∃ c, Tr p 1 c 0 := tr_ex h (jn_10 h) (by have := (plan_facts h).1; omega)
def Top (s c e : Int) : Prop := 0 < s ∧ s < c ∧ (c < e ∨ e = 0)
/-- the part that lies ahead of a part, as seen from the side of 0 and 1 -/
theorem ahead {p : Plan} (h : isPlanM p = true) {s c e : Int} (t : Tr p s c e) (tp : Top s c e) (nr : ¬ (s = 1 ∧ e = 0)) : ∃ d, Tr p e d s ∧ dep p s e c = dep p e s d + 1 := by
  obtain ⟨a1, a2, a3, a4, a5⟩ := t.se.ne h
  obtain ⟨t1, t2, t3⟩ := tp
  obtain ⟨d, u⟩ := tr_ex h t.se.sym (by omega)
  refine ⟨d, u, ?_⟩
  rw [dep_sw p e s d]
  refine dep_step h t u ?_
  unfold beyT
  by_cases e0 : e = 0
  · subst e0
    rw [lp_sym, lp_lt t1]
    unfold far
    simp only
    rw [if_pos trivial, if_pos trivial, if_pos trivial, decide_eq_true (show s = 0 ∨ s ≤ s by omega), decide_eq_true (show c = 0 ∨ s ≤ c by omega)]; rfl
  · rw [lp_lt (show s < e by omega)]
    unfold far
    simp only
    have hs : ¬ s = 0 := by omega
    rw [if_neg hs, if_neg hs, if_neg hs, decide_eq_true (show s ≤ s ∧ s ≤ e by omega), decide_eq_true (show s ≤ e ∧ e ≤ e by omega), decide_eq_true (show s ≤ c ∧ c ≤ e by omega)]; rfl
theorem top_rot {p : Plan} (h : isPlanM p = true) {s c e : Int} (t : Tr p s c e) : Top s c e ∨ Top c e s ∨ Top e s c := by
  obtain ⟨a1, a2, a3, a4, a5⟩ := t.se.ne h
  obtain ⟨_, _, c1, c2, _⟩ := t.sv.ne h
  have x := t.cy
  unfold Cy at x
  unfold Top
  omega
/-- a set of directed lines that has the first one, and goes on round each part and over each line, has all lines at which there is a part -/
theorem all_lines {p : Plan} (h : isPlanM p = true) {S : Int → Int → Prop} (s0 : S 1 0) (s1 : ∀ {s c e}, Tr p s c e → S s e → S c s) (s2 : ∀ {s c e d}, Tr p s c e → Tr p e d s → S s e → S e s) :
    ∀ (k : Nat) {s c e : Int}, Tr p s c e → dep p s e c ≤ k → S s e := by
  intro k
  induction k with
  | zero =>
    intro s c e t hd
    have one : ∀ {s c e : Int}, Tr p s c e → dep p s e c ≤ 0 → Top s c e → S s e := fun {s c e} t hd tp => by
      by_cases r : s = 1 ∧ e = 0
      · obtain ⟨rfl, rfl⟩ := r; exact s0
      · obtain ⟨d, _, q⟩ := ahead h t tp r
        omega
    rcases top_rot h t with z | z | z
    · exact one t hd z
    · exact s1 t.rot.rot (s1 t.rot (one t.rot (by rw [dep_rot]; exact hd) z))
    · exact s1 t.rot.rot (one t.rot.rot (by rw [dep_rot, dep_rot]; exact hd) z)
  | succ k ih =>
    intro s c e t hd
    have one : ∀ {s c e : Int}, Tr p s c e → dep p s e c ≤ k + 1 → Top s c e → S s e := fun {s c e} t hd tp => by
      by_cases r : s = 1 ∧ e = 0
      · obtain ⟨rfl, rfl⟩ := r; exact s0
      · obtain ⟨d, u, q⟩ := ahead h t tp r
        exact s2 u t (ih u (by omega))
    rcases top_rot h t with z | z | z
    · exact one t hd z
    · exact s1 t.rot.rot (s1 t.rot (one t.rot (by rw [dep_rot]; exact hd) z))
    · exact s1 t.rot.rot (one t.rot.rot (by rw [dep_rot, dep_rot]; exact hd) z)
/-! the hands as the program has them -/
def rlS (b : Bool) : Str := if b = true then "r" else "l"
/-- what a dict of hands has: each directed line at which there is a part, with the part's hand -/
def IsHands (p : Plan) (D : Dct (Int × Int) Str) : Prop := ∀ s e, (∀ c, Tr p s c e → look D.l (s, e) = some (rlS (hnd p s e c))) ∧ ((∀ c, ¬ Tr p s c e) → look D.l (s, e) = none)
end Pf

namespace Pf
open PySem PySem.Spec PyProof.Rows L2
/-! ### the hands, as the program finds them -/
abbrev HL := List ((Int × Int) × Str)
theorem look_keys {κ α : Type} [DecidableEq κ] {l : List (κ × α)} {k : κ} : (look l k).isSome = true ↔ k ∈ l.map (·.1) := by
  unfold look
  rw [Option.isSome_map, List.find?_isSome, List.mem_map]
  constructor
  · rintro ⟨e, he, q⟩; exact ⟨e, he, of_decide_eq_true q⟩
  · rintro ⟨e, he, q⟩; exact ⟨e, he, decide_eq_true q⟩
theorem sub_len {α : Type} [DecidableEq α] : ∀ {l m : List α}, l.Nodup → (∀ x ∈ l, x ∈ m) → l.length ≤ m.length
  | [], _, _, _ => Nat.zero_le _
  | x :: l, m, nd, hs => by
    rw [List.nodup_cons] at nd
    have hx := hs x (List.mem_cons_self)
    have ih := sub_len (l := l) (m := m.erase x) nd.2 (fun y hy => (List.mem_erase_of_ne (fun (e : y = x) => nd.1 (by rw [← e]; exact hy))).mpr (hs y (List.mem_cons_of_mem _ hy)))
    rw [List.length_erase_of_mem hx] at ih
    have : 0 < m.length := List.length_pos_of_mem hx
    rw [List.length_cons]
    omega
def Sn (l ws : HL) (s e : Int) : Prop := (look l (s, e)).isSome = true ∨ ∃ h, ((s, e), h) ∈ ws
structure HInv (p : Plan) (l ws : HL) : Prop where
  nd : (l.map (·.1)).Nodup
  ok : ∀ s e h, look l (s, e) = some h → ∃ c, Tr p s c e ∧ h = rlS (hnd p s e c)
  wk : ∀ s e h, ((s, e), h) ∈ ws → (∃ b, h = rlS b) ∧ ∀ c, Tr p s c e → h = rlS (hnd p s e c)
  b0 : Sn l ws 1 0
  b1 : ∀ {s c e}, Tr p s c e → (look l (s, e)).isSome = true → Sn l ws c s
  b2 : ∀ {s c e d}, Tr p s c e → Tr p e d s → (look l (s, e)).isSome = true → Sn l ws e s
theorem HInv.done {p : Plan} (h : isPlanM p = true) {l : HL} (I : HInv p l []) : IsHands p ⟨l⟩ := by
  have sn : ∀ {s e}, Sn l [] s e → (look l (s, e)).isSome = true := fun q => q.elim id (fun ⟨_, z⟩ => nomatch z)
  intro s e
  refine ⟨fun c t => ?_, fun z => ?_⟩
  · have hs : (look l (s, e)).isSome = true := all_lines h (S := fun s e => (look l (s, e)).isSome = true) (sn I.b0) (fun t q => sn (I.b1 t q)) (fun t u q => sn (I.b2 t u q)) _ t (Nat.le_refl _)
    obtain ⟨x, hx⟩ := Option.isSome_iff_exists.mp hs
    obtain ⟨c2, t2, e2⟩ := I.ok s e x hx
    have e3 := t2.uniq h t
    subst e3
    show look l (s, e) = _
    rw [hx, e2]
  · cases q : look l (s, e) with
    | none => rfl
    | some x => obtain ⟨c2, t2, _⟩ := I.ok s e x q; exact absurd t2 (z c2)
theorem HInv.len {p : Plan} (h : isPlanM p = true) {l ws : HL} (I : HInv p l ws) : l.length ≤ (thirdsM p).l.length := by
  have := sub_len (l := l.map (·.1)) (m := (thirdsM p).l.map (·.1)) I.nd (fun k hk => by
    obtain ⟨s, e⟩ := k
    obtain ⟨x, hx⟩ := Option.isSome_iff_exists.mp (look_keys.mpr hk)
    obtain ⟨c, t, _⟩ := I.ok s e x hx
    exact look_keys.mp (by rw [(look_thirds h).mpr t]; rfl))
  rw [List.length_map, List.length_map] at this
  exact this
end Pf

namespace Pf
open PySem PySem.Spec PyProof.Rows L2 LamX
/-! ### lambdas without parameters, handed to a def: errors told at the very state -/
section
variable {X : Cx}
end
end Pf

namespace Pf
open PySem PySem.Spec PyProof.Rows L2 LamX
/-! ### the word for what a lambda's call ended by -/
/-! ### tables of code objects, kept along -/
def NoT (G : Hp) : Prop := ∀ a ps, G a ≠ some (.tbl ps)
theorem NoT.step {M : Addr → Prop} {G H G' H' : Hp} (n : NoT G) (g : Gr M G H G' H') : NoT G' := fun a ps e => by
  rcases g.n a _ e with z | ⟨_, nt⟩
  · exact n a ps z
  · exact nt ps rfl
structure TbAt (G H : Hp) (P : Addr) (q : Str) : Prop where
  nt : NoT G
  out : G P = none
  tab : TabS H P q
theorem codeO_lst {c : Addr} {q : Str} (xs : List V) : CodeO c q ≠ .lst xs := fun z => by unfold CodeO at z; cases z
theorem TbAt.step {M : Addr → Prop} {G H G' H' : Hp} {P : Addr} {q : Str} (t : TbAt G H P q) (g : Gr M G H G' H') (hM : ∀ a, M a → H a = none ∨ ∃ xs, H a = some (.lst xs)) : TbAt G' H' P q := by
  obtain ⟨ps, e1, e2, e3⟩ := t.tab
  have keep : ∀ a o, H a = some o → (∀ xs, o ≠ .lst xs) → H' a = some o := fun a o e no => g.h a o (fun m => by
    rcases hM a m with z | ⟨xs, z⟩
    · rw [z] at e; cases e
    · rw [z] at e; cases e; exact no xs rfl) e
  refine ⟨t.nt.step g, g.out t.out e1, ps, keep _ _ e1 (fun _ z => by cases z), e2, fun pos cv hc => ?_⟩
  obtain ⟨c, z1, z2⟩ := e3 pos cv hc
  exact ⟨c, z1, keep _ _ z2 fun xs => codeO_lst xs⟩
theorem TbAt.step0 {G H G' H' : Hp} {P : Addr} {q : Str} (t : TbAt G H P q) (g : Gr M0 G H G' H') : TbAt G' H' P q := t.step g fun _ z => z.elim
/-! ### a def whose code object is known -/
structure FunC (K : Fg) (x : Str) (st : Stmt) (f : Addr) (fd : FuncData) (c : Addr) : Prop where
  ex : ∃ (oc : Value) (od : Option Addr) (kV doc pm : Value) (an : Option Addr) (ct : Value) (osl : Array (Option Value)),
    fd = PySem.W.fnOf x x (defArgs st) (defBody st) (defScope st) .none kV doc pm an (.ref c) ct ∧ K.lookup f = some ⟨oc, od, .func fd, osl⟩ ∧ PySem.W.codeIn K (.ref c) x = true
theorem FunC.ok {P : Program} {w : World} {K : Fg} {mg : Str → Option Value} {base : Heap} {x : Str} {st : Stmt} {f c : Addr} {fd : FuncData} {N ps : List Str} {k : Nat} {sp : Sp} (F : FunC K x st f fd c) (S : FnScope N ps (defScope st)) (len : ∀ vs H Q E, sp vs H Q E → vs.length = ps.length)
    (hbody : ∀ (A : Around) (outer : List Env) (s : Shared) (H : Hp) (vs : List V) (Q : VK) (E : XK), Room k (A.deeper (envOfC x (defScope st) s.heap.objs.size f (.ref c))) → sp vs H Q E →
      ∃ t, PSs (cxOf CX0 P w K mg base N x (defScope st) f (.ref c) A outer s H E).nox (defBody st) t ∧ t { nx := fun _ H' => Q .non H', rt := Q } (start N vs) H) : FnOk P w K mg base CX0 (k + 1) f fd ps sp := by
  obtain ⟨oc, od, kV, doc, pm, an, ct, osl, rfl, lk, hcd⟩ := F.ex
  refine fn_of lk hcd S len fun A outer s H vs Q E hr hsp => ?_
  obtain ⟨t, h, q⟩ := hbody A outer s H vs Q E hr hsp
  exact ⟨t, h.nox, q⟩
section
variable {α β γ δ : Type} [Rep α] [Rep β] [Rep γ] [Rep δ]
end
end Pf

namespace Pf
open PySem PySem.Spec PyProof.Rows L2
/-! ### a number or None as data; texts as data -/
section
variable {σ : L2.St} {G H : Hp} {te : TE}
end
end Pf

namespace Pf
open PySem PySem.Spec PyProof.Rows L2
/-! ### {k: v}, k a tuple -/
section
variable {prog : Program} {w : World} {κ : Type} [DecidableEq κ] {kn : HeapKind prog w κ} {A : Around} {E : Value → Shared → Prop} {s : Shared}
end
section
variable {κ α : Type} [Rep κ] [TK κ] [DecidableEq κ] [Rep α] {σ : L2.St} {G H : Hp} {ta tb : TE} {D : Ends} {u : TS}
end
end Pf

namespace Pf
open PySem PySem.Spec PyProof.Rows L2
/-! ### round tours -/
/-- how many leaves the stack of a way has -/
def wd (p : Plan) (s : Int × Int) (way : Str) : Int := if way = sE then (s.2 - s.1) % p.1 else (s.1 - s.2) % p.1
/-! all lines of an arc are met -/
end Pf

namespace Pf
open PySem PySem.Spec PyProof.Rows L2
end Pf

namespace Pf
open PySem PySem.Spec PyProof.Rows L2
section
variable {α β γ δ : Type} [Rep α] [Rep β] [Rep γ] [Rep δ] {σ : L2.St} {G H : Hp} {ta tb tc : TE} {K : Fg} {x : α} {x2 : β} {x3 : γ}
end
end Pf

namespace Pf
open PySem PySem.Spec PyProof.Rows L2
section
variable {α β γ : Type} [Rep α] [Rep β] [Rep γ] {σ : L2.St} {G H : Hp} {te ta tb : TE} {tt : TT} {K : Fg} {D : Ends} {ts u : TS}
end
section
variable {κ α : Type} [Rep κ] [TK κ] [DecidableEq κ] [Rep α] {G H : Hp}
theorem Mt.rep {d : Addr} {l : List (κ × α)} (m : Mt G H d l) (i : Same G H) : ∃ o, H d = some o ∧ Same G (upd G d o) ∧ Same (upd G d o) H ∧ Pf.rep (upd G d o) (.ref d) (Dct.mk l) := by
  obtain ⟨h1, kvs, h2, h4⟩ := m
  exact ⟨_, h2, same_new h1, same_still i h2, d, kvs, rfl, upd_same, enr_mono (same_new h1) h4⟩
end
end Pf

namespace Pf
open PySem PySem.Spec PyProof.Rows L2
/-! ### upright places -/
def upM (p : Plan) (t u : Int) : Bool := match thM p u t with
  | some c => hnd p u t c
  | none => match thM p t u with
    | some c => !hnd p t u c
    | none => false
theorem up_a {p : Plan} (h : isPlanM p = true) {t u c : Int} (x : Tr p u c t) : upM p t u = hnd p u t c := by
  unfold upM
  rw [(th_iff h x.se).mpr x]
theorem up_b {p : Plan} (h : isPlanM p = true) {t u c : Int} (x : Tr p t c u) : upM p t u = !hnd p t u c := by
  unfold upM
  cases e : thM p u t with
  | some d =>
    have y := (th_iff h x.se.sym).mp e
    show hnd p u t d = _
    rw [hnd_flip h x y, Bool.not_not, hnd_sw]
  | none =>
    show (match thM p t u with | some c => !hnd p t u c | none => false) = _
    rw [(th_iff h x.se).mpr x]
theorem some_part {p : Plan} (h : isPlanM p = true) {t u : Int} (j : Jn p t u) : (∃ c, Tr p u c t) ∨ ∃ c, Tr p t c u := by
  obtain ⟨a1, a2, a3, a4, a5⟩ := j.ne h
  have h3 := (plan_facts h).1
  by_cases hs : u = t + 1 ∨ (t = p.1 - 1 ∧ u = 0)
  · exact .inl (tr_ex h j.sym (by omega))
  · exact .inr (tr_ex h j hs)
theorem up_sw {p : Plan} (h : isPlanM p = true) {t u : Int} (j : Jn p t u) : upM p u t = !upM p t u := by
  rcases some_part h j with ⟨c, x⟩ | ⟨c, x⟩
  · rw [up_a h x, up_b h x]
  · rw [up_b h x, up_a h x, Bool.not_not]
theorem up_01 {p : Plan} (h : isPlanM p = true) : upM p 0 1 = true := by
  obtain ⟨c, x⟩ := tr_root h
  rw [up_a h x, hnd_sw, hnd_root h]
/-- pinched and unpinched a paper stays upright, or not -/
theorem up_pinch {p : Plan} (h : isPlanM p = true) {t u c : Int} (way : Str) (j : Jn p t u) (e : thW p (t, u) way = some c) : upM p c t = upM p t u ∧ upM p u c = upM p t u := by
  rcases (th_some h j).mp e with ⟨_, x⟩ | ⟨_, x⟩
  · have x : Tr p t c u := x
    rw [up_b h x, up_b h x.rot, up_b h x.rot.rot, hnd_rot p c t u, hnd_rot p u c t, hnd_rot p c t u]
    exact ⟨rfl, rfl⟩
  · have x : Tr p u c t := x
    rw [up_a h x, up_a h x.rot, up_a h x.rot.rot]
    refine ⟨?_, ?_⟩
    · rw [hnd_rot p t c u, hnd_rot p c u t]
    · rw [hnd_rot p c u t]
theorem hnd_sw2 (p : Plan) (a b c : Int) : hnd p a b c = hnd p a c b := (hnd_rot p a b c).trans ((hnd_sw p b c a).trans ((hnd_rot p c b a).trans (hnd_rot p b a c)))
theorem dep_sw2 (p : Plan) (a b c : Int) : dep p a b c = dep p a c b := (dep_rot p a b c).trans ((dep_sw p b c a).trans ((dep_rot p c b a).trans (dep_rot p b a c)))
/-! ### parts as triples -/
abbrev hT (p : Plan) (t : T3) : Bool := hnd p t.a t.b t.c
abbrev dT3 (p : Plan) (t : T3) : Nat := dep p t.a t.b t.c
def el (t : T3) : List Int := [t.a, t.b, t.c]
theorem part_tr {p : Plan} (h : isPlanM p = true) {t : T3} (m : t ∈ partsM p) : t.a < t.b ∧ t.b < t.c ∧ Tr p t.a t.b t.c := by
  obtain ⟨m1, m2, m3, m4, m5⟩ := (mem_parts h).mp m
  exact ⟨m1, m2, .inl ⟨m1, m2⟩, m4, m3, m5⟩
theorem tr_part {p : Plan} (h : isPlanM p = true) {s c e : Int} (x : Tr p s c e) : ∃ t ∈ partsM p, hT p t = hnd p s e c ∧ dT3 p t = dep p s e c ∧ ∀ y, y ∈ el t ↔ y = s ∨ y = c ∨ y = e := by
  have cy := x.cy
  unfold Cy at cy
  rcases cy with cy | cy | cy
  · refine ⟨⟨s, c, e⟩, (mem_parts h).mpr ⟨cy.1, cy.2, x.sv, x.se, x.ve⟩, ?_, ?_, fun y => by simp [el]⟩
    · show hnd p s c e = hnd p s e c
      exact hnd_sw2 p s c e
    · show dep p s c e = dep p s e c
      exact dep_sw2 p s c e
  · refine ⟨⟨c, e, s⟩, (mem_parts h).mpr ⟨cy.1, cy.2, x.ve, x.sv.sym, x.se.sym⟩, ?_, ?_, fun y => by simp [el]; omega⟩
    · show hnd p c e s = hnd p s e c
      rw [hnd_sw p c e s, hnd_rot p e c s, hnd_rot p c s e]
    · show dep p c e s = dep p s e c
      rw [dep_sw p c e s, dep_rot p e c s, dep_rot p c s e]
  · refine ⟨⟨e, s, c⟩, (mem_parts h).mpr ⟨cy.1, cy.2, x.se.sym, x.ve.sym, x.sv⟩, ?_, ?_, fun y => by simp [el]; omega⟩
    · show hnd p e s c = hnd p s e c
      rw [hnd_sw]
    · show dep p e s c = dep p s e c
      rw [dep_sw]
end Pf

namespace Pf
open PySem PySem.Spec PyProof.Rows L2
section
variable {α β : Type} [Rep α] [Rep β] {σ : L2.St} {G H : Hp} {ta tb : TE} {K : Fg}
theorem paired_strs {G : Hp} : ∀ {vs : List V} {xs : List Str}, Paired (rep G) vs xs → vs = xs.map V.str
  | _, _, .nil => rfl
  | _, _, .cons r t => by rw [rep_str r, paired_strs t]; rfl
theorem Bag.same {H' : Hp} {b : Addr} (x : Bag G H b) (s : Same H H') : Bag G H' b := by
  obtain ⟨n, cv, c1, c2, c3, cells, e, r⟩ := x
  exact ⟨n, cv, c1, c2, c3, cells, s _ _ e, r⟩
end
end Pf

namespace Pf
open PySem PySem.Spec PyProof.Rows L2
section
variable {σ : L2.St} {G H : Hp} {ta tb : TE} {K : Fg}
end
/-! ### the hands as the law finds them -/
structure IsHL (p : Plan) (l : List (T3 × Bool)) : Prop where
  ok : ∀ t b, look l t = some b → t ∈ partsM p ∧ b = hT p t
theorem IsHL.put {p : Plan} {l : List (T3 × Bool)} (I : IsHL p l) {t : T3} (m : t ∈ partsM p) : IsHL p (put l t (hT p t)) := ⟨fun t2 b h => by
  rw [look_put] at h
  by_cases e : t2 = t
  · subst e
    rw [if_pos rfl] at h
    cases h
    exact ⟨m, rfl⟩
  · rw [if_neg e] at h
    exact I.ok t2 b h⟩
end Pf

namespace Pf
open PySem PySem.Spec PyProof.Rows L2 LamX
/-! ### lambdas without parameters that are kept (in a list), and called by a name of the same def -/
def LamO (a : Addr) (u : Obj) : HO := .ext fun hp => hp.get? a = some u
structure LamP where
  ps : Arguments
  bd : Expr
  sc : Scope
abbrev lamObj (X : Env) (m : LamP) (lc : Addr) (y1 y2 : Value) : Obj := PySem.W.kla_obj "<lambda>" (X.qual ++ "<lambda>") m.ps m.bd m.sc (cloFrom X.cells m.sc.names []) y1 lc y2
def IsLam (X : Env) (m : LamP) (lf : Addr) (H : Hp) : Prop := ∃ (lc : Addr) (y1 y2 : Value), H lc = some (CodeO lc (X.qual ++ "<lambda>")) ∧ H lf = some (LamO lf (lamObj X m lc y1 y2))
/-- all but the table stays -/
def StP (PT : Addr) (H H' : Hp) : Prop := ∀ b o, b ≠ PT → H b = some o → H' b = some o
theorem StP.refl {PT : Addr} {H : Hp} : StP PT H H := fun _ _ _ h => h
theorem StP.trans {PT : Addr} {H H1 H2 : Hp} (a : StP PT H H1) (b : StP PT H1 H2) : StP PT H H2 := fun c o n h => b c o n (a c o n h)
section
variable {X : Cx}
theorem lamO_tbl {a : Addr} {u : Obj} (ps : Array Value) : LamO a u ≠ .tbl ps := fun z => by unfold LamO at z; cases z
end
/-! lists of lambdas -/
section
variable {X : Cx}
theorem IsLam.st {X : Env} {m : LamP} {lf PT : Addr} {q : Str} {H H' : Hp} (h : IsLam X m lf H) (t : TabS H PT q) (x : StP PT H H') : IsLam X m lf H' := by
  obtain ⟨lc, y1, y2, h1, h2⟩ := h
  obtain ⟨ps, e, _⟩ := t
  exact ⟨lc, y1, y2, x _ _ (fun z => by rw [z, e] at h1; exact codeO_ne ps (Option.some.inj h1).symm) h1, x _ _ (fun z => by rw [z, e] at h2; exact lamO_tbl ps (Option.some.inj h2).symm) h2⟩
theorem IsLam.same {X : Env} {m : LamP} {lf : Addr} {H H' : Hp} (h : IsLam X m lf H) (x : Same H H') : IsLam X m lf H' := by
  obtain ⟨lc, y1, y2, h1, h2⟩ := h
  exact ⟨lc, y1, y2, x _ _ h1, x _ _ h2⟩
end
/-! ### the table kept along, by its own address -/
abbrev Mp (PT : Addr) : Addr → Prop := fun a => a = PT
theorem StP.gr {PT : Addr} {q : Str} {G H H1 : Hp} (x : StP PT H H1) (t : TbAt G H PT q) (s : Same G H) : Gr (Mp PT) G H G H1 :=
  ⟨Same.refl G, fun a o e => x a o (fun z => by rw [z, t.out] at e; cases e) (s a o e), fun a o m e => x a o m e, fun a o e => .inl e⟩
section
variable {α β : Type} [Rep α] [Rep β] {σ : L2.St} {G H : Hp} {te : TE} {g : TG}
end
end Pf

namespace Pf
open PySem PySem.Spec PyProof.Rows L2
/-! ### texts -/
/-- a text of these signs -/
abbrev tx (l : List Nat) : Str := ⟨l.toArray⟩
theorem tx_len (l : List Nat) : (tx l).length = l.length := List.size_toArray
theorem tx_add (a b : List Nat) : (tx a ++ tx b : Str) = tx (a ++ b) := by
  show (⟨a.toArray ++ b.toArray⟩ : Str) = ⟨(a ++ b).toArray⟩
  rw [List.append_toArray]
section
variable {σ : L2.St} {G : Hp} {ta tb te : TE} {K : Fg}
abbrev rCatS : R2 := fun x y H Q => ∃ i j, x = .str i ∧ y = .str j ∧ i.length + j.length ≤ sizeLine ∧ Q (.str (i ++ j)) H
theorem ev_addS {x y : Str} (ha : Ev ta σ G x) (hb : Ev tb σ G y) (h : x.length + y.length ≤ 100000) : Ev (tOp rCatS ta tb) σ G (x ++ y) :=
  ev2 ha hb fun v u G' _ k1 k2 H i Q q => ⟨x, y, k1, k2, sl_small h, q _ G' H (Gr.refl i) rfl⟩
abbrev rLenS : List V → Hp → VK → Prop := fun xs H Q => ∃ z, xs = [.str z] ∧ z.length ≤ sizeLine ∧ Q (.int z.length) H
theorem ev_lenS {z : Str} (ha : Ev ta σ G z) (h : z.length ≤ 100000) : Ev (tCB rLenS (tCons ta tNil)) σ G (z.length : Int) := ev_B1 ha fun v G' H _ i k Q q => ⟨z, by rw [rep_str k], sl_small h, q _ G' H (Gr.refl i) rfl⟩
theorem ev_ixS {z : Str} {n : Int} {c : Nat} (ha : Ev ta σ G z) (hb : Ev tb σ G n) (hz : z.length ≤ 100000) (h : atI z.cps.toList n = some c) : Ev (tOp rIxS ta tb) σ G (⟨#[c]⟩ : Str) :=
  ev2 ha hb fun v u G' _ k1 k2 H i Q q => ⟨z, n, c, k1, k2, sl_small hz, h, q _ G' H (Gr.refl i) rfl⟩
theorem ev_slS {z : Str} {tl th : TO} {lo hi : Option Int} (ha : Ev ta σ G z) (hl : EvO tl σ G lo) (hh : EvO th σ G hi) (hz : z.length ≤ 100000) : Ev (tSl rSlS ta tl th) σ G (cutS z lo hi) := fun H i Q q =>
  ha H i _ fun v G1 H1 g1 k1 => (hl.mono g1.g) H1 g1.i _ fun G2 H2 g2 => (hh.mono (g1.g.trans g2.g)) H2 g2.i _ fun G3 H3 g3 =>
    ⟨z, rep_str k1, sl_small hz, q _ G3 H3 ((g1.trans g2).trans g3) rfl⟩
end
/-! ### rows -/
/-! ### a def whose code object is known, and what is bound -/
structure TxC (K : Fg) (mg : Str → Option Value) (x : Str) (ps : List Str) (st : Stmt) (c : Addr) : Prop where
  ex : ∃ f fd, FunC K x st f fd c ∧ Binds K fd ps [] ∧ PySem.W.keepIn K (.ref f) = true ∧ mg x = some (.ref f)
theorem TxC.ok {P : Program} {w : World} {K : Fg} {mg : Str → Option Value} {base : Heap} {x : Str} {st : Stmt} {c : Addr} {N ps : List Str} {k : Nat} {sp : Sp} (T : TxC K mg x ps st c) (S : FnScope N ps (defScope st)) (len : ∀ vs H Q E, sp vs H Q E → vs.length = ps.length)
    (hbody : ∀ (f : Addr) (A : Around) (outer : List Env) (s : Shared) (H : Hp) (vs : List V) (Q : VK) (E : XK), Room k (A.deeper (envOfC x (defScope st) s.heap.objs.size f (.ref c))) → sp vs H Q E →
      ∃ t, PSs (cxOf CX0 P w K mg base N x (defScope st) f (.ref c) A outer s H E).nox (defBody st) t ∧ t { nx := fun _ H' => Q .non H', rt := Q } (start N vs) H) : Df P w K mg base (k + 1) x ps sp := by
  obtain ⟨f, fd, F, b, kp, m⟩ := T.ex
  exact ⟨f, fd, F.ok S len fun A outer s H vs Q E hr h => hbody f A outer s H vs Q E hr h, b, kp, m⟩
end Pf

namespace Pf
open PySem PySem.Spec PyProof.Rows L2
/-! ### rows of plans -/
/-- the hand of a leaf: that of the part at its side -/
def leafH (p : Plan) (k : Int) : Bool := match thM p ((k + 1) % p.1) k with
  | some c => hnd p ((k + 1) % p.1) k c
  | none => true
theorem leaf_part {p : Plan} (h : isPlanM p = true) {k : Int} (hk : 0 ≤ k ∧ k < p.1) : ∃ c, Tr p ((k + 1) % p.1) c k ∧ leafH p k = hnd p ((k + 1) % p.1) k c := by
  have h3 := (plan_facts h).1
  have j := jn_next h hk
  have hm : (k + 1) % p.1 = if k + 1 < p.1 then k + 1 else k + 1 - p.1 := wrap (by omega) (by omega)
  obtain ⟨c, x⟩ := tr_ex h j.sym (by rw [hm]; split <;> omega)
  refine ⟨c, x, ?_⟩
  unfold leafH
  rw [(th_iff h x.se).mpr x]
def sg (b : Bool) : Int := if b = true then 1 else -1
def rl (b : Bool) : Nat := if b = true then 114 else 108
def rowL (p : Plan) : List Nat := (ordM p).map fun k => rl (leafH p k)
def rowM (p : Plan) : Str := tx (rowL p)
section
variable {σ : L2.St} {G H : Hp} {ta tb : TE} {K : Fg}
abbrev rJoin (K : Fg) : V → List V → Hp → VK → Prop := fun x xs H Q => ∃ a p, ∃ ys : List Str, x = .str a ∧ xs = [.ref p] ∧ (SqL K H p (ys.map V.str) ∨ SqT K H p (ys.map V.str)) ∧ (ys.map (·.length)).sum + ys.length * a.length ≤ 16777216 ∧ Q (.str (Txt.join a ys)) H
theorem mt_joinK {X : Cx} (h : X.K = K) : MtR X "str.join" (rJoin K) := h ▸ mt_join
end
end Pf

namespace Pf
open PySem PySem.Spec PyProof.Rows L2
/-! ### defs that refuse what is no plan -/
theorem TxD.okX {P : Program} {w : World} {K : Fg} {mg : Str → Option Value} {base : Heap} {x y : Str} {st : Stmt} {N ps : List Str} {k n : Nat} {dv : V} {sp : Sp} (T : TxD K mg x ps y st n dv) (S : FnScope N ps (defScope st)) (len : ∀ vs H Q E, sp vs H Q E → vs.length = ps.length)
    (hbody : ∀ (cdv : Value) (f : Addr) (A : Around) (outer : List Env) (s : Shared) (H : Hp) (vs : List V) (Q : VK) (E : XK), Room k (A.deeper (envOfC x (defScope st) s.heap.objs.size f cdv)) → sp vs H Q E →
      ∃ t, PSs (cxOf (L2N.CX P w) P w K mg base N x (defScope st) f cdv A outer s H E) (defBody st) t ∧ t { nx := fun _ H' => Q .non H', rt := Q } (start N vs) H) : DfX P w K mg base (k + 1) x ps sp := by
  obtain ⟨f, fd, F, b, b1, b2, m⟩ := T.ex
  exact ⟨f, fd, F.ok S len fun cdv A outer s H vs Q E hr h => hbody cdv f A outer s H vs Q E hr h, b, F.kp, m⟩
theorem len_two {α : Type} : ∀ {l : List α}, l.length = 2 → ∃ a b, l = [a, b]
  | [a, b], _ => ⟨a, b, rfl⟩
/-- a def that is never called -/
def spNo : Sp := fun _ _ _ _ => False
theorem Tx.no {P : Program} {w : World} {K : Fg} {mg : Str → Option Value} {base : Heap} {x : Str} {st : Stmt} {N ps : List Str} (T : Tx K mg x ps st) (S : FnScope N ps (defScope st)) : DfX P w K mg base 1 x ps spNo := T.okX S (fun _ _ _ _ h => h.elim) (fun _ _ _ _ _ _ _ _ _ _ h => h.elim)
section
variable {α : Type} [Rep α] {σ : L2.St} {G H : Hp} {te ta tb : TE} {tr : TA} {W : WX} {Q : VK}
theorem sq_tri {α β γ : Type} [Rep α] [Rep β] [Rep γ] {K : Fg} {x : Tri α β γ} {i j l : Nat} {u : TS} {D : Ends} (h : Ev te σ G x) (s : Same G H) (k : ∀ v w z G' H', Gr M0 G H G' H' → rep G' v x.a → rep G' w x.b → rep G' z x.c → u D (((σ.set i (some v)).set j (some w)).set l (some z)) H') :
    tSeq (tAsg te (gTup K 3 (gCons (gName i) (gCons (gName j) (gCons (gName l) gNil))))) u D σ H := h H s _ fun v G' H' g r => by
  obtain ⟨a, u1, w, z, rfl, h2, h3, h4, h5⟩ := r
  exact ⟨a, [u1, w, z], rfl, .inl (.inl (g.i _ _ h2)), rfl, u1, [w, z], rfl, w, [z], rfl, z, [], rfl, rfl, k u1 w z G' H' g h3 h4 h5⟩
/-- n values, whatever they are -/
def EvV (tr : TA) (n : Nat) (σ : L2.St) (G : Hp) : Prop := ∀ H, Same G H → ∀ Q : List V → Hp → Prop, (∀ vs G' H', Gr M0 G H G' H' → vs.length = n → Q vs H') → tr σ H Q
theorem EvV.mono {G1 : Hp} {n : Nat} (h : EvV tr n σ G) (e : Same G G1) : EvV tr n σ G1 := fun H i Q q => h H (e.trans i) Q fun vs G' H' g k => q vs (uni G' G1) H' (gr_up e i g) k
end
end Pf

namespace Pf
open PySem PySem.Spec PySem.W PyProof.Rows L2
/-! ### first, *rest = a list -/
section
variable {prog : Program} {w : World} {A : Around} {E : Value → Shared → Prop} {s : Shared}
theorem iter_known {l : Addr} {items : Array Value} (hL : s.heap.IsList l items) : wpAny (model prog w) A (notIterableAtAll (.ref l)) (fun b s1 => b = false ∧ s1 = s) E s := by
  unfold notIterableAtAll
  exact wpAny_bind (wpAny_specialOf hL.typeIs slot_list_iter.lookup (wpAny_pure ⟨rfl, rfl⟩))
theorem unp_star {l : Addr} {items : Array Value} {Q : List Value → Shared → Prop} (hL : s.heap.IsList l items) (hA : A.handled = none) (h1 : 1 ≤ items.size) (hz : items.size ≤ 16384)
    (fin : ∀ (h' : Heap) (tk : Nat), (∀ b o, s.heap.get? b = some o → h'.get? b = some o) → s.heap.get? h'.objs.size = none → Q (items.toList.take 1 ++ [.ref h'.objs.size]) { s with heap := h'.push { cls := .type "list", data := .seq (items.toList.drop 1).toArray }, toks := tk }) :
    wpAny (model prog w) A (unpackItems (.ref l) 2 (some 1)) Q E s := by
  have hlo : ∃ o, s.heap.get? l = some o := by obtain ⟨o, ho, _⟩ := hL; exact ⟨o, ho⟩
  obtain ⟨o0, ho0⟩ := hlo
  have il : l < s.heap.objs.size := Heap.lt_size ho0
  have ne : l ≠ s.heap.objs.size := Nat.ne_of_lt il
  unfold unpackItems
  refine wpAny_bind (wpAny_mono (iter_known hL) (fun b s1 hb => ?_) fun _ _ e => e)
  obtain ⟨rfl, rfl⟩ := hb
  simp only [Bool.false_eq_true, if_false]
  refine wpAny_bind (wpAny_holding (wpAny_pyIter_list hL ?_))
  refine wpAny_bind (wpAny_holding (kun_draw ne 1 0 _ _ ⟨_, Heap.get?_push_size _ rfl, rfl, rfl⟩ (hL.push _) (by omega) fun ha ita sba => ?_))
  have la : ha.IsList l items := (hL.push _).extBut sba.extBut ne
  rw [Nat.zero_add] at ita
  have ita' := ita
  obtain ⟨oi, hoi, _⟩ := ita'
  have la' := la
  obtain ⟨ol, hol, _⟩ := la'
  rw [List.drop_zero]
  have fl : (items.toList.take 1).length = 1 := by rw [List.length_take, Array.length_toList]; omega
  rw [if_neg (show ¬ ((items.toList.take 1).length < 1) by omega)]
  refine wpAny_bind (wpAny_holding (kun_collect (s := { s1 with heap := ha }) (T := "list_iterator") (.inr (.inr (.inl rfl))) (Walks.list (A := A.in1) hA s1.heap.objs.size l ne items) (fun j u st => st.1.typeIs) (k := 1) (by omega) ⟨ita, la⟩ (Heap.lt_size hoi) (Heap.lt_size hol) (fun hb tk hk => ?_) (by rw [sizeLine_eq]; omega)))
  have rl : (items.toList.drop 1).length = items.size - 1 := by rw [List.length_drop, Array.length_toList]
  show wpAny _ _ (if (items.toList.drop 1).length < 0 then _ else _) _ _ _
  rw [if_neg (Nat.not_lt_zero _)]
  show wpAny _ _ (newList ((items.toList.drop 1).take ((items.toList.drop 1).length - 0)) >>= fun d => pure (items.toList.take 1 ++ [d] ++ (items.toList.drop 1).drop ((items.toList.drop 1).length - 0))) _ _ _
  rw [Nat.sub_zero, List.take_length, List.drop_length, ]
  have keep : ∀ b o, s1.heap.get? b = some o → hb.get? b = some o := fun b o e => hk b o (Nat.ne_of_lt (Heap.lt_size e)) (sba.extBut b o (Nat.ne_of_lt (Heap.lt_size e)) (Heap.get?_push_of_some _ e))
  have grow : s1.heap.get? hb.objs.size = none := by
    cases e : s1.heap.get? hb.objs.size with
    | none => rfl
    | some o => exact absurd (Heap.lt_size (keep _ _ e)) (Nat.lt_irrefl _)
  refine wpAny_bind (wpAny_newList (wpAny_pure ?_) (by rw [rl, sizeLine_eq]; omega))
  rw [List.append_nil]
  exact fin hb tk keep grow
end

section
variable {X : Cx} {pos p2 : Pos} {e1 e2 : Expr}
theorem pgs_starred {e : Expr} {es : List Expr} {t : TG} {u : TGs} (g1 : PG X e t) (g2 : PGs X es u) : PGs X (.Starred e p2 :: es) (gCons t u) := by
  refine ⟨fun pins s σ H vs us Q I r hh => ?_⟩
  obtain ⟨v, vr, rfl, hh⟩ := hh
  cases r with
  | cons ra rb => exact assignInOrder_cons (thn (g1.run pins s σ H _ _ _ I ra hh) fun _ s1 ⟨σ1, H1, I1, q1⟩ => g2.run pins s1 σ1 H1 _ _ Q I1 rb q1)
/-- first, *rest = a list that isn't empty -/
def gStarL (K : Fg) (t : TGs) : TG := fun v σ H Q => ∃ a x xs, v = .ref a ∧ SqL K H a (x :: xs) ∧ xs.length ≤ 10000 ∧ ∀ p, H p = none → t [x, .ref p] σ (upd H p (.lst xs)) Q
theorem pg_starL {K : Fg} {k : Nat} {t : TGs} (hK : X.K = K) (hc : X.calm = true) (h : PGs X [e1, .Starred e2 p2] t) (hn : (assignEach [e1, .Starred e2 p2] X.env).length = 2 := by rfl) (hst : (assignEach [e1, .Starred e2 p2] X.env).findIdx? (·.1) = some 1 := by rfl) : PG X (.Tuple [e1, .Starred e2 p2] k pos) (gStarL K t) := by
  subst hK
  refine ⟨fun pins s σ H v u Q I r hw => ?_⟩
  obtain ⟨a, x, xs, rfl, hq, hl, hw⟩ := hw
  cases r
  obtain ⟨its, rv, ht, hz⟩ := I.list hq
  cases rv with
  | @cons _ u0 _ us r0 r1 =>
    have lus := r1.length
    rw [assign_Tuple]
    refine wpAny_bind (wpAny_standAt ?_)
    unfold unpack
    rw [hn, hst]
    refine wpAny_bind (wpAny_holding (unp_star ht.isList (I.ok.hd hc) (by simp) (by simp; omega) fun h' tk kp fr => ?_))
    have hn0 := I.hok.gone fr
    have I1 := I.laidN (h' := h'.push { cls := .type "list", data := .seq us.toArray }) (a := h'.objs.size) (o := .lst xs) (t' := tk) (fun b o e => Heap.get?_push_of_some _ (kp b o e)) fr hn0 ⟨sl_small (by omega), us, 0, r1, Heap.get?_push_size _ rfl⟩
    exact h.run pins _ σ _ [x, .ref h'.objs.size] _ Q I1 (.cons r0 (.cons rfl .nil)) (hw _ hn0)
end
/-! ### x in a dict of the module -/
def rInKD (K : Fg) (w : World) (neg : Bool) : R2 := fun x y H Q => ∃ p z, x = .str z ∧ y = .ref p ∧ (p == sysModules) = false ∧ (((∃ v, KDct K w p z v) ∧ Q (.bl (!neg)) H) ∨ (KMiss K w p z ∧ Q (.bl neg) H))
section
variable {X : Cx} {K : Fg} {w : World}
theorem op_notInKD (hK : X.K = K) (hw : X.w = w) : OpR X (compareOp .NotIn) (rInKD K w true) := by
  subst hK hw
  intro pins s σ H x y v u Q I rx ry h
  obtain ⟨p, z, rfl, rfl, hp, h⟩ := h
  obtain ⟨t, rfl⟩ := rx
  obtain rfl : u = Value.ref p := ry
  rcases h with ⟨⟨v0, es, n, u0, hl, hk, e, _⟩, q⟩ | ⟨⟨es, n, hl, hk, _, e⟩, q⟩
  · have hm := PySem.W.mapOf_K (prog := X.prog) (w := X.w) I.kIn hl hk
    refine wpAny_notIn_of (strKind_is X.prog X.w z t) hp hm ⟨.bl false, H, I.tok _, ?_, q⟩
    rw [PySem.W.find_K hl e]; rfl
  · have hm := PySem.W.mapOf_K (prog := X.prog) (w := X.w) I.kIn hl hk
    refine wpAny_notIn_of (strKind_is X.prog X.w z t) hp hm ⟨.bl true, H, I.tok _, ?_, q⟩
    rw [PySem.W.find_K hl e]; rfl
theorem pa_starK {e : Expr} {p : Pos} {es : List Expr} {te : TE} {t : TA} (hK : X.K = K) (he : PE X e te) (hr : PA X es t) (hs : starEach (.Starred e p :: es) X.env = (true, eval e X.env) :: starEach es X.env := by rfl) : PA X (.Starred e p :: es) (StX.tStar K te t) := hK ▸ StX.pa_star he hr hs
/-! ### str(x) of a text or a whole number; int(text) -/
def rStrT : List V → Hp → VK → Prop := fun xs H Q => (∃ i : Int, xs = [.int i] ∧ i.natAbs.log2 < 1920 ∧ Q (.str (toString i)) H) ∨ ∃ a, xs = [.str a] ∧ Q (.str a) H
theorem call_strT : CallR X (.type "str") rStrT := by
  intro pins s σ H vs us Q I r h
  rcases h with h | h
  · exact call_str_int pins s σ H vs us Q I r h
  · exact SkE.call_str_str pins s σ H vs us Q I r h
abbrev rIntT : List V → Hp → VK → Prop := fun xs H Q => ∃ a n, xs = [.str a] ∧ PySem.intText? a = some n ∧ a.length ≤ 640 ∧ Q (.int n) H
/-! ### a def that stands in a name of the def: the promise comes with the value -/
theorem Df.held {P : Program} {mg : Str → Option Value} {base : Heap} {k : Nat} {x : Str} {ps : List Str} {sp : Sp} {f : Addr} (D : Df P w K mg base k x ps sp) (e : mg x = some (.ref f)) : Held P w K mg base k f sp := by
  obtain ⟨f2, fd, F, b, kp, m⟩ := D.ex
  rw [e] at m
  cases m
  exact ⟨fd, ps, F, kp, b⟩
end
end Pf

namespace Pf
open PySem PySem.Spec PyProof.Rows L2
open TL (tl numL)
/-! ### texts of numbers, split and joined -/
def numS (i : Int) : Str := Str.ofString (toString i)
theorem tl_numS {n : Int} (h : 0 ≤ n) : tl (numS n) = numL n.toNat := by
  obtain ⟨k, rfl⟩ : ∃ k : Nat, n = (k : Int) := ⟨n.toNat, by omega⟩
  exact TL.tl_num k
theorem log_ok {n : Int} (h0 : 0 ≤ n) (h1 : n ≤ 99999) : n.natAbs.log2 < 1920 := by
  by_cases e : n.natAbs = 0
  · rw [e]; decide
  · have : n.natAbs < 2 ^ 17 := by omega
    exact Nat.lt_of_lt_of_le ((Nat.log2_lt e).mpr this) (by decide)
theorem paired_strs2 {G : Hp} : ∀ ys : List Str, Paired (rep G) (ys.map V.str) ys
  | [] => .nil
  | y :: ys => .cons rfl (paired_strs2 ys)
section
variable {σ : L2.St} {G H : Hp} {ta tb te tc : TE} {K : Fg} {D : Ends} {u : TS} {ts : List TE}
theorem ev_numS {i : Int} (h : Ev ta σ G i) (hz : i.natAbs.log2 < 1920) : Ev (tCB rStrT (tCons ta tNil)) σ G (numS i) := ev_B1 h fun v G' H _ j k Q q => .inl ⟨i, by rw [rep_int k], hz, q _ G' H (Gr.refl j) rfl⟩
theorem ev_strS {z : Str} (h : Ev ta σ G z) : Ev (tCB rStrT (tCons ta tNil)) σ G z := ev_B1 h fun v G' H _ j k Q q => .inr ⟨z, by rw [rep_str k], q _ G' H (Gr.refl j) rfl⟩
theorem ev_intS {z : Str} {n : Int} (h : Ev ta σ G z) (e : PySem.intText? z = some n) (hl : z.length ≤ 640) : Ev (tCB rIntT (tCons ta tNil)) σ G n := ev_B1 h fun v G' H _ j k Q q => ⟨z, n, by rw [rep_str k], e, hl, q _ G' H (Gr.refl j) rfl⟩
def lenSum (ys : List Str) : Nat := (ys.map (·.length)).sum
def EvJ (ts : List TE) (σ : L2.St) (G : Hp) (ys : List Str) : Prop := ∀ H, Same G H → ∀ (acc : Str) (Q : Str → Hp → Prop), acc.length + lenSum ys ≤ 100000 → (∀ G' H', Gr M0 G H G' H' → Q (ys.foldl (fun a y => a ++ y) acc) H') → tJs ts acc σ H Q
theorem EvJ.mono {G1 : Hp} {ys : List Str} (h : EvJ ts σ G ys) (e : Same G G1) : EvJ ts σ G1 ys := fun H i acc Q hl q => h H (e.trans i) acc Q hl fun G' H' g => q (uni G' G1) H' (gr_up e i g)
theorem app_len (a b : Str) : (a ++ b).length = a.length + b.length := by rw [TL.len_tl, TL.tl_append, List.length_append, ← TL.len_tl, ← TL.len_tl]
abbrev rSplitS : V → List V → Hp → VK → Prop := fun x xs H Q => ∃ a b, x = .str a ∧ xs = [.str b] ∧ (b.length == 0) = false ∧ a.length + 2 ≤ sizeLine ∧ rNewStrs (Txt.split a b) H Q
theorem ev_splitS {a b : Str} (ha : Ev ta σ G a) (hb : Ev tb σ G b) (hne : (b.length == 0) = false) (hl : a.length ≤ 90000) : Ev (tM1 rSplitS ta tb) σ G (Txt.split a b) := fun H i Q q =>
  ha H i _ fun v G1 H1 g1 k1 => ⟨⟨a, rep_str k1⟩, (hb.mono g1.g) H1 g1.i _ fun w G2 H2 g2 k2 => ⟨a, b, rep_str k1, by rw [rep_str k2], hne, sl_small (by omega), fun p np => q _ (upd G2 p (.lst ((Txt.split a b).map V.str))) _ ((g1.trans g2).trans (gr_new g2.i np)) ⟨p, _, rfl, upd_same, paired_strs2 _⟩⟩⟩
abbrev rPartS : V → List V → Hp → VK → Prop := fun x xs H Q => ∃ a b, x = .str a ∧ xs = [.str b] ∧ (b.length == 0) = false ∧ a.length ≤ sizeLine ∧ ∀ p, H p = none → Q (.ref p) (upd H p (.tup [.str (Txt.partition a b).1, .str (Txt.partition a b).2.1, .str (Txt.partition a b).2.2]))
theorem ev_partS {a b : Str} (ha : Ev ta σ G a) (hb : Ev tb σ G b) (hne : (b.length == 0) = false) (hl : a.length ≤ 90000) : Ev (tM1 rPartS ta tb) σ G (Tri.mk (Txt.partition a b).1 (Txt.partition a b).2.1 (Txt.partition a b).2.2 : Tri Str Str Str) := fun H i Q q =>
  ha H i _ fun v G1 H1 g1 k1 => ⟨⟨a, rep_str k1⟩, (hb.mono g1.g) H1 g1.i _ fun w G2 H2 g2 k2 => ⟨a, b, rep_str k1, by rw [rep_str k2], hne, sl_small (by omega), fun p np => q _ (upd G2 p _) _ ((g1.trans g2).trans (gr_new g2.i np)) ⟨p, _, _, _, rfl, upd_same, rfl, rfl, rfl⟩⟩⟩
theorem ev_joinS {a : Str} {ys : List Str} (hb : Ev tb σ G ys) (hz : lenSum ys + ys.length * a.length ≤ 100000) : Ev (tBM K "str" (rJoin K) (tC (.str a)) (tCons tb tNil)) σ G (Txt.join a ys) := fun H i Q q =>
  ⟨rfl, hb H i _ fun v G2 H2 g2 k2 => by
    obtain ⟨p, vs, rfl, h2, h3⟩ := k2
    rw [paired_strs h3] at h2
    exact ⟨a, p, ys, rfl, rfl, .inl (.inl (.inl (g2.i _ _ h2))), by unfold lenSum at hz; omega, q _ G2 H2 g2 rfl⟩⟩
theorem sq_starL {α : Type} [Rep α] {i j : Nat} {x : α} {xs : List α} (h : Ev te σ G (x :: xs)) (s : Same G H) (hl : xs.length ≤ 10000) (k : ∀ v p G' H', Gr M0 G H G' H' → rep G' v x → rep G' (.ref p) xs → u D ((σ.set i (some v)).set j (some (.ref p))) H') :
    tSeq (tAsg te (gStarL K (gCons (gName i) (gCons (gName j) gNil)))) u D σ H := h H s _ fun v G' H' g r => by
  obtain ⟨a, vs, rfl, e, pr⟩ := r
  cases pr with
  | cons r1 r2 => exact ⟨a, _, _, rfl, .inl (.inl (g.i _ _ e)), by rw [paired_len r2]; exact hl, fun p np => ⟨_, _, rfl, _, _, rfl, rfl, k _ p (upd G' p (.lst _)) _ (g.trans (gr_new g.i np)) (Rep.mono (gr_new (o := .lst _) g.i np).g r1) ⟨p, _, rfl, upd_same, paired_mono (gr_new (o := .lst _) g.i np).g r2⟩⟩⟩
/-- (x, *xs) -/
theorem ev_tupStar {α : Type} [Rep α] {x : α} {xs : List α} (ha : Ev ta σ G x) (hb : Ev tb σ G xs) (hl : xs.length ≤ 10000) : Ev (tTup (tCons ta (StX.tStar K tb tNil))) σ G (Tup.mk (x :: xs)) := fun H i Q q =>
  ha H i _ fun v G1 H1 g1 k1 => (hb.mono g1.g) H1 g1.i _ fun w G2 H2 g2 k2 => by
    obtain ⟨p, vs, rfl, e, pr⟩ := k2
    have lv := paired_len pr
    refine ⟨p, vs, rfl, .inr (.inl (.inl (g2.i _ _ e))), ?_⟩
    show (v :: (vs ++ [])).length ≤ sizeLine ∧ ∀ t, H2 t = none → Q (.ref t) (upd H2 t (.tup (v :: (vs ++ []))))
    rw [List.append_nil]
    refine ⟨sl_small (by rw [List.length_cons]; omega), fun t nt => ?_⟩
    have gn := gr_new (o := .tup (v :: vs)) g2.i nt
    exact q _ (upd G2 t (.tup (v :: vs))) _ ((g1.trans g2).trans gn) ⟨t, _, rfl, upd_same, .cons (Rep.mono (g2.g.trans gn.g) k1) (paired_mono gn.g pr)⟩
abbrev rInC : R2 := fun x y H Q => ∃ (c : Nat) (z : Str), x = .str ⟨#[c]⟩ ∧ y = .str z ∧ Q (.bl (decide (c ∈ z.cps.toList))) H
theorem op_inC {X : Cx} : OpR X (compareOp .In) rInC := op_in_sign
/-- c in a text -/
theorem ev_inC {c : Nat} {z : Str} (ha : Ev ta σ G (⟨#[c]⟩ : Str)) (hb : Ev tb σ G z) : Ev (tOp rInC ta tb) σ G (decide (c ∈ z.cps.toList)) := ev2 ha hb fun v w G' _ k1 k2 H i Q q => ⟨c, z, rep_str k1, rep_str k2, q _ G' H (Gr.refl i) rfl⟩
end
end Pf

namespace Pf
open PySem PySem.Spec PyProof.Rows L2
/-! ### zip of a tuple and a list, of lengths that stay -/
def ItzM (K : Fg) (a b : Addr) (n1 n2 : Nat) : It :=
  ⟨fun i H => i < n1 ∧ i < n2 ∧ ∃ xs ys : List V, SqT K H a xs ∧ SqL K H b ys ∧ xs.length = n1 ∧ ys.length = n2,
    fun i H v H' => ∃ T x y, v = .ref T ∧ H T = none ∧ H' = upd H T (.tup [x, y]) ∧ (∀ xs, SqT K H a xs → xs[i]? = some x) ∧ ∀ ys, SqL K H b ys → ys[i]? = some y,
    fun i H => (n1 ≤ i ∨ n2 ≤ i) ∧ ∃ xs ys : List V, SqT K H a xs ∧ SqL K H b ys ∧ xs.length = n1 ∧ ys.length = n2⟩
theorem turn_zipM {P : Program} {w : World} {K : Fg} {elts : List Expr} {kk : Nat} {tpos : Pos} {z TI TO i1 i2 a b : Addr} {n1 n2 : Nat} (S : ZipSep2 z TI TO i1 i2 [i1, a] [i2, b]) (na : a ≠ i1) (nb : b ≠ i2) :
    Turn P w K (.Tuple elts kk tpos) (ItzM K a b n1 n2) [z, TI, TO, i1, i2] z (fun i h => IsZip h z TI TO .none ∧ IsTupOf2 h TI (.ref i1) (.ref i2) ∧ (∃ p q, IsTupOf2 h TO p q) ∧ h.IsTupleIter i1 a i ∧ h.IsListIter i2 b i ∧ i ≤ n1 ∧ i ≤ n2) where
  mem := by simp
  obj := fun i h st c hc => by
    obtain ⟨hz, hTI, ⟨p, q, hTO⟩, ⟨o1, e1, _, d1⟩, ⟨o2, e2, _, d2⟩, _⟩ := st
    rcases (show c = z ∨ c = TI ∨ c = TO ∨ c = i1 ∨ c = i2 by simpa using hc) with rfl | rfl | rfl | rfl | rfl
    · exact ⟨_, hz, nofun⟩
    · exact ⟨_, hTI, nofun⟩
    · exact ⟨_, hTO, nofun⟩
    · exact ⟨o1, e1, fun v y => by rw [d1] at y; cases y⟩
    · exact ⟨o2, e2, fun v y => by rw [d2] at y; cases y⟩
  keep := fun i h h' st k => by
    obtain ⟨hz, hTI, ⟨p, q, hTO⟩, t1, t2, le⟩ := st
    exact ⟨k z (by simp) _ hz, k TI (by simp) _ hTI, ⟨p, q, k TO (by simp) _ hTO⟩, t1.at fun o y => k i1 (by simp) o y, t2.at fun o y => k i2 (by simp) o y, le⟩
  item := by
    intro X hP hw hK hc i pins s σ H E I hf st hg
    subst hP hw hK
    obtain ⟨hz, hTI, ⟨x0, y0, hTO⟩, t1, t2, l1, l2⟩ := st
    obtain ⟨g1, g2, xs, ys, hqx, hqy, lx, ly⟩ := hg
    obtain ⟨its, rv, pt, _⟩ := I.tuple hqx
    obtain ⟨its2, rv2, pl, _⟩ := I.list hqy
    have e1 := rv.length
    have e2 := rv2.length
    have hh : X.A.in1.handled = none := I.ok.hd hc
    have hzl : z < s.heap.objs.size := Heap.lt_size hz
    obtain ⟨x, hx⟩ : ∃ x, xs[i]? = some x := ⟨_, List.getElem?_eq_getElem (by omega)⟩
    obtain ⟨y, hy⟩ : ∃ y, ys[i]? = some y := ⟨_, List.getElem?_eq_getElem (by omega)⟩
    obtain ⟨u, hu, ru⟩ := rv.get hx
    obtain ⟨u2, hu2, ru2⟩ := rv2.get hy
    refine wpAny_pyNext_zipD2_item S (Draws.tuple hh i1 a na its.toArray) (Draws.list hh i2 b nb its2.toArray) hz hTI hTO ⟨t1, pt⟩ ⟨t2, pl.isList⟩ (by simp; omega) (by simp; omega) fun v1 v2 h' tk p1 p2 z' TO' t1' t2' hT hsz hk => ?_
    have ev1 : v1 = u := by have p1 : its.toArray[i]? = some v1 := p1; rw [List.getElem?_toArray, hu] at p1; exact (Option.some.inj p1).symm
    have ev2 : v2 = u2 := by have p2 : its2.toArray[i]? = some v2 := p2; rw [List.getElem?_toArray, hu2] at p2; exact (Option.some.inj p2).symm
    subst ev1 ev2
    refine ⟨_, rfl, wpAny_letOwnedTupleGo_zip (s := { s with heap := h', toks := tk }) z' fun h'' z'' sb => ?_⟩
    have hT2 : h''.get? s.heap.objs.size = some { cls := .type "tuple", data := .seq #[v1, v2] } := (sb.2 _ (Nat.ne_of_gt hzl)).trans hT
    have new : ObjOk X.prog X.w (upd H s.heap.objs.size (.tup [x, y])) h'' s.heap.objs.size (.tup [x, y]) := ⟨by show 2 ≤ sizeLine; decide, [v1, v2], .cons ru (.cons ru2 .nil), ⟨_, hT2, rfl, _, rfl⟩⟩
    have kp : ∀ c o, c ∉ [z, TI, TO, i1, i2] → s.heap.get? c = some o → h''.get? c = some o := fun c o hb q => by
      simp only [List.mem_cons, List.not_mem_nil, or_false, not_or] at hb
      exact (sb.2 c hb.1).trans (hk c o hb.1 hb.2.2.1 hb.2.2.2.1 hb.2.2.2.2 q)
    have I1 := I.turnedNew (t' := tk) (ch := [z, TI, TO, i1, i2]) kp hf (Nat.le_refl _) new
    refine ⟨.ref s.heap.objs.size, _, I1, rfl, ⟨_, x, y, rfl, I.hok.fresh (Nat.le_refl _), rfl, fun l hl => by rw [I.tuple_inj hl hqx]; exact hx, fun l hl => by rw [I.list_inj hl hqy]; exact hy⟩, ⟨z'', ?_, ⟨v1, v2, ?_⟩, ?_, ?_, by omega, by omega⟩, fun c hcm => ?_⟩
    · exact (sb.2 _ S.TIz).trans (hk _ _ S.TIz S.TITO S.TIi1 S.TIi2 hTI)
    · exact (sb.2 _ S.TOz).trans TO'
    · exact t1'.1.at fun o q => (sb.2 _ (Ne.symm S.zi1)).trans q
    · exact t2'.1.at fun o q => (sb.2 _ (Ne.symm S.zi2)).trans q
    · have hlt : c < s.heap.objs.size := by
        rcases (show c = z ∨ c = TI ∨ c = TO ∨ c = i1 ∨ c = i2 by simpa using hcm) with rfl | rfl | rfl | rfl | rfl
        · exact hzl
        · exact Heap.lt_size hTI
        · exact Heap.lt_size hTO
        · obtain ⟨_, y1, _⟩ := t1; exact Heap.lt_size y1
        · obtain ⟨_, y1, _⟩ := t2; exact Heap.lt_size y1
      rw [upd_ne (Nat.ne_of_lt hlt)]
      exact (hf c hcm).1
  done := by
    intro X hP hw hK hc i pins s σ H E I hf st hg
    subst hP hw hK
    obtain ⟨hz, hTI, ⟨x0, y0, hTO⟩, t1, t2, l1, l2⟩ := st
    obtain ⟨hend, xs, ys, hqx, hqy, lx, ly⟩ := hg
    obtain ⟨its, rv, pt, _⟩ := I.tuple hqx
    obtain ⟨its2, rv2, pl, _⟩ := I.list hqy
    have e1 := rv.length
    have e2 := rv2.length
    have hh : X.A.in1.handled = none := I.ok.hd hc
    refine wpAny_pyNext_zipD2_end S (Draws.tuple hh i1 a na its.toArray) (Draws.list hh i2 b nb its2.toArray) hz hTI hTO ⟨t1, pt⟩ ⟨t2, pl.isList⟩ (by simp; omega) (by simp; omega) (by simp; omega) fun h' tk hk => ⟨rfl, ?_⟩
    refine I.turnedL (t' := tk) (ch := [z, TI, TO, i1, i2]) (fun c o hb q => ?_) hf
    simp only [List.mem_cons, List.not_mem_nil, or_false, not_or] at hb
    exact hk c o hb.1 hb.2.2.1 hb.2.2.2.1 hb.2.2.2.2 q
  self := fun A i s Q E st h => wpAny_pyIter_zip st.1 h
def iZipM (K : Fg) (ta : TA) : TI := fun σ H R => ta σ H fun vs H1 => ∃ a b xs ys, vs = [.ref a, .ref b] ∧ SqT K H1 a xs ∧ SqL K H1 b ys ∧ R (ItzM K a b xs.length ys.length) H1
theorem pi_zipM {K : Fg} {X : Cx} {e e2 : Expr} {ta : TA} {p pos tpos : Pos} {elts : List Expr} {kk : Nat} (hK : X.K = K) (hg : Gl X "zip") (hm : X.mg "zip" = none) (ha : PA X [e, e2] ta)
    (hs : starEach [e, e2] X.env = (false, eval e X.env) :: starEach [e2] X.env := by rfl) (hpl : (backTo pos (starEach [e2] X.env)).any (·.1) = false := by rfl) :
    PI X (.Tuple elts kk tpos) (.Call (.Name "zip" p) [e, e2] [] pos) (iZipM K ta) := by
  subst hK
  refine ⟨fun pins s σ H R I h => ?_⟩
  refine Call_ (ld_blt I hg hm PyProof.Rows.boot_zip (PyProof.Rows.callWith_type1 (thn (ha.run pos pins s σ H _ I h) fun us s1 ⟨vs, H1, I1, r1, q1⟩ => ?_) hs hpl))
  obtain ⟨a, b, xs, ys, ex, hqx, hqy, q⟩ := q1
  subst ex
  cases r1 with
  | cons r rr =>
    cases rr with
    | cons r' rr =>
      cases rr
      cases r; cases r'
      obtain ⟨its, rv, pt, _⟩ := I1.tuple hqx
      obtain ⟨its2, rv2, pl, _⟩ := I1.list hqy
      obtain ⟨oa, ha1, _⟩ := id pt
      have la : a < s1.heap.objs.size := Heap.lt_size ha1
      have lb : b < s1.heap.objs.size := pl.lt
      refine zip_begins2 (begins_tuple a its.toArray) (begins_list b its2.toArray) pt pl.isList fun h' hz hTI hTO t1 t2 hsz hk => wpAny_pyIter_zip hz ?_
      have I2 : Inv X pins σ H1 { s1 with heap := h' } := I1.kept (t' := s1.toks) hk
      refine ⟨s1.heap.objs.size + 4, [s1.heap.objs.size + 4, s1.heap.objs.size + 2, s1.heap.objs.size + 3, s1.heap.objs.size, s1.heap.objs.size + 1], _, _, H1, rfl, I2, turn_zipM (n1 := xs.length) (n2 := ys.length) (zip_sep2 (fp1 := [a]) (fp2 := [b]) (by simpa using la) (by simpa using lb)) (Nat.ne_of_lt la) (Nat.ne_of_lt (Nat.lt_succ_of_lt lb)), ⟨hz, hTI, ⟨_, _, hTO⟩, ⟨_, t1, rfl, rfl⟩, ⟨_, t2, rfl, rfl⟩, Nat.zero_le _, Nat.zero_le _⟩, fun c hcm => ?_, q⟩
      have hle : s1.heap.objs.size ≤ c := by
        rcases (show c = s1.heap.objs.size + 4 ∨ c = s1.heap.objs.size + 2 ∨ c = s1.heap.objs.size + 3 ∨ c = s1.heap.objs.size ∨ c = s1.heap.objs.size + 1 by simpa using hcm) with y | y | y | y | y <;> (rw [y]; first | exact Nat.le_add_right _ _ | exact Nat.le_refl _)
      exact I1.fpOk hle (I1.hok.fresh hle)
section
variable {σ : L2.St} {G H : Hp} {tb : TE} {K : Fg}
/-- zip of a tuple of the module and a list -/
theorem ei_zipK {b : Addr} {i : Nat} {ks : List Str} {ys : List Str} (hv : σ[i]? = some (some (.ref b))) (hS : ∀ H, SqT K H b (ks.map V.str)) (hb : Ev tb σ G ys) : EvI (iZipM K (tCons (tVar i) (tCons tb tNil))) σ G (ks.zip ys) := fun H i R q =>
  ⟨.ref b, hv, hb H i _ fun w G2 H2 g2 k2 => by
    obtain ⟨c, us, rfl, h4, h5⟩ := k2
    have hu := paired_strs h5
    subst hu
    refine ⟨b, c, _, _, rfl, hS _, .inl (.inl (g2.i _ _ h4)), q _ G2 H2 g2 ⟨fun k H s l => ?_, fun k H s l => ?_, fun k H v H' Ga x s1 s2 yl e => ?_⟩⟩
    · rw [List.length_zip] at l
      exact ⟨by rw [List.length_map]; omega, by rw [List.length_map]; omega, _, _, hS _, .inl (.inl (s _ _ h4)), rfl, rfl⟩
    · rw [List.length_zip] at l
      exact ⟨by rw [List.length_map, List.length_map]; omega, _, _, hS _, .inl (.inl (s _ _ h4)), rfl, rfl⟩
    · obtain ⟨T, x1, x2, rfl, nT, rfl, f1, f2⟩ := yl
      have e1 := f1 _ (hS _)
      have e2 := f2 _ (.inl (.inl (s2 _ _ (s1 _ _ h4))))
      rw [List.getElem?_map] at e1 e2
      rw [List.getElem?_zip_eq_some] at e
      rw [e.1] at e1
      rw [e.2] at e2
      cases e1; cases e2
      have gn := gr_new (o := .tup [V.str x.1, V.str x.2]) s2 nT
      exact ⟨upd Ga T (.tup [V.str x.1, V.str x.2]), gn, T, _, _, rfl, upd_same, rfl, rfl⟩⟩
end
end Pf

namespace Pf
open PySem PySem.Spec PyProof.Rows L2
open TL (tl numL)
/-! ### names, letters, numbers -/
abbrev lowsS : Str := "abcdefghijklmnopqrstuvwxyz"
abbrev figsS : Str := "0123456789"
def lowB (c : Nat) : Bool := decide (c ∈ lowsS.cps.toList)
def figB (c : Nat) : Bool := decide (c ∈ figsS.cps.toList)
theorem lows_eq : lowsS.cps.toList = (List.range 26).map (· + 97) := by decide +kernel
theorem figs_eq : figsS.cps.toList = (List.range 10).map (· + 48) := by decide +kernel
theorem low_iff {c : Nat} : lowB c = true ↔ 97 ≤ c ∧ c ≤ 122 := by
  unfold lowB
  rw [lows_eq, decide_eq_true_eq, List.mem_map]
  constructor
  · rintro ⟨k, hk, rfl⟩
    have := List.mem_range.mp hk
    omega
  · intro h
    exact ⟨c - 97, List.mem_range.mpr (by omega), by omega⟩
theorem fig_iff {c : Nat} : figB c = true ↔ 48 ≤ c ∧ c ≤ 57 := by
  unfold figB
  rw [figs_eq, decide_eq_true_eq, List.mem_map]
  constructor
  · rintro ⟨k, hk, rfl⟩
    have := List.mem_range.mp hk
    omega
  · intro h
    exact ⟨c - 48, List.mem_range.mpr (by omega), by omega⟩
def nameB (z : Str) : Bool := !(decide (z.length < 1) || decide (8 < z.length)) && z.cps.toList.all lowB
def letB (z : Str) : Bool := decide (z.length = 1) && z.cps.toList.all lowB
def numB (z : Str) : Bool := !(decide (z.length < 1) || decide (4 < z.length)) && (z.cps.toList.all figB && (decide (z = "0") || !decide (z.cps.toList[0]? = some 48)))
def intM (z : Str) : Int := (PySem.intText? z).getD 0
theorem numL_head : ∀ n : Nat, 1 ≤ n → ∃ c, (numL n)[0]? = some c ∧ c ≠ 48 := by
  intro n
  induction n using Nat.strongRecOn with
  | _ n ih =>
    intro h
    by_cases h10 : n < 10
    · rw [TL.numL_lt h10]
      exact ⟨48 + n, rfl, by omega⟩
    · rw [TL.numL_step (by omega)]
      obtain ⟨c, h1, h2⟩ := ih (n / 10) (by omega) (by omega)
      exact ⟨c, by rw [List.getElem?_append_left (List.getElem?_eq_some_iff.mp h1).1]; exact h1, h2⟩
theorem numL_fig {n c : Nat} (h : c ∈ numL n) : 48 ≤ c ∧ c ≤ 57 := by
  by_cases q : c < 48 ∨ 57 < c
  · exact absurd h (TL.numL_free q)
  · omega
theorem numS_len {n : Int} (h0 : 0 ≤ n) (h1 : n ≤ 9999) : 1 ≤ (numS n).length ∧ (numS n).length ≤ 4 := by
  rw [TL.len_tl, tl_numS h0]
  refine ⟨?_, TL.numL_len (by decide) (by omega)⟩
  have := TL.numL_ne n.toNat
  cases e : numL n.toNat with
  | nil => exact absurd e this
  | cons a l => simp
theorem numB_numS {n : Int} (h0 : 0 ≤ n) (h1 : n ≤ 9999) : numB (numS n) = true := by
  obtain ⟨l1, l2⟩ := numS_len h0 h1
  have ht : (numS n).cps.toList = numL n.toNat := tl_numS h0
  unfold numB
  rw [ht, decide_eq_false (by omega), decide_eq_false (by omega)]
  have ha : (numL n.toNat).all figB = true := List.all_eq_true.mpr fun c hc => fig_iff.mpr (numL_fig hc)
  rw [ha]
  by_cases e : n = 0
  · subst e; decide +kernel
  · obtain ⟨c, h2, h3⟩ := numL_head n.toNat (by omega)
    rw [h2]
    have : decide (some c = some 48) = false := decide_eq_false fun z => h3 (Option.some.inj z)
    rw [this]
    simp
theorem intM_numS {n : Int} (h0 : 0 ≤ n) (h1 : n ≤ 9999) : intM (numS n) = n := by
  obtain ⟨k, rfl⟩ : ∃ k : Nat, n = (k : Int) := ⟨n.toNat, by omega⟩
  have hl : (numL k).length ≤ 4300 := by
    have := TL.numL_len (n := k) (k := 4) (by decide) (by omega)
    omega
  unfold intM numS
  rw [TL.int_num hl]
  rfl
theorem numB_some {z : Str} (h : numB z = true) : PySem.intText? z = some (intM z) ∧ z.length ≤ 4 := by
  unfold numB at h
  simp only [Bool.and_eq_true, Bool.not_eq_true', Bool.or_eq_false_iff, decide_eq_false_iff_not] at h
  obtain ⟨⟨h1, h2⟩, h3, _⟩ := h
  have hl := TL.len_tl z
  have e := SX.int_S (a := tl z) (List.all_eq_true.mpr fun c hc => by have := fig_iff.mp (List.all_eq_true.mp h3 c hc); simp; omega) (fun e => by rw [e] at hl; simp at hl; omega) (by omega)
  have ez : SX.S (tl z) = z := TL.mk_tl z
  rw [ez] at e
  unfold intM
  rw [e]
  exact ⟨rfl, by omega⟩
/-! ### plans as texts -/
def cutS2 (c : Int × Int) : Str := numS c.1 ++ "-" ++ numS c.2
def planS (p : Plan) : Str := numS p.1 ++ ":" ++ Txt.join "," (p.2.l.map cutS2)
def smN (n : Int) : Prop := 0 ≤ n ∧ n ≤ 9999
def smP (p : Plan) : Prop := smN p.1 ∧ (∀ c ∈ p.2.l, smN c.1 ∧ smN c.2) ∧ p.2.l.length ≤ 40
def cutM2 (z : Str) : Int × Int := (intM (Txt.partition z "-").1, intM (Txt.partition z "-").2.2)
def cutOk (z : Str) : Bool := numB (Txt.partition z "-").1 && numB (Txt.partition z "-").2.2
def planM2 (z : Str) : Plan := (intM (Txt.partition z ":").1, ⟨if (Txt.partition z ":").2.2 = "" then [] else (Txt.split (Txt.partition z ":").2.2 ",").map cutM2⟩)
def planOk (z : Str) : Bool := !decide ((Txt.partition z ":").2.1 = "") && (numB (Txt.partition z ":").1 && (decide ((Txt.partition z ":").2.2 = "") || (Txt.split (Txt.partition z ":").2.2 ",").all cutOk))
theorem joinL_mem {s : Nat} {S : List Nat} : ∀ {ps : List (List Nat)}, s ∈ TL.joinL S ps → s ∈ S ∨ ∃ p ∈ ps, s ∈ p
  | [], h => by cases h
  | [p], h => .inr ⟨p, List.mem_cons_self, h⟩
  | p :: q :: r, h => by
    have h : s ∈ p ++ (S ++ TL.joinL S (q :: r)) := by
      have e : TL.joinL S (p :: q :: r) = p ++ (S ++ TL.joinL S (q :: r)) := by first | rfl | (simp [TL.joinL])
      rw [← e]; exact h
    rcases List.mem_append.mp h with z | z
    · exact .inr ⟨p, List.mem_cons_self, z⟩
    · rcases List.mem_append.mp z with z | z
      · exact .inl z
      · rcases joinL_mem z with y | ⟨x, hx, hs⟩
        · exact .inl y
        · exact .inr ⟨x, List.mem_cons_of_mem _ hx, hs⟩
theorem tl_dash : tl ("-" : Str) = [45] := by decide +kernel
theorem tl_colon : tl (":" : Str) = [58] := by decide +kernel
theorem tl_comma : tl ("," : Str) = [44] := by decide +kernel
theorem tl_blank : tl (" " : Str) = [32] := by decide +kernel
theorem num_no {n : Int} (h : 0 ≤ n) {s : Nat} (hs : s < 48 ∨ 57 < s) : s ∉ tl (numS n) := by rw [tl_numS h]; exact TL.numL_free hs
theorem cut_tl (c : Int × Int) : tl (cutS2 c) = tl (numS c.1) ++ [45] ++ tl (numS c.2) := by unfold cutS2; rw [TL.tl_append, TL.tl_append, tl_dash]
theorem cut_no {c : Int × Int} (h1 : 0 ≤ c.1) (h2 : 0 ≤ c.2) {s : Nat} (hs : s < 48 ∨ 57 < s) (h45 : s ≠ 45) : s ∉ tl (cutS2 c) := by
  rw [cut_tl, List.mem_append, List.mem_append, List.mem_singleton]
  rintro ((z | z) | z)
  · exact num_no h1 hs z
  · exact h45 z
  · exact num_no h2 hs z
theorem cut_back {c : Int × Int} (h1 : smN c.1) (h2 : smN c.2) : cutM2 (cutS2 c) = c ∧ cutOk (cutS2 c) = true := by
  have e : Txt.partition (cutS2 c) "-" = (numS c.1, ("-" : Str), numS c.2) := TL.partition_app tl_dash (num_no h1.1 (by decide))
  unfold cutM2 cutOk
  rw [e]
  dsimp only
  rw [intM_numS h1.1 h1.2, intM_numS h2.1 h2.2, numB_numS h1.1 h1.2, numB_numS h2.1 h2.2]
  exact ⟨rfl, rfl⟩
theorem cut2_len {c : Int × Int} (h1 : smN c.1) (h2 : smN c.2) : (cutS2 c).length ≤ 9 := by
  have a := numS_len h1.1 h1.2
  have b := numS_len h2.1 h2.2
  unfold cutS2
  rw [app_len, app_len, show (("-" : Str)).length = 1 by decide +kernel]
  omega
theorem lenSum_le {m : Nat} : ∀ {ys : List Str}, (∀ y ∈ ys, y.length ≤ m) → lenSum ys ≤ ys.length * m
  | [], _ => Nat.zero_le _
  | y :: ys, h => by
    have a := h y List.mem_cons_self
    have b := lenSum_le fun x hx => h x (List.mem_cons_of_mem y hx)
    show y.length + lenSum ys ≤ (ys.length + 1) * m
    rw [Nat.add_mul]; omega
theorem tl_txj (y : Str) (ps : List Str) : tl (Txt.join y ps) = TL.joinL (tl y) (ps.map tl) := by rw [TL.join_eq, TL.tl_join]
theorem joinL_len (S : List Nat) : ∀ ps : List (List Nat), (TL.joinL S ps).length ≤ (ps.map (·.length)).sum + ps.length * S.length
  | [] => Nat.zero_le _
  | [p] => by show p.length ≤ _; simp
  | p :: q :: r => by
    have e : TL.joinL S (p :: q :: r) = p ++ (S ++ TL.joinL S (q :: r)) := by first | rfl | (simp [TL.joinL])
    have := joinL_len S (q :: r)
    rw [e, List.length_append, List.length_append, List.map_cons, List.sum_cons]
    rw [List.length_cons (a := p), Nat.add_mul]
    omega
theorem join_len (y : Str) (ps : List Str) : (Txt.join y ps).length ≤ lenSum ps + ps.length * y.length := by
  rw [TL.len_tl, tl_txj]
  have := joinL_len (tl y) (ps.map tl)
  rw [List.length_map, List.map_map] at this
  have e : ps.map ((fun x : List Nat => x.length) ∘ tl) = ps.map (·.length) := List.map_congr_left fun x _ => (TL.len_tl x).symm
  rw [e, ← TL.len_tl] at this
  exact this
theorem plan_slen {p : Plan} (h : smP p) : (planS p).length ≤ 500 := by
  obtain ⟨h1, h2, h3⟩ := h
  have a := numS_len h1.1 h1.2
  have b := join_len "," (p.2.l.map cutS2)
  have c := lenSum_le (m := 9) (ys := p.2.l.map cutS2) (fun y hy => by
    obtain ⟨c, hc, rfl⟩ := List.mem_map.mp hy
    exact cut2_len (h2 c hc).1 (h2 c hc).2)
  rw [List.length_map] at b c
  rw [show (("," : Str)).length = 1 by decide +kernel] at b
  unfold planS
  rw [app_len, app_len, show ((":" : Str)).length = 1 by decide +kernel]
  omega
theorem empty_tl : tl ("" : Str) = [] := by decide +kernel
theorem plan_back {p : Plan} (h : smP p) : planM2 (planS p) = p ∧ planOk (planS p) = true := by
  obtain ⟨h1, h2, h3⟩ := h
  have e : Txt.partition (planS p) ":" = (numS p.1, (":" : Str), Txt.join "," (p.2.l.map cutS2)) := TL.partition_app tl_colon (num_no h1.1 (by decide))
  unfold planM2 planOk
  rw [e]
  dsimp only
  rw [intM_numS h1.1 h1.2, numB_numS h1.1 h1.2, show decide ((":" : Str) = "") = false by decide +kernel]
  obtain ⟨n, ⟨l⟩⟩ := p
  dsimp only at h1 h2 h3 ⊢
  cases l with
  | nil =>
    have e0 : Txt.join "," (([] : List (Int × Int)).map cutS2) = "" := TL.ext_tl (by rw [tl_txj, empty_tl]; rfl)
    rw [e0, if_pos rfl]
    exact ⟨rfl, rfl⟩
  | cons c r =>
    have hne : Txt.join "," ((c :: r).map cutS2) ≠ "" := fun z => by
      have z2 := congrArg tl z
      rw [tl_txj, empty_tl] at z2
      have lc := (numS_len (h2 c List.mem_cons_self).1.1 (h2 c List.mem_cons_self).1.2).1
      have lt : 1 ≤ (TL.joinL (tl ",") (((c :: r).map cutS2).map tl)).length := by
        have key : ∀ (S : List Nat) (p : List Nat) (ps : List (List Nat)), p.length ≤ (TL.joinL S (p :: ps)).length := fun S p ps => by
          cases ps with
          | nil => exact Nat.le_refl _
          | cons q r =>
            have e : TL.joinL S (p :: q :: r) = p ++ (S ++ TL.joinL S (q :: r)) := by first | rfl | (simp [TL.joinL])
            rw [e, List.length_append]; omega
        refine Nat.le_trans ?_ (key _ _ _)
        show 1 ≤ (tl (cutS2 c)).length
        rw [cut_tl, List.length_append, List.length_append, List.length_singleton]
        omega
      rw [z2] at lt
      exact absurd lt (by decide)
    have sp : Txt.split (Txt.join "," ((c :: r).map cutS2)) "," = (c :: r).map cutS2 := by
      refine TL.split_join tl_comma (by decide +kernel) (by simp) (fun q hq => ?_)
      obtain ⟨d, hd, rfl⟩ := List.mem_map.mp hq
      exact cut_no (h2 d hd).1.1 (h2 d hd).2.1 (by decide) (by decide)
    rw [if_neg hne, sp, List.map_map, decide_eq_false hne]
    refine ⟨?_, ?_⟩
    · have em : (c :: r).map (cutM2 ∘ cutS2) = c :: r := by
        have : (c :: r).map (cutM2 ∘ cutS2) = (c :: r).map id := List.map_congr_left fun d hd => (cut_back (h2 d hd).1 (h2 d hd).2).1
        rw [this, List.map_id]
      rw [em]
    · have ea : ((c :: r).map cutS2).all cutOk = true := List.all_eq_true.mpr fun q hq => by
        obtain ⟨d, hd, rfl⟩ := List.mem_map.mp hq
        exact (cut_back (h2 d hd).1 (h2 d hd).2).2
      rw [ea]; rfl
theorem plan_no {p : Plan} (h : smP p) : 32 ∉ tl (planS p) := by
  obtain ⟨h1, h2, h3⟩ := h
  unfold planS
  rw [TL.tl_append, TL.tl_append, tl_colon, tl_txj, tl_comma, List.mem_append, List.mem_append, List.mem_singleton]
  rintro ((z | z) | z)
  · exact num_no h1.1 (by decide) z
  · cases z
  · rcases joinL_mem z with y | ⟨q, hq, hs⟩
    · exact absurd (List.mem_singleton.mp y) (by decide)
    · obtain ⟨a, ha, rfl⟩ := List.mem_map.mp hq
      obtain ⟨c, hc, rfl⟩ := List.mem_map.mp ha
      exact cut_no (h2 c hc).1.1 (h2 c hc).2.1 (by decide) (by decide) hs
end Pf

namespace Pf
open PySem PySem.Spec PyProof.Rows L2
open TL (tl numL)
/-! ### what stands in a deed: a text, a number, a plan -/
inductive Th where
  | s (x : Str)
  | n (i : Int)
  | p (q : Plan)
instance : Inhabited Th := ⟨.n 0⟩
instance : Rep Th := ⟨fun G v t => match t with | .s x => rep G v x | .n i => rep G v i | .p q => rep G v q, fun {G G' v t} e h => by
  cases t with
  | s x => exact h
  | n i => exact h
  | p q => exact Rep.mono (α := Plan) e h⟩
instance : Dat Th where
  dat := fun t => match t with | .s x => dat x | .n i => dat i | .p q => dat q
  rd := fun {G v t} h => by
    cases t with
    | s x => exact Dat.rd (α := Str) h
    | n i => exact Dat.rd (α := Int) h
    | p q => exact Dat.rd (α := Plan) h
  inj := fun {x y} h => by
    cases x with
    | s a =>
      cases y with
      | s b => exact congrArg Th.s (Dat.inj (α := Str) h)
      | n b => have h : PyData.str a = PyData.int b := h; cases h
      | p b => have h : PyData.str a = PyData.tuple [dat b.1, dat b.2] := h; cases h
    | n a =>
      cases y with
      | s b => have h : PyData.int a = PyData.str b := h; cases h
      | n b => exact congrArg Th.n (Dat.inj (α := Int) h)
      | p b => have h : PyData.int a = PyData.tuple [dat b.1, dat b.2] := h; cases h
    | p a =>
      cases y with
      | s b => have h : PyData.tuple [dat a.1, dat a.2] = PyData.str b := h; cases h
      | n b => have h : PyData.tuple [dat a.1, dat a.2] = PyData.int b := h; cases h
      | p b => exact congrArg Th.p (Dat.inj (α := Plan) h)
def thS : Th → Str
  | .s x => x
  | .n i => numS i
  | .p q => planS q
def deedS (d : List Th) : Str := Txt.join " " (d.map thS)
abbrev waysL : List Str := ["even", "odd"]
abbrev coloursL : List Str := ["red", "blue", "gold"]
def kindsL : List (Str × List Str) := [("fold", ["name", "plan"]), ("drop", ["name"]), ("pinch", ["name", "way"]), ("unpinch", ["name", "way"]), ("over", ["name"]), ("about", ["name"]), ("paint", ["name", "slot", "colour"]), ("mark", ["name", "slot", "letter"]), ("wash", ["name", "slot"]), ("unfold", ["name"]), ("refold", ["name", "plan"])]
def kindsOf (w : Str) : Option (List Str) := (kindsL.find? fun e => decide (e.1 = w)).map (·.2)
def thgM (k w : Str) : Th := if k = "plan" then .p (planM2 w) else if k = "slot" then .n (intM w) else .s w
def thOk (k w : Str) : Bool := if k = "name" then nameB w else if k = "plan" then planOk w else if k = "way" then decide (w ∈ waysL) else if k = "slot" then numB w else if k = "colour" then decide (w ∈ coloursL) else if k = "letter" then letB w else false
def deedM (z : Str) : Option (List Th) := match Txt.split z " " with
  | [] => none
  | w :: ws => match kindsOf w with
    | none => none
    | some ks => if ks.length = ws.length ∧ ((ks.zip ws).all fun kw => thOk kw.1 kw.2) = true then some (.s w :: (ks.zip ws).map fun kw => thgM kw.1 kw.2) else none
inductive Fits : Str → Th → Prop where
  | name {x : Str} (h : nameB x = true) : Fits "name" (.s x)
  | way {x : Str} (h : x ∈ waysL) : Fits "way" (.s x)
  | colour {x : Str} (h : x ∈ coloursL) : Fits "colour" (.s x)
  | letter {x : Str} (h : letB x = true) : Fits "letter" (.s x)
  | slot {i : Int} (h : smN i) : Fits "slot" (.n i)
  | plan {q : Plan} (h : smP q) : Fits "plan" (.p q)
def GoodD (d : List Th) : Prop := ∃ w ks ts, d = .s w :: ts ∧ kindsOf w = some ks ∧ Paired Fits ks ts
theorem name_facts {x : Str} (h : nameB x = true) : x.length ≤ 8 ∧ ∀ c ∈ tl x, lowB c = true := by
  unfold nameB at h
  simp only [Bool.and_eq_true, Bool.not_eq_true', Bool.or_eq_false_iff, decide_eq_false_iff_not] at h
  exact ⟨by omega, List.all_eq_true.mp h.2⟩
theorem let_facts {x : Str} (h : letB x = true) : x.length = 1 ∧ ∀ c ∈ tl x, lowB c = true := by
  unfold letB at h
  simp only [Bool.and_eq_true, decide_eq_true_eq] at h
  exact ⟨h.1, List.all_eq_true.mp h.2⟩
theorem low_no {x : Str} (h : ∀ c ∈ tl x, lowB c = true) : 32 ∉ tl x := fun z => by
  have := low_iff.mp (h 32 z)
  omega
theorem fits_back {k : Str} {t : Th} (h : Fits k t) : thgM k (thS t) = t ∧ thOk k (thS t) = true ∧ 32 ∉ tl (thS t) ∧ (thS t).length ≤ 500 := by
  cases h with
  | @name x h =>
    obtain ⟨l, c⟩ := name_facts h
    refine ⟨by unfold thgM; rw [if_neg (by decide +kernel), if_neg (by decide +kernel)]; rfl, by unfold thOk; rw [if_pos rfl]; exact h, low_no c, by show x.length ≤ 500; omega⟩
  | @way x h =>
    refine ⟨by unfold thgM; rw [if_neg (by decide +kernel), if_neg (by decide +kernel)]; rfl, by unfold thOk; rw [if_neg (by decide +kernel), if_neg (by decide +kernel), if_pos rfl]; exact decide_eq_true h, ?_, ?_⟩
    · have : ∀ y ∈ waysL, 32 ∉ tl y := by decide +kernel
      exact this x h
    · have : ∀ y ∈ waysL, y.length ≤ 500 := by decide +kernel
      exact this x h
  | @colour x h =>
    refine ⟨by unfold thgM; rw [if_neg (by decide +kernel), if_neg (by decide +kernel)]; rfl, by unfold thOk; rw [if_neg (by decide +kernel), if_neg (by decide +kernel), if_neg (by decide +kernel), if_neg (by decide +kernel), if_pos rfl]; exact decide_eq_true h, ?_, ?_⟩
    · have : ∀ y ∈ coloursL, 32 ∉ tl y := by decide +kernel
      exact this x h
    · have : ∀ y ∈ coloursL, y.length ≤ 500 := by decide +kernel
      exact this x h
  | @letter x h =>
    obtain ⟨l, c⟩ := let_facts h
    refine ⟨by unfold thgM; rw [if_neg (by decide +kernel), if_neg (by decide +kernel)]; rfl, by unfold thOk; rw [if_neg (by decide +kernel), if_neg (by decide +kernel), if_neg (by decide +kernel), if_neg (by decide +kernel), if_neg (by decide +kernel), if_pos rfl]; exact h, low_no c, by show x.length ≤ 500; omega⟩
  | @slot i h =>
    have l := numS_len h.1 h.2
    refine ⟨by unfold thgM; rw [if_neg (by decide +kernel), if_pos rfl]; show Th.n (intM (numS i)) = _; rw [intM_numS h.1 h.2], by unfold thOk; rw [if_neg (by decide +kernel), if_neg (by decide +kernel), if_neg (by decide +kernel), if_pos rfl]; exact numB_numS h.1 h.2, num_no h.1 (by decide), by show (numS i).length ≤ 500; omega⟩
  | @plan q h =>
    refine ⟨by unfold thgM; rw [if_pos rfl]; show Th.p (planM2 (planS q)) = _; rw [(plan_back h).1], by unfold thOk; rw [if_neg (by decide +kernel), if_pos rfl]; exact (plan_back h).2, plan_no h, plan_slen h⟩
theorem kinds_mem {w : Str} {ks : List Str} (h : kindsOf w = some ks) : (w, ks) ∈ kindsL := by
  unfold kindsOf at h
  obtain ⟨e, he, rfl⟩ := Option.map_eq_some_iff.mp h
  have h1 := List.mem_of_find?_eq_some he
  have h0 : decide (e.1 = w) = true := by have z := List.find?_some he; exact z
  have h2 := of_decide_eq_true h0
  rw [← h2]; exact h1
theorem kinds_facts {w : Str} {ks : List Str} (h : kindsOf w = some ks) : 32 ∉ tl w ∧ w.length ≤ 8 ∧ ks.length ≤ 3 ∧ 1 ≤ ks.length := by
  have : ∀ e ∈ kindsL, 32 ∉ tl e.1 ∧ e.1.length ≤ 8 ∧ e.2.length ≤ 3 ∧ 1 ≤ e.2.length := by decide +kernel
  exact this _ (kinds_mem h)
theorem fits_all : ∀ {ks : List Str} {ts : List Th}, Paired Fits ks ts → ∀ t ∈ ts, 32 ∉ tl (thS t) ∧ (thS t).length ≤ 500
  | _, _, .nil, _, h => by cases h
  | _, t :: ts, .cons h r, x, hx => by
    rcases List.mem_cons.mp hx with rfl | hx
    · exact (fits_back h).2.2
    · exact fits_all r x hx
theorem good_split {d : List Th} (g : GoodD d) : Txt.split (deedS d) " " = d.map thS ∧ (deedS d).length ≤ 3000 ∧ d.length ≤ 4 ∧ (∀ t ∈ d, (thS t).length ≤ 500) := by
  obtain ⟨w, ks, ts, rfl, hk, hf⟩ := g
  obtain ⟨k1, k2, k3, k4⟩ := kinds_facts hk
  have lt := Paired.length hf
  have all : ∀ t ∈ (Th.s w :: ts), 32 ∉ tl (thS t) ∧ (thS t).length ≤ 500 := fun t ht => by
    rcases List.mem_cons.mp ht with rfl | ht
    · exact ⟨k1, by show w.length ≤ 500; omega⟩
    · exact fits_all hf t ht
  refine ⟨TL.split_join tl_blank (by decide +kernel) (by simp) (fun q hq => ?_), ?_, by rw [List.length_cons]; omega, fun t ht => (all t ht).2⟩
  · obtain ⟨t, ht, rfl⟩ := List.mem_map.mp hq
    exact (all t ht).1
  · have a := join_len " " ((Th.s w :: ts).map thS)
    have b := lenSum_le (m := 500) (ys := (Th.s w :: ts).map thS) (fun y hy => by
      obtain ⟨t, ht, rfl⟩ := List.mem_map.mp hy
      exact (all t ht).2)
    rw [List.length_map, List.length_cons, show ((" " : Str)).length = 1 by decide +kernel] at a
    rw [List.length_map, List.length_cons] at b
    show (Txt.join " " _).length ≤ _
    omega
end Pf

namespace Pf
open PySem PySem.Spec PyProof.Rows L2
/-! ### the strip's order as a ring -/
theorem ord_fuel {p : Plan} (h : isPlanM p = true) : ∀ (k m : Nat) {s e : Int} (b : Bool), Jn p s e → (e - s) % p.1 ≤ k → (e - s) % p.1 ≤ m → ordN p k s e b = ordN p m s e b
  | 0, _, s, e, b, j, hk, _ => by
    exfalso
    obtain ⟨a1, a2, a3, a4, a5⟩ := j.ne h
    rw [arc_w (by omega) (by omega)] at hk
    split at hk <;> omega
  | _ + 1, 0, s, e, b, j, _, hm => by
    exfalso
    obtain ⟨a1, a2, a3, a4, a5⟩ := j.ne h
    rw [arc_w (by omega) (by omega)] at hm
    split at hm <;> omega
  | k + 1, m + 1, s, e, b, j, hk, hm => by
    unfold ordN
    cases z : look (thirdsM p).l (s, e) with
    | none => rfl
    | some c =>
      have t := (look_thirds h).mp z
      obtain ⟨a1, a2, a3, a4, a5⟩ := j.ne h
      have w := cy_w (n := p.1) (s := s) (c := c) (e := e) (by omega) (by have := t.sv.ne h; omega) (by omega) t.cy
      show (if b = true then _ else _) = (if b = true then _ else _)
      rw [ord_fuel h k m (!b) t.sv (by omega) (by omega), ord_fuel h k m (!b) t.ve (by omega) (by omega)]
def ordF (p : Plan) (s e : Int) (b : Bool) : List Int := ordN p 40 s e b
theorem w40 {p : Plan} (h : isPlanM p = true) {s e : Int} (j : Jn p s e) : (e - s) % p.1 ≤ 40 := by
  obtain ⟨a1, a2, a3, a4, a5⟩ := j.ne h
  have h40 := (plan_facts h).2.1
  rw [arc_w (by omega) (by omega)]
  split <;> omega
theorem ordF_step {p : Plan} (h : isPlanM p = true) {s c e : Int} (t : Tr p s c e) (b : Bool) : ordF p s e b = if b = true then ordF p s c (!b) ++ ordF p c e (!b) else ordF p c e (!b) ++ ordF p s c (!b) := by
  have z : look (thirdsM p).l (s, e) = some c := (look_thirds h).mpr t
  obtain ⟨a1, a2, a3, a4, a5⟩ := t.se.ne h
  have w := cy_w (n := p.1) (s := s) (c := c) (e := e) (by omega) (by have := t.sv.ne h; omega) (by omega) t.cy
  have w40 := w40 h t.se
  have e1 : ordN p 40 s e b = (if b = true then ordN p 39 s c (!b) ++ ordN p 39 c e (!b) else ordN p 39 c e (!b) ++ ordN p 39 s c (!b)) := by
    show (match look (thirdsM p).l (s, e) with | none => [s] | some c => if b = true then ordN p 39 s c (!b) ++ ordN p 39 c e (!b) else ordN p 39 c e (!b) ++ ordN p 39 s c (!b)) = _
    rw [z]
  unfold ordF
  rw [e1, ord_fuel h 39 40 (!b) t.sv (by omega) (by omega), ord_fuel h 39 40 (!b) t.ve (by omega) (by omega)]
/-- one list turned -/
def Rot (a b : List Int) : Prop := ∃ x y, a = x ++ y ∧ b = y ++ x
theorem Rot.refl (a : List Int) : Rot a a := ⟨[], a, rfl, by simp⟩
theorem Rot.symm {a b : List Int} (h : Rot a b) : Rot b a := by obtain ⟨x, y, rfl, rfl⟩ := h; exact ⟨y, x, rfl, rfl⟩
theorem Rot.step {a x y : List Int} (h : Rot a (x ++ y)) : Rot a (y ++ x) := by
  obtain ⟨u, v, rfl, e⟩ := h
  rcases List.append_eq_append_iff.mp e with ⟨z, rfl, rfl⟩ | ⟨z, rfl, rfl⟩
  · exact ⟨u ++ x, z, by simp, by simp⟩
  · exact ⟨z, y ++ v, by simp, by simp⟩
def putM (p : Plan) (t u : Int) : List Int := ordF p t u false ++ ordF p u t true
theorem put01 {p : Plan} (h : isPlanM p = true) : putM p 0 1 = ordM p := by
  have h3 := (plan_facts h).1
  have z : look (thirdsM p).l (0, 1) = none := (look_none h (jn_10 h).sym).mpr (by rw [wrap (by omega) (by omega)]; split <;> omega)
  have e : ordF p 0 1 false = [0] := by
    show (match look (thirdsM p).l (0, 1) with | none => [0] | some c => if false = true then ordN p 39 0 c (!false) ++ ordN p 39 c 1 (!false) else ordN p 39 c 1 (!false) ++ ordN p 39 0 c (!false)) = _
    rw [z]
  unfold putM ordM
  rw [e]
  rfl
/-- at upright places the even stack is put down crossed, and then the odd one straight -/
theorem up_rot {p : Plan} (h : isPlanM p = true) {t u : Int} (j : Jn p t u) (hu : upM p t u = true) : Rot (ordM p) (putM p t u) := by
  have key : ∀ (k : Nat) {s c e : Int}, Tr p s c e → dep p s e c ≤ k → (upM p s e = true → Rot (ordM p) (putM p s e)) ∧ (upM p e s = true → Rot (ordM p) (putM p e s)) := by
    refine all_lines h (S := fun s e => (upM p s e = true → Rot (ordM p) (putM p s e)) ∧ (upM p e s = true → Rot (ordM p) (putM p e s))) ?_ ?_ ?_
    · refine ⟨fun z => ?_, fun _ => by rw [put01 h]; exact Rot.refl _⟩
      rw [up_sw h (jn_10 h).sym, up_01 h] at z
      cases z
    · intro s c e x S
      have xr := x.rot
      have e1 : upM p s e = !hnd p s e c := up_b h x
      have e2 : upM p e s = hnd p s e c := up_a h x
      have e3 : upM p c s = !hnd p s e c := by rw [up_b h xr, hnd_rot]
      have e4 : upM p s c = hnd p s e c := by rw [up_a h xr, hnd_rot]
      cases hh : hnd p s e c with
      | true =>
        rw [hh] at e2 e3
        refine ⟨(fun z => by rw [e3] at z; cases z), fun _ => ?_⟩
        have r := S.2 e2
        unfold putM at r ⊢
        rw [ordF_step h x, if_pos rfl] at r
        rw [ordF_step h xr, if_pos rfl]
        have r2 := r.step
        rw [List.append_assoc] at r2
        exact r2
      | false =>
        rw [hh] at e1 e4
        refine ⟨fun _ => ?_, (fun z => by rw [e4] at z; cases z)⟩
        have r := S.1 e1
        unfold putM at r ⊢
        rw [ordF_step h x, if_neg (by decide)] at r
        rw [ordF_step h xr, if_neg (by decide)]
        have r2 := r.step
        rw [← List.append_assoc] at r2
        exact r2
    · intro s c e d x y S
      exact ⟨S.2, S.1⟩
  rcases some_part h j with ⟨c, x⟩ | ⟨c, x⟩
  · exact (key _ x (Nat.le_refl _)).2 hu
  · exact (key _ x (Nat.le_refl _)).1 hu
theorem ordF_mem {p : Plan} (h : isPlanM p = true) {s e : Int} (j : Jn p s e) (b : Bool) : (ordF p s e b).Perm (arc p.1 s e) := ord_perm h 40 s e b j (w40 h j)
/-- the stacks of a place are two stretches of the order, as a ring -/
theorem stretch {p : Plan} (h : isPlanM p = true) {t u : Int} (j : Jn p t u) : ∃ A B : List Int, A.Perm (arc p.1 t u) ∧ B.Perm (arc p.1 u t) ∧ Rot (ordM p) (A ++ B) := by
  cases hu : upM p t u with
  | true => exact ⟨_, _, ordF_mem h j false, ordF_mem h j.sym true, up_rot h j hu⟩
  | false =>
    have hu2 : upM p u t = true := by rw [up_sw h j, hu]; rfl
    exact ⟨_, _, ordF_mem h j true, ordF_mem h j.sym false, (up_rot h j.sym hu2).step⟩
end Pf

namespace Pf
open PySem PySem.Spec PyProof.Rows L2
section
variable {α β γ δ : Type} [Rep α] [Rep β] [Rep γ] [Rep δ] {σ : L2.St} {G H : Hp} {ta tb : TE} {K : Fg}
/-- xs[lo:hi] -/
theorem ev_slL {xs : List α} {tl th : TO} {lo hi : Option Int} (ha : Ev ta σ G xs) (hl : EvO tl σ G lo) (hh : EvO th σ G hi) : Ev (tSl (rSlL K) ta tl th) σ G (cutI xs lo hi) := fun H i Q q =>
  ha H i _ fun v G1 H1 g1 k1 => (hl.mono g1.g) H1 g1.i _ fun G2 H2 g2 => (hh.mono (g1.g.trans g2.g)) H2 g2.i _ fun G3 H3 g3 => by
    obtain ⟨a, vs, rfl, h2, h3⟩ := k1
    have e3 := (g2.g.trans g3.g) _ _ h2
    have h3' := paired_mono (g2.g.trans g3.g) h3
    have g13 := (g1.trans g2).trans g3
    refine ⟨a, vs, rfl, .inl (.inl (g3.i _ _ e3)), fun p np => ?_⟩
    exact q _ (upd G3 p (.lst (cutV vs lo hi))) _ (g13.trans (gr_new g3.i np)) ⟨p, _, rfl, upd_same, paired_mono (gr_new (o := .lst (cutV vs lo hi)) g3.i np).g (paired_cut h3' lo hi)⟩
end
end Pf

namespace Pf
open PySem PySem.Spec PyProof.Rows L2
/-! ### dicts of whole numbers by whole numbers -/
structure DI where
  l : List (Int × Int)
abbrev kvI (l : List (Int × Int)) : List (Key × V) := l.map fun e => (Sum.inl e.1, V.int e.2)
instance : Rep DI := ⟨fun G v d => ∃ a, v = .ref a ∧ G a = some (.dK (kvI d.l)), fun e ⟨a, h1, h2⟩ => ⟨a, h1, e _ _ h2⟩⟩
section
variable {α : Type} [Rep α] {σ : L2.St} {G H : Hp} {ta tb tk tv : TE} {g : TG} {K : Fg}
end
/-! ### how far behind the first of a stack -/
def firstsM (o e : List Int) : List Int := (rng 0 (o.length : Int)).filter fun k => decide (ix o k ∈ e) && !decide (ix o ((k - 1) % o.length) ∈ e)
def frM (o e : List Int) : Int := ix (firstsM o e) 0
def behM (o e : List Int) : DI := ⟨(rng 0 (o.length : Int)).map fun s => (ix o ((frM o e + s) % o.length), s)⟩
theorem fr_lt {o e : List Int} (h : firstsM o e ≠ []) : 0 ≤ frM o e ∧ frM o e < o.length := by
  unfold frM
  cases z : firstsM o e with
  | nil => exact absurd z h
  | cons x r =>
    have hx : x ∈ firstsM o e := by rw [z]; exact List.mem_cons_self
    exact rng_mem.mp (List.mem_filter.mp hx).1
theorem ix_inj {o : List Int} (nd : o.Nodup) {i j : Int} (hi : 0 ≤ i ∧ i < o.length) (hj : 0 ≤ j ∧ j < o.length) (h : ix o i = ix o j) : i = j := by
  have e1 : ix o i = o[i.toNat]'(by omega) := by have z := ix_nat (List.getElem?_eq_getElem (show i.toNat < o.length by omega)); rw [Int.toNat_of_nonneg hi.1] at z; exact z
  have e2 : ix o j = o[j.toNat]'(by omega) := by have z := ix_nat (List.getElem?_eq_getElem (show j.toNat < o.length by omega)); rw [Int.toNat_of_nonneg hj.1] at z; exact z
  rw [e1, e2] at h
  have pw := List.pairwise_iff_getElem.mp nd
  rcases Int.lt_trichotomy i j with z | z | z
  · exact absurd h (pw i.toNat j.toNat (by omega) (by omega) (by omega))
  · exact z
  · exact absurd h.symm (pw j.toNat i.toNat (by omega) (by omega) (by omega))
theorem wrapP {n x : Int} (h0 : 0 ≤ x) (h2 : x < 2 * n) : x % n = if x < n then x else x - n := by
  by_cases h : x < n
  · rw [if_pos h, Int.emod_eq_of_lt (by omega) (by omega)]
  · rw [if_neg h, ← Int.sub_emod_right, Int.emod_eq_of_lt (by omega) (by omega)]
theorem beh_nodup {o e : List Int} (nd : o.Nodup) (h : firstsM o e ≠ []) : ((rng 0 (o.length : Int)).map fun s => ix o ((frM o e + s) % o.length)).Nodup := by
  have hf := fr_lt h
  refine List.pairwise_map.mpr (List.Pairwise.imp_of_mem ?_ (rng_nodup 0 o.length))
  intro a b ha hb hne he
  have ha := rng_mem.mp ha
  have hb := rng_mem.mp hb
  have h1 := Int.emod_nonneg (frM o e + a) (show (o.length : Int) ≠ 0 by omega)
  have h2 := Int.emod_lt_of_pos (frM o e + a) (show (0 : Int) < o.length by omega)
  have h3 := Int.emod_nonneg (frM o e + b) (show (o.length : Int) ≠ 0 by omega)
  have h4 := Int.emod_lt_of_pos (frM o e + b) (show (0 : Int) < o.length by omega)
  have := ix_inj nd ⟨h1, h2⟩ ⟨h3, h4⟩ he
  rw [wrapP (by omega) (by omega), wrapP (by omega) (by omega)] at this
  apply hne
  split at this <;> split at this <;> omega
end Pf

namespace Pf
open PySem PySem.Spec PyProof.Rows L2
/-! ### the stacks along the order: heaps -/
theorem mod_add {a b n : Int} : (a + b % n) % n = (a + b) % n := by
  rw [Int.add_emod, Int.emod_emod_of_dvd _ (Int.dvd_refl n), ← Int.add_emod]
end Pf

namespace Pf
open PySem PySem.Spec PyProof.Rows L2
/-! ### stretches of the order, as a ring -/
theorem ix_mem {x : List Int} {k : Int} (h0 : 0 ≤ k) (h1 : k < x.length) : ix x k ∈ x := by
  obtain ⟨m, rfl⟩ : ∃ m : Nat, k = (m : Int) := ⟨k.toNat, by omega⟩
  have hm : m < x.length := by omega
  rw [ix_nat (List.getElem?_eq_getElem hm)]
  exact List.getElem_mem hm
theorem ix_idx {o : List Int} {x : Int} (h : x ∈ o) : ix o ((o.idxOf x : Nat) : Int) = x := by
  have hl := List.idxOf_lt_length_of_mem h
  rw [ix_nat (List.getElem?_eq_getElem hl)]
  exact List.getElem_idxOf hl
theorem idx_lt {o : List Int} {x : Int} (h : x ∈ o) : ((o.idxOf x : Nat) : Int) < o.length := by
  have hl := List.idxOf_lt_length_of_mem h
  omega
/-- st has just what stands from r on, m in all, of the order o as a ring -/
structure Stre (o st : List Int) (r m : Int) : Prop where
  nd : o.Nodup
  r0 : 0 ≤ r
  r1 : r < o.length
  m0 : 0 < m
  m1 : m < o.length
  mem : ∀ s : Int, 0 ≤ s → s < o.length → (ix o ((r + s) % o.length) ∈ st ↔ s < m)
theorem mod_add2 {a b n : Int} : (a % n + b) % n = (a + b) % n := by rw [Int.add_emod, Int.emod_emod_of_dvd _ (Int.dvd_refl n), ← Int.add_emod]
section
variable {o st : List Int} {r m : Int}
theorem Stre.at (S : Stre o st r m) (d : Int) : ix o (d % o.length) ∈ st ↔ (d - r) % o.length < m := by
  have nz : (o.length : Int) ≠ 0 := by have := S.r0; have := S.r1; omega
  have h := S.mem ((d - r) % o.length) (Int.emod_nonneg _ nz) (Int.emod_lt_of_pos _ (by have := S.r0; have := S.r1; omega))
  rw [mod_add, show r + (d - r) = d by omega] at h
  exact h
theorem Stre.first (S : Stre o st r m) : firstsM o st = [r] := by
  have r0 := S.r0; have r1 := S.r1; have m0 := S.m0; have m1 := S.m1
  have nd : (firstsM o st).Nodup := (rng_nodup 0 _).filter _
  have pm : (firstsM o st).Perm [r] := (List.perm_ext_iff_of_nodup nd (List.nodup_cons.mpr ⟨List.not_mem_nil, List.nodup_nil⟩)).mpr fun k => by
    unfold firstsM
    rw [List.mem_filter, rng_mem, List.mem_singleton, Bool.and_eq_true, decide_eq_true_eq, Bool.not_eq_true', decide_eq_false_iff_not]
    constructor
    · rintro ⟨⟨k0, k1⟩, h1, h2⟩
      have e1 : ix o k = ix o (k % o.length) := by rw [Int.emod_eq_of_lt k0 k1]
      rw [e1, S.at] at h1
      rw [S.at] at h2
      rw [wrapN (by omega) (by omega)] at h1 h2
      split at h1 <;> split at h2 <;> omega
    · rintro rfl
      refine ⟨⟨r0, r1⟩, ?_, ?_⟩
      · have e1 : ix o k = ix o (k % o.length) := by rw [Int.emod_eq_of_lt r0 r1]
        rw [e1, S.at, show k - k = 0 by omega, Int.zero_emod]; exact m0
      · rw [S.at, show k - 1 - k = -1 by omega, wrapN (by omega) (by omega), if_pos (by omega)]; omega
  exact List.perm_singleton.mp pm
theorem Stre.fr (S : Stre o st r m) : frM o st = r := by unfold frM; rw [S.first]; rfl
/-- how far behind the first -/
def psn (o : List Int) (r x : Int) : Int := (((o.idxOf x : Nat) : Int) - r) % o.length
theorem psn_lt (S : Stre o st r m) (x : Int) : 0 ≤ psn o r x ∧ psn o r x < o.length := by
  have r0 := S.r0; have r1 := S.r1
  exact ⟨Int.emod_nonneg _ (by omega), Int.emod_lt_of_pos _ (by omega)⟩
theorem Stre.at_psn (S : Stre o st r m) {x : Int} (hx : x ∈ o) : ix o ((r + psn o r x) % o.length) = x := by
  have hl := idx_lt hx
  unfold psn
  rw [mod_add, show r + (((o.idxOf x : Nat) : Int) - r) = ((o.idxOf x : Nat) : Int) by omega, Int.emod_eq_of_lt (by omega) hl, ix_idx hx]
theorem look_uniq {κ α : Type} [DecidableEq κ] : ∀ {l : List (κ × α)} {k : κ} {x : α}, (l.map (·.1)).Nodup → (k, x) ∈ l → look l k = some x
  | [], _, _, _, h => by cases h
  | e :: l, k, x, nd, h => by
    rw [List.map_cons, List.nodup_cons] at nd
    unfold look
    rcases List.mem_cons.mp h with rfl | h
    · rw [List.find?_cons_of_pos (by simp)]; rfl
    · have ne : e.1 ≠ k := fun z => nd.1 (by rw [z]; exact List.mem_map.mpr ⟨(k, x), h, rfl⟩)
      rw [List.find?_cons_of_neg (by simp [ne])]
      exact look_uniq nd.2 h
theorem Stre.look (S : Stre o st r m) {x : Int} (hx : x ∈ o) : Pf.look (behM o st).l x = some (psn o r x) := by
  have nd := beh_nodup (e := st) S.nd (by rw [S.first]; exact fun z => by cases z)
  have hp := psn_lt S x
  refine look_uniq ?_ ?_
  · unfold behM
    rw [List.map_map]
    exact nd
  · unfold behM
    refine List.mem_map.mpr ⟨psn o r x, rng_mem.mpr hp, ?_⟩
    rw [S.fr, S.at_psn hx]
/-- the other stack -/
theorem Stre.other (S : Stre o st r m) {st2 : List Int} (h2 : ∀ x ∈ o, x ∈ st2 ↔ x ∉ st) : Stre o st2 ((r + m) % o.length) (o.length - m) := by
  have r0 := S.r0; have r1 := S.r1; have m0 := S.m0; have m1 := S.m1
  refine ⟨S.nd, Int.emod_nonneg _ (by omega), Int.emod_lt_of_pos _ (by omega), by omega, by omega, fun s h0 h1 => ?_⟩
  rw [mod_add2, h2 _ (ix_mem (Int.emod_nonneg _ (by omega)) (Int.emod_lt_of_pos _ (by omega))), S.at, show r + m + s - r = m + s by omega, wrap (by omega) (by omega)]
  split <;> omega
/-! ### the law's own copies -/
end
end Pf

namespace Pf
open PySem PySem.Spec PyProof.Rows L2
/-! ### heaps, as the law goes along the strip -/
section
variable {o st od : List Int} {r m : Int}
end
section
variable {p : Plan} {l : T3}
end
end Pf

namespace Pf
open PySem PySem.Spec PyProof.Rows L2 LamX
/-! ### a kept lambda handed to a def by a name -/
section
variable {X : Cx}
end
/-! ### places that are none -/
section
variable {α : Type} [Rep α] {σ : L2.St} {G H : Hp} {te ta tb : TE} {tr : TA} {W : WX} {Q : VK}
end
section
variable {α β : Type} [Rep α] [Rep β] {σ : L2.St} {G H : Hp} {te : TE} {g : TG}
end
end Pf

namespace Pf
open PySem PySem.Spec PyProof.Rows L2
/-! ### what a def tells is new where it was handed tuples alone -/
def tupO (G : Hp) : Hp := fun a => match G a with
  | some (.tup vs) => some (.tup vs)
  | _ => none
theorem tupO_of {G : Hp} {a : Addr} {vs : List V} (e : G a = some (.tup vs)) : tupO G a = some (.tup vs) := by unfold tupO; rw [e]
class TRep (α : Type) [Rep α] : Prop where
  t : ∀ {G : Hp} {v : V} {x : α}, rep G v x → rep (tupO G) v x
instance : TRep Int := ⟨fun h => h⟩
instance : TRep Bool := ⟨fun h => h⟩
instance : TRep Str := ⟨fun h => h⟩
instance {α β : Type} [Rep α] [Rep β] [TRep α] [TRep β] : TRep (α × β) := ⟨fun ⟨a, u, w, h1, h2, h3, h4⟩ => ⟨a, u, w, h1, tupO_of h2, TRep.t h3, TRep.t h4⟩⟩
instance {α β γ : Type} [Rep α] [Rep β] [Rep γ] [TRep α] [TRep β] [TRep γ] : TRep (Tri α β γ) := ⟨fun ⟨a, u, w, z, h1, h2, h3, h4, h5⟩ => ⟨a, u, w, z, h1, tupO_of h2, TRep.t h3, TRep.t h4, TRep.t h5⟩⟩
theorem paired_t {α : Type} [Rep α] [TRep α] {G : Hp} {vs : List V} {xs : List α} (h : Paired (rep G) vs xs) : Paired (rep (tupO G)) vs xs := Paired.mapP h fun _ _ r => TRep.t r
instance {α : Type} [Rep α] [TRep α] : TRep (Tup α) := ⟨fun ⟨a, vs, h1, h2, h3⟩ => ⟨a, vs, h1, tupO_of h2, paired_t h3⟩⟩
section
variable {α : Type} [Rep α] {σ : L2.St} {G H : Hp} {te : TE} {x : α} {K : Fg} {D : Ends} {u : TS}
end
end Pf

namespace Pf
open PySem PySem.Spec PyProof.Rows L2
/-! ### in how many ways a row can be folded -/
def wayN (l : List Nat) : Nat → Int → Int → Bool → Int
  | 0, _, _, _ => 0
  | f + 1, s, e, b => if e - s = 1 then (if ix l s = rl b then 1 else 0) else ((rng (s + 1) e).map fun m => wayN l f s m (!b) * wayN l f m e (!b)).sum
def way (l : List Nat) (s e : Int) (b : Bool) : Int := wayN l (e - s).toNat s e b
section
variable {l : List Nat} {s e : Int} {b : Bool}
end
/-! ### the ways that are known so far -/
section
variable {l : List Nat} {L S : Int} {h : Nat}
end
/-! ### the signs of a text, one by one -/
section
variable {σ : L2.St} {G : Hp} {te : TE}
theorem ei_str {z : Str} (h : Ev te σ G z) : EvI (iStr te) σ G (z.cps.toList.map fun c => (⟨#[c]⟩ : Str)) := fun H i R q => h H i _ fun v G' H' g k => by
  cases k
  refine ⟨z, rfl, q _ G' H' g ⟨fun k H s l => ?_, fun k H s l => ?_, fun k H v H' G1 x s1 s2 y e => ?_⟩⟩
  · rw [List.length_map] at l; show k < z.cps.size; simpa using l
  · rw [List.length_map] at l; show z.cps.size ≤ k; simpa using l
  · obtain ⟨rfl, c, hc, rfl⟩ := y
    rw [List.getElem?_map] at e
    have hc2 : z.cps.toList[k]? = some c := by rw [← hc]; simp
    rw [hc2] at e
    cases e
    exact ⟨G1, Gr.refl s2, rfl⟩
end
end Pf

namespace Pf
open PySem PySem.Spec PyProof.Rows L2
/-! ### ways of a word of hands -/
/-- the stretch of a row as a word -/
def bl1 (c : Nat) : Bool := decide (c = 114)
/-! ### all words -/
/-! ### two alike neighbours folded into one of the other hand -/
end Pf

namespace Pf
open PySem PySem.Spec PyProof.Rows L2
/-! ### which rows can be folded -/
end Pf

namespace Pf
open PySem PySem.Spec PyProof.Rows L2
/-! ### zip of two texts -/
def sigs (x : Str) : List Str := x.cps.toList.map fun c => (⟨#[c]⟩ : Str)
section
variable {σ : L2.St} {G : Hp} {ta tb : TE}
end
end Pf

/-! an exception that leaves a list comprehension -/
namespace Pf
open PySem PySem.Spec PyProof.Rows L2
/-- noting looks at the frame alone -/
theorem note_same {e : Value} {env env' : Env} (h : env.frame = env'.frame) : noteFrame e env = noteFrame e env' := by
  unfold noteFrame PySem.frameOf
  rw [h]
section
variable {M : Model} {A : Around} {E : Value → Shared → Prop} {s : Shared} {env : Env}
def compPostX (M : Model) (A : Around) (E : Value → Shared → Prop) (Q : Value → Shared → Prop) (acc : Value) (C : Addr) (fr : Option Addr) (r : Result) (s' : Shared) : Prop :=
  match r with
  | .ok _ => ∃ m, s'.heap.Ns C m ∧ ∀ h', Heap.SameBut C s'.heap h' → Q acc { s' with heap := h' }
  | .error x => ∃ m, s'.heap.Ns C m ∧ ∀ h', Heap.SameBut C s'.heap h' → ∀ cenv : Env, cenv.frame = fr → wpAny M A (passOn "comprehension.variables-let-go" x cenv : Sem Value) (fun _ _ => False) E { s' with heap := h' }
theorem comprehension_freeX {e : Expr} {scope : Scope} {pos : Pos} {newAcc first : Sem Value} {g : Comprehension} {gs : List Comprehension} {cl : List (Str × Addr)}
    {Q : Value → Shared → Prop}
    (hcl : clausesOf e = g :: gs) (hs : ∀ x, foldedSetIterable g.iter env x = pure x) (hclos : closureFor scope env = pure cl)
    (hkind : scope.kind = .function) (hnames : ∀ x ∈ scope.names, x.2 = .local → scope.names.lookup x.1 = some .local)
    (h : wpAny M A first (fun x s₁ => wpAny M A (pyIter x) (fun it s₂ => wpAny M A newAcc (fun acc s₃ =>
      wpAny M A (newFunctionEnv scope env.globals cl [] env.qual none .none (some env)) (fun cenv s₄ =>
        codeAny M A (.compStart e 0 it acc { cenv with scope := relabel scope env }) (compPostX M A E Q acc cenv.locals cenv.frame) s₄) E s₃) E s₂) E s₁) E s) :
    wpAny M A (comprehension e scope env pos newAcc false first none) Q E s := by
  unfold comprehension
  rw [hclos, hcl]
  refine wpAny_bind (wpAny_mono h (fun x s₁ h₁ => wpAny_bind (wpAny_standAt (wpAny_bind (wpAny_of_eq (hs x) (wpAny_bind (wpAny_holding (wpAny_mono h₁ (fun it s₂ h₂ =>
    wpAny_standIf (wpAny_bind (wpAny_mono h₂ (fun acc s₃ h₃ => wpAny_bind (wpAny_pure (wpAny_bind (wpAny_mono h₃ (fun cenv s₄ h₄ => ?_) fun _ _ h' => h')))) fun _ _ h' => h')))
      fun _ _ h' => h'))))))) fun _ _ h' => h')
  dsimp only
  have hv : ∀ x ∈ (scope.names.filter fun x => (x.2 == .local || x.2 == .cell) && x.1 != (".0" : Str)).reverse, x.2 = .local →
      Env.kindOf { cenv with scope := relabel scope env } x.1 = some .local := fun x hx hl => lookup_relabel_local (hnames x (List.mem_filter.mp (List.mem_reverse.mp hx)).1 hl)
  refine wpAny_holding (wpAny_bind (wpAny_attempt (wpAny_holding (wpAny_run (codeAny_mono h₄ fun r s' hr => ?_)))))
  cases r with
  | ok f =>
    obtain ⟨m, hn, hr⟩ := hr
    exact wpAny_bind (wpAny_holding (wpAny_comp_letGo (cenv := { cenv with scope := relabel scope env }) hkind _ s' m hv hn fun h' m' _ hs' => wpAny_pure (hr h' hs')))
  | error x =>
    obtain ⟨m, hn, hr⟩ := hr
    have hv' : ∀ x ∈ (scope.names.filter fun x => (x.2 == .local || x.2 == .cell) && x.1 != (".0" : Str)).reverse.drop 1 ++ (scope.names.filter fun x => (x.2 == .local || x.2 == .cell) && x.1 != (".0" : Str)).reverse.take 1,
        x.2 = .local → Env.kindOf { cenv with scope := relabel scope env } x.1 = some .local := fun x hx hl => by
      rcases List.mem_append.mp hx with h1 | h1
      · exact hv x (List.mem_of_mem_drop h1) hl
      · exact hv x (List.mem_of_mem_take h1) hl
    exact wpAny_bind (wpAny_holding (wpAny_comp_letGo (cenv := { cenv with scope := relabel scope env }) hkind _ s' m hv hn fun h' m' _ hs' => wpAny_mono (hr h' hs' _ rfl) (fun _ _ f => f.elim) fun _ _ y => y))
end
/-! ### what a block lets out: a call's exception in the air -/
def EB (X : Cx) (W : XK) : Value → Shared → Prop := fun u s' => ∃ (a : Addr) (B : Heap) (sI : Shared) (pins : List (Addr × Obj)) (σ : L2.St) (H : Hp) (cls : Value) (d : Option Addr),
    u = .ref a ∧ Inv X pins σ H sI ∧ (∀ b o, sI.heap.get? b = some o → b ∉ frs X.stack → B.get? b = some o) ∧ sI.heap.UpToSlots s'.heap ∧
      HandSPX.FlyingZ B X.stack a (L2N.Zn cls d) s'.heap ∧ H a = none ∧ s'.os = sI.os ∧ AllBare s'.gens ∧ W cls d H
section
variable {X : Cx} {pins : List (Addr × Obj)} {σ : L2.St} {H : Hp} {s s' : Shared} {W : XK}
theorem EB.of_call (I : Inv X pins σ H s) {u : Value} (c : L2N.CX X.prog X.w X.stack H s W u s') : EB X W u s' := by
  obtain ⟨a, B, H', cls, d, rfl, fl, hok, ub, na, os, ag, hE⟩ := c
  obtain ⟨G, g1, g2⟩ := restrict s'.heap fun b => (B.get? b).isSome || decide (b ∈ frs X.stack)
  have st : B.StaysIn s'.heap := fl.1
  have gB : ∀ b o, B.get? b = some o → G.get? b = some o := fun b o e => by
    rw [g1 b (by simp [e])]
    exact st b o e
  have gF : ∀ b, b ∈ frs X.stack → G.get? b = s'.heap.get? b := fun b hb => g1 b (by simp [hb])
  have og : ∀ b o, G.get? b = some o → s'.heap.get? b = some o ∧ ((B.get? b).isSome = true ∨ b ∈ frs X.stack) := fun b o e => by
    cases q : ((B.get? b).isSome || decide (b ∈ frs X.stack)) with
    | false => rw [g2 b q] at e; cases e
    | true =>
      rw [g1 b q] at e
      exact ⟨e, by simpa [Bool.or_eq_true] using q⟩
  refine ⟨a, B, { s with heap := G, gens := s'.gens, drawn := s'.drawn, toks := s'.toks }, pins, σ, H', cls, d, rfl, ?_, fun b o e hb => ?_, Heap.UpToSlots.of_keeps fun b o e => (og b o e).1, fl, na, os, ag, hE⟩
  · refine I.call (ch := []) ⟨fun b o e n hb _ => gB b o (ub.keep b o e n hb), fun b o e n hb _ => ?_, fun b o e n _ => ub.free b o e n, fun b o e _ => ?_, ub.tups, ub.frzs, ub.tbls⟩ (hok.kept gB) ag (fun _ z => nomatch z)
    · obtain ⟨sl, q⟩ := ub.slot b o e hb
      exact ⟨sl, by rw [gF b hb]; exact q⟩
    · by_cases hb : b ∈ frs X.stack
      · obtain ⟨sl, q⟩ := ub.slot b o e hb
        exact ⟨_, by rw [gF b hb]; exact q⟩
      · obtain ⟨o', q⟩ := ub.there b o e hb
        exact ⟨o', gB b o' q⟩
  · obtain ⟨e', h⟩ := og b o e
    rcases h with h | h
    · obtain ⟨o', q⟩ := Option.isSome_iff_exists.mp h
      have z := st b o' q
      rw [e'] at z; cases z
      exact q
    · exact absurd h hb
/-- a call's exception is taken by the block -/
theorem passB (σ : L2.St) : PassesAt (L2N.CX X.prog X.w) (X.wish (EB X W)) σ W := fun _ _ _ _ _ I c => EB.of_call I.unwish c
end
theorem ff_but {h h' base base' : Heap} {C : Addr} (sb : ∀ b, b ≠ C → h'.get? b = h.get? b) (hb : ∀ b, base.get? b = none → base'.get? b = none) : ∀ {l : List Env}, C ∉ frs l → h.FunFrames base l → h'.FunFrames base' l
  | [], _, _ => trivial
  | v :: l, hC, ⟨hk, ⟨L', o, hf, hb', ho, hd⟩, hr⟩ => by
    have e : frs (v :: l) = L' :: frs l := by unfold frs; rw [List.filterMap_cons, hf]
    rw [e] at hC
    refine ⟨hk, ⟨L', o, hf, hb L' hb', (sb L' fun z => hC (z ▸ List.mem_cons_self)).trans ho, hd⟩, ff_but sb hb (fun z => hC (List.mem_cons_of_mem _ z)) hr⟩
theorem held_but {h h' B : Heap} {C a L : Addr} {l : List Env} {Z : Obj → Prop} {oC : Obj} (hC : C ∉ frs l) (eC : B.get? C = some oC) (sb : ∀ b, b ≠ C → h'.get? b = h.get? b) (hd : HandSPX.HeldZ B l a Z L h) : HandSPX.HeldZ (PySem.W.hideAll B [C]) l a Z L h' := by
  obtain ⟨k1, k2, k3, oe, vs, T, oT, ts, he, hz, hdd, h1, hnT, hTe, hT, hdT, h3⟩ := hd
  have hb : ∀ b, B.get? b = none → (PySem.W.hideAll B [C]).get? b = none := fun b e => by
    cases q : (PySem.W.hideAll B [C]).get? b with
    | none => rfl
    | some o =>
      have z := PySem.W.of_hideAll _ q
      rw [e] at z; cases z
  have na : a ≠ C := fun z => by rw [z, eC] at k2; cases k2
  have nT : T ≠ C := fun z => by rw [z, eC] at hnT; cases hnT
  refine ⟨fun b o e => ?_, hb a k2, ff_but sb hb hC k3, oe, vs, T, oT, ts, (sb a na).trans he, hz, hdd, h1, hb T hnT, hTe, (sb T nT).trans hT, hdT, h3⟩
  have nb : b ≠ C := fun z => by
    rw [z, PySem.W.hideAll_none _ (List.mem_singleton.mpr rfl)] at e; cases e
  exact (sb b nb).trans (k1 b o (PySem.W.of_hideAll _ e))
section
variable {X : Cx}
/-- [elt for target in iter], a turn may let an exception out -/
theorem lcX_core {pins : List (Addr × Obj)} {s : Shared} {σ : L2.St} {H : Hp} {Q : VK} {elt tg iter : Expr} {ifs : List Expr} {scope : Scope} {own : List (Str × Nat)} {pos pos' : Pos} {wi : TI} {g : TG} {tt : TT} {te : TE} {Qf : Value → Shared → Prop} {W : XK} {Wo : WX}
    (hst : X.stack = X.env :: X.outer) (hf0 : X.env.frame = some X.env.locals) (tk : L2N.Takes X Wo) (hW : ∀ cls d σ H, W cls d H → Wo cls d σ H)
    (hc : X.calm = true) (hN : X.N.Nodup) (I : Inv X pins σ H s) (hi : PI X tg iter wi) (ok : BlkOk X.N X.env.scope scope own)
    (hg : ∀ (s : Shared) (H : Hp) (C : Addr) (cl : List (Str × Addr)) (fp : List Addr), PG (X.blk s H scope (compEnvC scope cl C X.env) fp) tg g) (ht : ∀ (s : Shared) (H : Hp) (C : Addr) (cl : List (Str × Addr)) (fp : List Addr), PTs (X.blk s H scope (compEnvC scope cl C X.env) fp) ifs tt)
    (he : ∀ (s : Shared) (H : Hp) (C : Addr) (cl : List (Str × Addr)) (fp : List Addr), PE ((X.blk s H scope (compEnvC scope cl C X.env) fp).wish (EB (X.blk s H scope (compEnvC scope cl C X.env) fp) W)) elt te) (hs : ∀ x, foldedSetIterable iter X.env x = pure x)
    (h : tLc wi g tt te (own.map (·.2)) σ H Q)
    (hRR : ∀ D C s' m H', Inv X pins σ H' s' → Q (.ref D) H' → s'.heap.Ns C m → FpOk X pins H' C → ∃ m, s'.heap.Ns C m ∧ ∀ h', Heap.SameBut C s'.heap h' → Qf (.ref D) { s' with heap := h' }) :
    wpAny (model X.prog X.w) X.A (comprehension (.ListComp elt [⟨tg, iter, ifs, 0⟩] scope pos) scope X.env pos' (newList []) false (eval iter X.env) none) Qf X.xe s := by
  have hfree : ∀ y ∈ scope.names, y.2 = .free → ∃ c, X.env.cells.lookup y.1 = some c := fun y hy e => by
    rcases ok.free y hy e with k | k
    · exact I.ok.has _ (.inl k)
    · exact I.ok.has _ (.inr k)
  refine comprehension_freeX rfl hs (closure_ok hfree) ok.kind (fun y hy e => by rw [ok.uniq y hy, e])
    (thn (hi.run pins s σ H _ I h) fun xv s1 hx => thn hx fun itv s2 h2 => ?_)
  obtain ⟨it, fp, tn, J, H2, e, I2, T, st2, f2, q⟩ := h2
  subst e
  refine wpAny_newObj_type (newEnv_comp ?_) (by show 0 ≤ sizeLine; decide)
  generalize hD : s2.heap.objs.size = D
  have hDn : H2 D = none := I2.hok.fresh (Nat.le_of_eq hD)
  obtain ⟨WW, ⟨m0, w0⟩, turn⟩ := q D hDn
  generalize hs3 : ({ s2 with heap := s2.heap.push { cls := .type "list", data := .seq ([] : List Value).toArray } } : Shared) = s3
  have I3 : Inv X pins σ (upd H2 D (.lst [])) s3 := by
    rw [← hs3]
    refine I2.laid (t' := s2.toks) (fun b o e => Heap.get?_push_of_some _ e) (Nat.le_of_eq hD) ⟨Nat.zero_le _, [], 0, .nil, ?_⟩
    rw [← hD]
    exact Heap.get?_push_size _ rfl
  have h3 : s3.heap = s2.heap.push { cls := .type "list", data := .seq ([] : List Value).toArray } := by rw [← hs3]
  have sz : ∀ b ∈ fp, b < s2.heap.objs.size := fun b hb => by
    obtain ⟨o, e, _⟩ := T.obj _ _ st2 b hb
    exact Heap.lt_size e
  have f3 : ∀ b ∈ fp, FpOk X pins (upd H2 D (.lst [])) b ∧ b < s3.heap.objs.size := fun b hb => by
    have hlt := sz b hb
    refine ⟨⟨?_, (f2 b hb).2⟩, by rw [h3, Heap.size_push]; exact Nat.lt_succ_of_lt hlt⟩
    rw [upd_ne (by rw [← hD]; exact Nat.ne_of_lt hlt)]
    exact (f2 b hb).1
  have st3 : tn 0 s3.heap := T.keep _ _ _ st2 fun b _ o e => by rw [h3]; exact Heap.get?_push_of_some _ e
  have I4 := block_start I3 ok hN f3
  have pg := hg s3 (upd H2 D (.lst [])) s3.heap.objs.size (cellsFrom (s3.heap.objs.size + 1) scope.names (cloFrom X.env.cells scope.names [])) fp
  have pt := ht s3 (upd H2 D (.lst [])) s3.heap.objs.size (cellsFrom (s3.heap.objs.size + 1) scope.names (cloFrom X.env.cells scope.names [])) fp
  have pe := he s3 (upd H2 D (.lst [])) s3.heap.objs.size (cellsFrom (s3.heap.objs.size + 1) scope.names (cloFrom X.env.cells scope.names [])) fp
  show codeAny _ _ (.compStart (.ListComp elt [⟨tg, iter, ifs, 0⟩] scope pos) 0 (.ref it) (.ref D) (compEnvC scope (cellsFrom (s3.heap.objs.size + 1) scope.names (cloFrom X.env.cells scope.names [])) s3.heap.objs.size X.env)) (compPostX (model X.prog X.w) X.A X.xe Qf (.ref D) s3.heap.objs.size X.env.frame) { s3 with heap := pushCells (s3.heap.push { cls := .type "dict", data := .dict #[] }) scope.names }
  have nfp : ∀ b ∈ fp, (upd H2 D (.lst [])) b = none := fun b hb => (f3 b hb).1.1
  have cF : (compEnvC scope (cellsFrom (s3.heap.objs.size + 1) scope.names (cloFrom X.env.cells scope.names [])) s3.heap.objs.size X.env).frame = X.env.frame := rfl
  generalize hce : compEnvC scope (cellsFrom (s3.heap.objs.size + 1) scope.names (cloFrom X.env.cells scope.names [])) s3.heap.objs.size X.env = ce at I4 pg pt pe cF ⊢
  have cL : ce.locals = s3.heap.objs.size := by subst hce; rfl
  generalize hH3 : upd H2 D (.lst []) = H3 at I3 I4 pg pt pe w0 nfp f3
  generalize hs4 : ({ s3 with heap := pushCells (s3.heap.push { cls := .type "dict", data := .dict #[] }) scope.names } : Shared) = s4 at I4 ⊢
  have st4 : tn 0 s4.heap := T.keep _ _ _ st3 fun b _ o e => by rw [← hs4]; exact pushCells_keeps _ _ _ _ (Heap.get?_push_of_some _ e)
  have stat : ∀ {σ' : L2.St} {H' : Hp} {s' : Shared}, Inv (X.blk s3 H3 scope ce fp) [] σ' H' s' → (∀ b ∈ fp, H' b = none) → ∀ b ∈ fp, FpOk (X.blk s3 H3 scope ce fp) [] H' b := fun {σ' H' s'} I' hn b hb =>
    ⟨hn b hb, (I'.ok.exf b hb).1, I'.ok.exfs b hb, .inl hb, fun x c e => (I'.ok.exf b hb).2 x c e, fun p hp => absurd (show p ∈ ([] : List (Addr × Obj)) ++ [] from hp) (by simp)⟩
  -- what a turn lets out
  have noteB : ∀ e s', EB (X.blk s3 H3 scope ce fp) W e s' → notedBy (model X.prog X.w) X.A ce (fun x s'' => compPostX (model X.prog X.w) X.A X.xe Qf (.ref D) s3.heap.objs.size X.env.frame (.error x) s'') e s' := by
    rintro _ s' ⟨a, B, sI, pins', σ', H', cls, d, rfl, I', nb, up, fl, na, os, ag, w⟩
    have fl : HandSPX.FlyingZ B (X.env :: X.outer) a (L2N.Zn cls d) s'.heap := hst ▸ fl
    have hfr : X.A.frames = some (X.env :: X.outer) := by rw [I3.ok.frames, hst]
    show wpAny _ _ (noteFrame (.ref a) ce) _ _ s'
    rw [note_same cF]
    refine PXN.looks_onZ L2N.Zn.steady hfr hf0 fl (fun h' hd up' => ?_)
    obtain ⟨m, hn, _⟩ := I'.loc
    have hn : sI.heap.Ns ce.locals m := hn
    rw [cL] at hn
    obtain ⟨oC, es, ep, hoC, hdC, rC⟩ := hn
    have hCf : s3.heap.objs.size ∉ frs X.stack := fun z => by
      have z : s3.heap.objs.size ∈ (X.blk s3 H3 scope ce fp).fs := z
      obtain ⟨_, o, e, _⟩ := I'.ok.funs.mem z
      exact absurd (Heap.lt_size e) (Nat.lt_irrefl _)
    have eC : B.get? s3.heap.objs.size = some oC := nb _ _ hoC hCf
    refine ⟨m, ⟨oC, es, ep, hd.1 _ _ eC, hdC, rC⟩, fun h'' sb cenv eF => ?_⟩
    have sb' : ∀ b, b ≠ s3.heap.objs.size → h''.get? b = h'.get? b := sb.2
    have hd2 : HandSPX.HeldZ (PySem.W.hideAll B [s3.heap.objs.size]) (X.env :: X.outer) a (L2N.Zn cls d) X.env.locals h'' := held_but (hst ▸ hCf) eC sb' hd
    have nC : H' s3.heap.objs.size = none := by
      have z : H' ce.locals = none := I'.free
      rw [cL] at z
      exact z
    have I7 : Inv X pins σ H' sI := I3.call' (ch := fp) I'.os I'.base I'.hok I'.bare fun b hb => ⟨(f3 b hb).1.2.2.2.1, (f3 b hb).1.2.1, (f3 b hb).1.2.2.2.2.1, (f3 b hb).1.2.2.2.2.2⟩
    obtain ⟨f0, f1, f2', f3', f4, f5⟩ := (I3.fpOk (Nat.le_refl _) nC : FpOk X pins H' s3.heap.objs.size)
    have IX : Inv X pins σ H' { sI with heap := PySem.W.hideAll sI.heap [s3.heap.objs.size] } := I7.turned (h' := PySem.W.hideAll sI.heap [s3.heap.objs.size]) (t' := sI.toks) (fun b o hb e => PySem.W.hideAll_get _ e fun z => hb (List.mem_singleton.mp z)) f0 f1 f3' f4 f5
    have ne : ∀ b o, (PySem.W.hideAll sI.heap [s3.heap.objs.size]).get? b = some o → b ≠ s3.heap.objs.size ∧ sI.heap.get? b = some o := fun b o e => ⟨fun z => (by
      rw [z, PySem.W.hideAll_none _ (List.mem_singleton.mpr rfl)] at e; cases e), PySem.W.of_hideAll _ e⟩
    obtain ⟨oe, vs, TT, oT, ts, hee, hz, hdd, h1, _⟩ := hd2.2.2.2
    unfold PySem.passOn
    refine wpAny_bind (wpAny_field (s := { s' with heap := h'' }) hee hdd h1 ?_)
    rw [if_neg (show ¬ ((Value.ref TT == Value.none) = true) from by simp)]
    rw [eF, hf0]
    refine wpAny_bind (HandSPX.setFlight_onZ (s := { s' with heap := h'' }) hd2 fun h3 hd3 up3 => ?_)
    refine wpAny_throw (tk _ _ ⟨a, PySem.W.hideAll B [s3.heap.objs.size], { sI with heap := PySem.W.hideAll sI.heap [s3.heap.objs.size] }, pins, σ, H', cls, d, rfl, IX, fun b o e hb => ?_, fun b o e hnf => ?_, .inr (.inr (hst ▸ hd3)), na, os, ag, hW _ _ _ _ w⟩)
    · obtain ⟨n1, e1⟩ := ne b o e
      exact PySem.W.hideAll_get _ (nb b o e1 hb) fun z => n1 (List.mem_singleton.mp z)
    · obtain ⟨n1, e1⟩ := ne b o e
      obtain ⟨sl, q1⟩ := (up.trans up') b o e1 hnf
      obtain ⟨sl2, q2⟩ := up3 b _ ((sb' b n1).trans q1) hnf
      exact ⟨sl2, q2⟩
  have loop : codeAny (model X.prog X.w) X.A (.compLoop (.ListComp elt [⟨tg, iter, ifs, 0⟩] scope pos) 0 (.ref it) (.ref D) ce) (compPostX (model X.prog X.w) X.A X.xe Qf (.ref D) s3.heap.objs.size X.env.frame) s4 := by
    refine compLoop_any (fun n s' => ∃ i H', Inv (X.blk s3 H3 scope ce fp) [] (wipe σ (own.map (·.2))) H' s' ∧ tn i s'.heap ∧ (∀ b ∈ fp, H' b = none) ∧ WW i n H') ?_ m0 ⟨0, H3, I4, st4, nfp, w0⟩
    rintro n s5 ⟨i, H5, I5, st5, n5, w5⟩
    rcases turn i n H5 w5 with ⟨stop, qq⟩ | ⟨go, Nx, hNx, step⟩
    · have td := T.done (X.blk s3 H3 scope ce fp) rfl rfl rfl hc i [] s5 _ H5 (fun _ _ => False) I5 (stat I5 n5) st5 stop
      refine thnF td fun r s6 ⟨hr, I6⟩ => ?_
      subst hr
      have I7 : Inv X pins σ H5 s6 := I3.call' (ch := fp) I6.os I6.base I6.hok I6.bare fun b hb => ⟨(f3 b hb).1.2.2.2.1, (f3 b hb).1.2.1, (f3 b hb).1.2.2.2.2.1, (f3 b hb).1.2.2.2.2.2⟩
      have nC : H5 s3.heap.objs.size = none := by
        have z : H5 ce.locals = none := I6.free
        rw [cL] at z
        exact z
      obtain ⟨m, hn, _⟩ := I6.loc
      have hn : s6.heap.Ns ce.locals m := hn
      rw [cL] at hn
      exact hRR D s3.heap.objs.size s6 m H5 I7 qq hn (I3.fpOk (Nat.le_refl _) nC)
    · have ti := T.item (X.blk s3 H3 scope ce fp) rfl rfl rfl hc i [] s5 _ H5 (fun _ _ => False) I5 (stat I5 n5) st5 go
      refine thnF ti fun r s6 ⟨u, hr, h6⟩ => ?_
      subst hr
      refine thnF h6 fun _ s7 ⟨x, H7, I7, r7, y7, st7, n7⟩ => ?_
      have I7' := I7.pinned (stat I7 n7) (T.obj _ _ st7)
      refine thnF (pg.run _ s7 _ H7 x u _ I7' r7 (step x H7 y7)) fun _ s8 ⟨σ8, H8, I8, hw8, q8⟩ => ?_
      refine thnF (pt.run _ s8 σ8 H8 _ I8 q8) fun b s9 ⟨H9, I9, q9⟩ => ?_
      have fin : ∀ {s' : Shared} {H' : Hp}, Inv (X.blk s3 H3 scope ce fp) ([] ++ pinsAt fp s7.heap) σ8 H' s' → Nx H' → ∃ m, m < n ∧ ∃ i H', Inv (X.blk s3 H3 scope ce fp) [] (wipe σ (own.map (·.2))) H' s' ∧ tn i s'.heap ∧ (∀ b ∈ fp, H' b = none) ∧ WW i m H' := fun {s' H'} I' nx => by
        obtain ⟨m', hm, w'⟩ := hNx H' nx
        have pin' : ∀ b ∈ fp, ∀ o, s7.heap.get? b = some o → s'.heap.get? b = some o ∧ H' b = none := fun b hb o e =>
          let z := I'.pin (b, o) (List.mem_append_right _ (List.mem_append_right _ (mem_pinsAt hb e)))
          ⟨z.1, z.2.1⟩
        have hl : (wipe σ (own.map (·.2))).length = σ8.length := by rw [← hw8, wipe_length]
        refine ⟨m', hm, i + 1, H', (I'.unpinned (pins := [])).weak hl (fun j v e => ?_), T.keep _ _ _ st7 fun b hb o e => (pin' b hb o e).1, fun b hb => ?_, w'⟩
        · rw [← hw8] at e
          exact (wipe_some e).1
        · obtain ⟨o, e, _⟩ := T.obj _ _ st7 b hb
          exact (pin' b hb o e).2
      cases b with
      | false =>
        simp only [Bool.false_eq_true, if_false] at q9 ⊢
        exact fin I9 q9
      | true =>
        simp only [if_true] at q9 ⊢
        refine wpAny_mono (pe.run _ s9 σ8 H9 _ (I9.wish _) q9) (fun z s10 ⟨yv, H10, I10, r10, acc, hD10, hz10, nx⟩ => ?_) (fun e s' hb => noteB e s' hb)
        exact app_ok (X := X.blk s3 H3 scope ce fp) I10.unwish hD10 hz10 r10 fun s11 I11 => fin I11 nx
  exact codeAny_compStart_list loop (T.self X.A 0 _ _ _ st4 loop)
/-- as a value -/
theorem pe_lcX {elt tg iter : Expr} {ifs : List Expr} {scope : Scope} {own : List (Str × Nat)} {pos : Pos} {wi : TI} {g : TG} {tt : TT} {te : TE} {W : XK} {Wo : WX} (hst : X.stack = X.env :: X.outer) (hf0 : X.env.frame = some X.env.locals) (tk : L2N.Takes X Wo) (hW : ∀ cls d σ H, W cls d H → Wo cls d σ H)
    (hc : X.calm = true) (hN : X.N.Nodup) (hi : PI X tg iter wi) (ok : BlkOk X.N X.env.scope scope own)
    (hg : ∀ (s : Shared) (H : Hp) (C : Addr) (cl : List (Str × Addr)) (fp : List Addr), PG (X.blk s H scope (compEnvC scope cl C X.env) fp) tg g) (ht : ∀ (s : Shared) (H : Hp) (C : Addr) (cl : List (Str × Addr)) (fp : List Addr), PTs (X.blk s H scope (compEnvC scope cl C X.env) fp) ifs tt)
    (he : ∀ (s : Shared) (H : Hp) (C : Addr) (cl : List (Str × Addr)) (fp : List Addr), PE ((X.blk s H scope (compEnvC scope cl C X.env) fp).wish (EB (X.blk s H scope (compEnvC scope cl C X.env) fp) W)) elt te) (hs : ∀ x, foldedSetIterable iter X.env x = pure x := by intro _; rfl) :
    PE X (.ListComp elt [⟨tg, iter, ifs, 0⟩] scope pos) (tLc wi g tt te (own.map (·.2))) := by
  refine ⟨fun pins s σ H Q I h => ?_⟩
  rw [eval_ListComp]
  refine lcX_core hst hf0 tk hW hc hN I hi ok hg ht he hs h fun D C s' m H' I' q hn f => ⟨m, hn, fun h'' sb => ?_⟩
  obtain ⟨f0, f1, f2, f3, f4, f5⟩ := f
  exact ⟨.ref D, H', I'.turned (t' := s'.toks) (fun b o hb e => (sb.2 b hb).trans e) f0 f1 f3 f4 f5, rfl, q⟩
end
end Pf

namespace Pf
open PySem PySem.Spec PyProof.Rows L2
/-! ### a def that tells at some values and raises at others -/
section
variable {α β : Type} [Rep α] [Rep β] {σ : L2.St} {G H : Hp} {ta tb : TE} {W : WX} {Q : VK}
end
end Pf

namespace Pf
open PySem PySem.Spec PyProof.Rows L2
/-! ### ways to cut as trees, and the words of hands that they have -/
inductive BT where
  | lf
  | nd (a b : BT)
def BT.sz : BT → Nat
  | .lf => 1
  | .nd a b => a.sz + b.sz
/-- the hands of the leaves in the strip's order, within a part of the hand o -/
def BT.wd : BT → Bool → List Bool
  | .lf, o => [o]
  | .nd a b, o => if o = true then b.wd (!o) ++ a.wd (!o) else a.wd (!o) ++ b.wd (!o)
/-- the lines inside, from the corner s on -/
def BT.ln : BT → Int → List (Int × Int)
  | .lf, _ => []
  | .nd a b, s => (s, s + a.sz) :: (s + a.sz, s + a.sz + b.sz) :: (a.ln s ++ b.ln (s + a.sz))
theorem BT.pos : ∀ t : BT, 1 ≤ t.sz
  | .lf => Nat.le_refl 1
  | .nd a b => by have := a.pos; show 1 ≤ a.sz + b.sz; omega
theorem BT.cut : ∀ (t : BT) (s : Int), CutT s (s + t.sz) (t.ln s)
  | .lf, s => .leaf (by show s + (1 : Nat) - s = 1; omega)
  | .nd a b, s => by
    have h1 := a.pos
    have h2 := b.pos
    have z := CutT.node (s := s) (m := s + a.sz) (e := s + a.sz + b.sz) (by omega) (by omega) (a.cut s) (b.cut (s + a.sz))
    have e : s + ((BT.nd a b).sz : Nat) = s + a.sz + b.sz := by show s + ((a.sz + b.sz : Nat) : Int) = _; omega
    rw [e]; exact z
theorem BT.small : ∀ (t : BT) (s : Int), (t.ln s).length + 2 = 2 * t.sz
  | .lf, s => rfl
  | .nd a b, s => by
    have h1 := a.small s
    have h2 := b.small (s + a.sz)
    show (((s, s + (a.sz : Int)) :: (s + (a.sz : Int), s + a.sz + b.sz) :: (a.ln s ++ b.ln (s + a.sz)) : List (Int × Int)).length) + 2 = 2 * (a.sz + b.sz)
    rw [List.length_cons, List.length_cons, List.length_append]; omega
/-- the stack of a tree, put down -/
theorem ord_wd {p : Plan} (h : isPlanM p = true) {n : Int} (hn : p.1 = n) : ∀ (t : BT) (s e : Int) (o : Bool), 1 ≤ s → e = s + t.sz → e ≤ n → Sub (fun a b => Jn p (a % n) (b % n)) s e (t.ln s) → Jn p s (e % n) →
    (∀ m, Tr p s m (e % n) → hnd p s (e % n) m = !o) → (e = s + 1 → leafH p s = o) → (ordF p s (e % n) (!o)).map (leafH p) = t.wd o
  | .lf, s, e, o, h1, he, hen, _, j, _, hl => by
    have he : e = s + 1 := he
    have hs : 0 ≤ s ∧ s < p.1 := by omega
    have z : look (thirdsM p).l (s, e % n) = none := (look_none h j).mpr (by rw [hn, he])
    have e1 : ordF p s (e % n) (!o) = [s] := by
      show (match look (thirdsM p).l (s, e % n) with | none => [s] | some c => if (!o) = true then ordN p 39 s c (!!o) ++ ordN p 39 c (e % n) (!!o) else ordN p 39 c (e % n) (!!o) ++ ordN p 39 s c (!!o)) = _
      rw [z]
    rw [e1]
    show [leafH p s] = [o]
    rw [hl he]
  | .nd a b, s, e, o, h1, he, hen, hsub, j, hh, _ => by
    have pa := a.pos
    have pb := b.pos
    have he : e = s + a.sz + b.sz := by rw [he]; show s + ((a.sz + b.sz : Nat) : Int) = _; omega
    have hsub : Sub (fun a b => Jn p (a % n) (b % n)) s e ((s, s + a.sz) :: (s + a.sz, e) :: (a.ln s ++ b.ln (s + a.sz))) := by
      have e2 : (BT.nd a b).ln s = (s, s + a.sz) :: (s + a.sz, e) :: (a.ln s ++ b.ln (s + a.sz)) := by rw [he]; rfl
      rw [e2] at hsub; exact hsub
    have ca := a.cut s
    have cb : CutT (s + a.sz) e (b.ln (s + a.sz)) := by rw [he]; exact b.cut (s + a.sz)
    obtain ⟨j1, j2⟩ := Sub.mid hsub (by omega) (by omega)
    have em : (s + (a.sz : Int)) % n = s + a.sz := Int.emod_eq_of_lt (by omega) (by omega)
    have es : s % n = s := Int.emod_eq_of_lt (by omega) (by omega)
    rw [es, em] at j1
    rw [em] at j2
    have cy : Cy s (s + a.sz) (e % n) := by
      by_cases hen2 : e = n
      · rw [hen2, Int.emod_self]; unfold Cy; omega
      · rw [Int.emod_eq_of_lt (by omega) (by omega)]; unfold Cy; omega
    have tr : Tr p s (s + a.sz) (e % n) := ⟨cy, j, j1, j2⟩
    have hm := hh _ tr
    have ta := Sub.left hsub (by omega) (by omega) cb
    have tb := Sub.right hsub (by omega) (by omega) ca
    -- the parts of the two lines on the other side are this one
    have r1 : hnd p s (s + a.sz) (e % n) = !o := by rw [hnd_sw2, hm]
    have r2 : hnd p (s + a.sz) (e % n) s = !o := by rw [hnd_rot, hnd_sw, hm]
    have ha := ord_wd h hn a s (s + a.sz) (!o) h1 rfl (by omega) ta (by rw [em]; exact j1) (fun m t => by
      rw [em] at t ⊢
      have := hnd_flip h t tr.rot
      rw [this, r1]) (fun e3 => by
      obtain ⟨c, x, q⟩ := leaf_part h (k := s) (by omega)
      have e4 : (s + 1) % p.1 = s + a.sz := by rw [hn, ← e3, em]
      rw [e4] at x q
      have := Tr.uniq h x tr.rot
      rw [q, this, hnd_sw, r1])
    have hb := ord_wd h hn b (s + a.sz) e (!o) (by omega) he hen tb j2 (fun m t => by
      have := hnd_flip h t tr.rot.rot
      rw [this, r2]) (fun e3 => by
      obtain ⟨c, x, q⟩ := leaf_part h (k := s + a.sz) (by omega)
      have e4 : (s + (a.sz : Int) + 1) % p.1 = e % n := by rw [hn, ← e3]
      rw [e4] at x q
      have := Tr.uniq h x tr.rot.rot
      rw [q, this, hnd_sw, r2])
    rw [em] at ha
    rw [ordF_step h tr (!o)]
    show _ = (if o = true then b.wd (!o) ++ a.wd (!o) else a.wd (!o) ++ b.wd (!o))
    cases o
    · rw [if_pos (show (!false) = true from rfl), if_neg (show ¬ (false = true) by decide), List.map_append, ha, hb]
    · rw [if_neg (show ¬ ((!true) = true) by decide), if_pos (show true = true from rfl), List.map_append, ha, hb]
/-- the plan of a tree -/
def BT.plan (t : BT) : Plan := planOf ((t.sz : Int) + 1) (t.ln 1)
theorem BT.cut1 (t : BT) : CutT 1 ((t.sz : Int) + 1) (t.ln 1) := by
  have z := t.cut 1
  rw [Int.add_comm] at z; exact z
theorem BT.is_plan {t : BT} (h2 : 2 ≤ t.sz) (h39 : t.sz ≤ 39) : isPlanM t.plan = true := drawn_is_plan t.cut1 (by omega) (by omega)
theorem BT.row {t : BT} (h2 : 2 ≤ t.sz) (h39 : t.sz ≤ 39) : rowL t.plan = (true :: t.wd false).map rl := by
  have hp := BT.is_plan h2 h39
  have hs := sub_p t.cut1 (by omega)
  have j : Jn t.plan 1 (((t.sz : Int) + 1) % ((t.sz : Int) + 1)) := by rw [Int.emod_self]; exact jn_10 hp
  have z := ord_wd hp (n := (t.sz : Int) + 1) rfl t 1 ((t.sz : Int) + 1) false (by omega) (by omega) (by omega) hs j (fun m _ => by
    rw [Int.emod_self, hnd_sw, hnd_root hp]; rfl) (fun e => by omega)
  rw [Int.emod_self] at z
  obtain ⟨c, x, q⟩ := leaf_part hp (k := 0) (by have : t.plan.1 = (t.sz : Int) + 1 := rfl; omega)
  have e1 : ((0 : Int) + 1) % t.plan.1 = 1 := Int.emod_eq_of_lt (by omega) (by have : t.plan.1 = (t.sz : Int) + 1 := rfl; omega)
  have h0 : leafH t.plan 0 = true := by
    rw [e1] at q
    rw [q, hnd_sw, hnd_root hp]
  have e2 : rowL t.plan = ((ordM t.plan).map (leafH t.plan)).map rl := by unfold rowL; rw [List.map_map]; rfl
  rw [e2]
  congr 1
  show (([0] ++ ordF t.plan 1 0 true).map (leafH t.plan)) = _
  rw [List.map_append]
  have z : (ordF t.plan 1 0 true).map (leafH t.plan) = t.wd false := z
  rw [z]
  show [leafH t.plan 0] ++ _ = _
  rw [h0]; rfl
/-! ### the trees of a stretch of a row -/
section
variable {l : List Nat} {s e : Int} {b : Bool}
end
/-- the hands of a stretch -/
def hw (l : List Nat) (s e : Int) : List Bool := (rng s e).map fun k => bl1 (ix l k)
end Pf

namespace Pf
open PySem PySem.Spec PyProof.Rows L2
/-! ### corners in the middle, along pinches -/
section
variable {p : Plan}
end
/-! ### what is seen, by copies -/
end Pf

namespace Pf
open PySem PySem.Spec PyProof.Rows L2
/-! ### x in (y, z): data of any depth within a tuple -/
section
variable {X : Cx} {K : Fg}
end
section
variable {α : Type} [Rep α] {σ : L2.St} {G : Hp} {ta tb tc : TE} {K : Fg} {x : α}
end
end Pf

namespace Pf
open PySem PySem.Spec PyProof.Rows L2
/-! ### steps of a road, and tuples that are none -/
inductive Stv where
  | over
  | mv (u o : Bool)
  | bad (k : Fin 7)
  deriving DecidableEq
def wdW (u : Bool) : Str := if u then "unpinch" else sP
def wyW (o : Bool) : Str := if o then sO else sE
def badL : List (List Str) := [["no"], ["pinch"], ["pinch", "left"], ["over", "even"], [], ["pinch", "even", "even"], ["Over"]]
def Stv.l : Stv → List Str
  | .over => ["over"]
  | .mv u o => [wdW u, wyW o]
  | .bad k => badL.getD k.val []
instance : Rep Stv := ⟨fun G v x => rep G v (Tup.mk x.l), fun e h => Rep.mono (α := Tup Str) e h⟩
instance : Inhabited Stv := ⟨.over⟩
def allStv : List Stv := [.over, .mv false false, .mv false true, .mv true false, .mv true true, .bad 0, .bad 1, .bad 2, .bad 3, .bad 4, .bad 5, .bad 6]
theorem stp_all (x : Stv) : x ∈ allStv := by
  cases x with
  | over => decide
  | mv u o => cases u <;> cases o <;> decide
  | bad k => revert k; decide
theorem stp_eq0 : ∀ x ∈ allStv, ∀ y ∈ allStv, PyData.eqv (dat (Tup.mk x.l)) (dat (Tup.mk y.l)) = decide (x = y) := by decide +kernel
theorem stp_lay0 : ∀ x ∈ allStv, (dat (Tup.mk x.l)).canLay0 = true ∧ (dat (Tup.mk x.l)).depth ≤ 1 := by decide +kernel
theorem stp_inj0 : ∀ x ∈ allStv, ∀ y ∈ allStv, x.l = y.l → x = y := by decide +kernel
instance : Dat Stv := ⟨fun x => dat (Tup.mk x.l), fun h => Dat.rd (α := Tup Str) h, fun {x y} h => stp_inj0 x (stp_all x) y (stp_all y) (by have := Dat.inj (α := Tup Str) h; injection this)⟩
instance : DatE Stv := { (inferInstance : Dat Stv) with ok := fun x => (stp_lay0 x (stp_all x)).1, dp := 1, deep := fun x => (stp_lay0 x (stp_all x)).2, eq := fun x y => stp_eq0 x (stp_all x) y (stp_all y) }
/-- the place behind a step, by the plan -/
def stepM (p : Plan) (s : Int × Int) : Stv → Option (Int × Int)
  | .over => some (s.2, s.1)
  | .mv u o => (thW p s (wyW o)).map fun c => behindM s (wdW u) c
  | .bad _ => none
def runM (p : Plan) : Int × Int → List Stv → Option (Int × Int)
  | s, [] => some s
  | s, t :: ts => (stepM p s t).bind fun e => runM p e ts
/-! ### == and in, with a tuple of the module -/
section
variable {σ : L2.St} {G : Hp} {ta : TE} {K : Fg} {d e : PyData} {ds : List PyData} {a : Addr}
end
section
variable {α β γ : Type} [Rep α] [Rep β] [Rep γ]
end
end Pf

namespace Pf
open PySem PySem.Spec PyProof.Rows L2
/-! ### how far a place is from another: parts between them -/
/-- in which of the three stretches beside a part a line lies -/
def arcI (t : T3) (x : Int × Int) : Nat := if t.a ≤ x.1 ∧ x.2 ≤ t.b then 0 else if t.b ≤ x.1 ∧ x.2 ≤ t.c then 1 else 2
def gtI (t : T3) (s : Int × Int) : Nat := arcI t (lawPair s.1 s.2)
def DM (p : Plan) (s o : Int × Int) : Nat := (partsM p).countP fun t => decide (gtI t s ≠ gtI t o)
theorem arc_a {t : T3} (h : t.a < t.b ∧ t.b < t.c) : arcI t (t.a, t.b) = 0 := by unfold arcI; rw [if_pos (by dsimp only; omega)]
theorem arc_b {t : T3} (h : t.a < t.b ∧ t.b < t.c) : arcI t (t.b, t.c) = 1 := by unfold arcI; rw [if_neg (by dsimp only; omega), if_pos (by dsimp only; omega)]
theorem arc_c {t : T3} (h : t.a < t.b ∧ t.b < t.c) : arcI t (t.a, t.c) = 2 := by unfold arcI; rw [if_neg (by dsimp only; omega), if_neg (by dsimp only; omega)]
theorem arc_same {p : Plan} (h : isPlanM p = true) {t o : T3} (m : t ∈ partsM p) (n : o ∈ partsM p) (ne : t ≠ o) : arcI t (o.a, o.b) = arcI t (o.a, o.c) ∧ arcI t (o.b, o.c) = arcI t (o.a, o.c) := by
  obtain ⟨a, b, c⟩ := t
  obtain ⟨a', b', c'⟩ := o
  obtain ⟨k1, k2, k3, k4, k5⟩ := (mem_parts h).mp m
  obtain ⟨l1, l2, l3, l4, l5⟩ := (mem_parts h).mp n
  have ne : ¬ (a = a' ∧ b = b' ∧ c = c') := fun ⟨e1, e2, e3⟩ => ne (by rw [e1, e2, e3])
  have nc : ∀ {x y z w : Int}, Jn p x z → Jn p y w → ¬ (x < y ∧ y < z ∧ z < w) := fun j1 j2 ⟨h1, h2, h3⟩ => no_cross h h1 h2 h3 j1 j2
  have n1 := nc k3 l4; have n2 := nc l4 k3
  have n3 := nc k5 l4; have n4 := nc l4 k5
  have n5 := nc k4 l4; have n6 := nc l4 k4
  have n7 := nc k3 l3; have n8 := nc l3 k3
  have n9 := nc k3 l5; have n10 := nc l5 k3
  have n11 := nc k5 l3; have n12 := nc l3 k5
  have n13 := nc k5 l5; have n14 := nc l5 k5
  have n15 := nc k4 l3; have n16 := nc l3 k4
  have n17 := nc k4 l5; have n18 := nc l5 k4
  unfold arcI
  dsimp only
  by_cases c0 : a ≤ a' ∧ c' ≤ b
  · rw [if_pos (by omega), if_pos (by omega), if_pos (by omega)]; exact ⟨rfl, rfl⟩
  by_cases c1 : b ≤ a' ∧ c' ≤ c
  · rw [if_neg (by omega), if_pos (by omega), if_neg c0, if_pos c1, if_neg (by omega), if_pos (by omega)]; exact ⟨rfl, rfl⟩
  rw [if_neg c0, if_neg c1]
  have a0 : ¬ (a ≤ a' ∧ b' ≤ b) := fun z => by
    have e1 : a' = a := by clear n2 n3 n4 n5 n6 n7 n8 n9 n10 n11 n12 n13 n14 n15 n16 n17 n18; omega
    have e2 : b' = b := by clear n2 n3 n4 n5 n6 n7 n8 n10 n11 n12 n13 n14 n15 n16 n17 n18; omega
    clear n1 n2 n7 n8 n9 n10 n11 n12 n13 n14 n15 n16; omega
  have a1 : ¬ (b ≤ a' ∧ b' ≤ c) := fun z => by
    have e1 : a' = b := by clear n1 n2 n4 n5 n6 n7 n8 n9 n10 n11 n12 n13 n14 n15 n16 n17 n18; omega
    have e2 : b' = c := by clear n1 n2 n3 n4 n5 n6 n7 n8 n9 n10 n11 n12 n14 n15 n16 n17 n18; omega
    clear n1 n2 n7 n8 n9 n10 n11 n12 n13 n14 n15 n16; omega
  have b0 : ¬ (a ≤ b' ∧ c' ≤ b) := fun z => by
    have e1 : c' = b := by clear n1 n3 n4 n5 n6 n7 n8 n9 n10 n11 n12 n13 n14 n15 n16 n17 n18; omega
    have e2 : b' = a := by clear n1 n2 n3 n4 n5 n6 n7 n9 n10 n11 n12 n13 n14 n15 n16 n17 n18; omega
    clear n1 n2 n3 n4 n7 n8 n9 n10 n11 n12 n13 n14 n15 n16; omega
  have b1 : ¬ (b ≤ b' ∧ c' ≤ c) := fun z => by
    have e1 : c' = c := by clear n1 n2 n3 n5 n6 n7 n8 n9 n10 n11 n12 n13 n14 n15 n16 n17 n18; omega
    have e2 : b' = b := by clear n1 n2 n3 n4 n5 n6 n7 n8 n9 n10 n11 n13 n14 n15 n16 n17 n18; omega
    clear n2 n3 n4 n7 n9 n10 n11 n12 n13 n14 n17 n18; omega
  rw [if_neg a0, if_neg a1, if_neg b0, if_neg b1]; exact ⟨rfl, rfl⟩
theorem lp_mem {t : T3} (h : t.a < t.b ∧ t.b < t.c) {x y : Int} (hx : x ∈ el t) (hy : y ∈ el t) (ne : x ≠ y) : lawPair x y = (t.a, t.b) ∨ lawPair x y = (t.b, t.c) ∨ lawPair x y = (t.a, t.c) := by
  obtain ⟨a, b, c⟩ := t
  have hx : x = a ∨ x = b ∨ x = c := by simpa [el] using hx
  have hy : y = a ∨ y = b ∨ y = c := by simpa [el] using hy
  dsimp only at h ⊢
  rcases lp_cases x y with ⟨e, z⟩ | ⟨e, z⟩ <;> rw [e] <;> rcases hx with rfl | rfl | rfl <;> rcases hy with rfl | rfl | rfl <;> first | (exact absurd rfl ne) | (exact .inl rfl) | (exact .inr (.inl rfl)) | (exact .inr (.inr rfl)) | (exfalso; omega)
theorem gt_other {p : Plan} (h : isPlanM p = true) {t o : T3} (m : t ∈ partsM p) (n : o ∈ partsM p) (ne : t ≠ o) {x y z w : Int} (hx : x ∈ el o) (hy : y ∈ el o) (n1 : x ≠ y) (hz : z ∈ el o) (hw : w ∈ el o) (n2 : z ≠ w) : gtI t (x, y) = gtI t (z, w) := by
  have ho := part_tr h n
  obtain ⟨e1, e2⟩ := arc_same h m n ne
  have key : ∀ {x y : Int}, x ∈ el o → y ∈ el o → x ≠ y → gtI t (x, y) = arcI t (o.a, o.c) := fun {x y} hx hy ne => by
    unfold gtI
    rcases lp_mem ⟨ho.1, ho.2.1⟩ hx hy ne with e | e | e <;> dsimp only <;> rw [e]
    · exact e1
    · exact e2
  rw [key hx hy n1, key hz hw n2]
/-- within a part lines are told by their stretches -/
theorem gt_inj {p : Plan} (h : isPlanM p = true) {t : T3} (m : t ∈ partsM p) {x y z w : Int} (hx : x ∈ el t) (hy : y ∈ el t) (n1 : x ≠ y) (hz : z ∈ el t) (hw : w ∈ el t) (n2 : z ≠ w) (e : gtI t (x, y) = gtI t (z, w)) : lawPair x y = lawPair z w := by
  have ho := part_tr h m
  have ho : t.a < t.b ∧ t.b < t.c := ⟨ho.1, ho.2.1⟩
  unfold gtI at e
  rcases lp_mem ho hx hy n1 with e1 | e1 | e1 <;> rcases lp_mem ho hz hw n2 with e2 | e2 | e2 <;> rw [e1, e2] <;> dsimp only at e <;> rw [e1, e2] at e <;>
    first
    | rfl
    | (rw [arc_a ho, arc_b ho] at e; cases e)
    | (rw [arc_a ho, arc_c ho] at e; cases e)
    | (rw [arc_b ho, arc_a ho] at e; cases e)
    | (rw [arc_b ho, arc_c ho] at e; cases e)
    | (rw [arc_c ho, arc_a ho] at e; cases e)
    | (rw [arc_c ho, arc_b ho] at e; cases e)
theorem cnt_one {α : Type} {L : List α} (nd : L.Nodup) {a : α} (ha : a ∈ L) {f g : α → Bool} (h : ∀ x ∈ L, x ≠ a → f x = g x) : L.countP f + (if g a = true then 1 else 0) = L.countP g + (if f a = true then 1 else 0) := by
  induction L with
  | nil => cases ha
  | cons b L ih =>
    have nd' := List.nodup_cons.mp nd
    rw [List.countP_cons, List.countP_cons]
    rcases List.mem_cons.mp ha with rfl | ha'
    · have e : L.countP f = L.countP g := List.countP_congr fun x hx => by rw [h x (List.mem_cons_of_mem _ hx) (fun z => nd'.1 (z ▸ hx))]
      rw [e]; omega
    · have e := h b List.mem_cons_self (fun z => nd'.1 (z ▸ ha'))
      have := ih nd'.2 ha' (fun x hx => h x (List.mem_cons_of_mem _ hx))
      rw [e]; omega
theorem parts_nodup {p : Plan} (h : isPlanM p = true) : (partsM p).Nodup := (parts_up h).imp fun {a b} z e => by
  subst e; unfold lt3 at z; omega
/-! ### one step -/
structure Edge (p : Plan) (x e : Int × Int) (t : T3) : Prop where
  m : t ∈ partsM p
  x1 : x.1 ∈ el t
  x2 : x.2 ∈ el t
  xn : x.1 ≠ x.2
  e1 : e.1 ∈ el t
  e2 : e.2 ∈ el t
  en : e.1 ≠ e.2
  ne : gtI t x ≠ gtI t e
theorem edge_D {p : Plan} (h : isPlanM p = true) {x e : Int × Int} {t : T3} (E : Edge p x e t) (s : Int × Int) : DM p s x + (if gtI t s ≠ gtI t e then 1 else 0) = DM p s e + (if gtI t s ≠ gtI t x then 1 else 0) := by
  have z := cnt_one (parts_nodup h) E.m (f := fun t => decide (gtI t s ≠ gtI t x)) (g := fun t => decide (gtI t s ≠ gtI t e)) (fun t2 m2 ne => by
    have : gtI t2 x = gtI t2 e := gt_other h m2 E.m ne E.x1 E.x2 E.xn E.e1 E.e2 E.en
    rw [this])
  simp only [decide_eq_true_eq] at z
  exact z
theorem step_edge {p : Plan} (h : isPlanM p = true) {x e : Int × Int} (j : Jn p x.1 x.2) {u o : Bool} (g : stepM p x (.mv u o) = some e) :
    Jn p e.1 e.2 ∧ upM p e.1 e.2 = upM p x.1 x.2 ∧ stepM p e (.mv (!u) o) = some x ∧ ∃ t c, Edge p x e t ∧ thW p x (wyW o) = some c ∧ c ∈ el t ∧ e = behindM x (wdW u) c := by
  obtain ⟨c, hc, rfl⟩ := Option.map_eq_some_iff.mp g
  have P := pin_of h j hc
  have up := up_pinch h (t := x.1) (u := x.2) (wyW o) j hc
  have jx := j.ne h
  obtain ⟨t, m, mem⟩ : ∃ t ∈ partsM p, ∀ y, y ∈ el t ↔ y = x.1 ∨ y = x.2 ∨ y = c := by
    rcases (th_some h j).mp hc with ⟨_, y⟩ | ⟨_, y⟩
    · obtain ⟨t, m, _, _, k⟩ := tr_part h y
      exact ⟨t, m, fun y => by rw [k]; omega⟩
    · obtain ⟨t, m, _, _, k⟩ := tr_part h y
      exact ⟨t, m, fun y => by rw [k]; omega⟩
  have hcm : c ∈ el t := (mem c).mpr (.inr (.inr rfl))
  have h1 : x.1 ∈ el t := (mem _).mpr (.inl rfl)
  have h2 : x.2 ∈ el t := (mem _).mpr (.inr (.inl rfl))
  cases u
  · have eb : behindM x (wdW false) c = (c, x.1) := by unfold behindM; rw [if_pos (by decide)]
    rw [eb]
    refine ⟨P.j1, up.1, ?_, t, c, ⟨m, h1, h2, by omega, hcm, h1, P.ne.1, fun z => ?_⟩, hc, hcm, rfl⟩
    · show (thW p (c, x.1) (wyW o)).map _ = _
      rw [P.t1]
      show some (behindM (c, x.1) (wdW true) x.2) = some x
      unfold behindM
      rw [if_neg (by decide)]
    · have z2 := gt_inj h m h1 h2 (by omega) hcm h1 P.ne.1 z
      exact absurd z2 (lp_ne (by have := P.ne; omega) (by have := P.ne; omega))
  · have eb : behindM x (wdW true) c = (x.2, c) := by unfold behindM; rw [if_neg (by decide)]
    rw [eb]
    refine ⟨P.j2, up.2, ?_, t, c, ⟨m, h1, h2, by omega, h2, hcm, fun z => P.ne.2 z.symm, fun z => ?_⟩, hc, hcm, rfl⟩
    · show (thW p (x.2, c) (wyW o)).map _ = _
      rw [P.t2]
      show some (behindM (x.2, c) (wdW false) x.1) = some x
      unfold behindM
      rw [if_pos (by decide)]
    · have z2 := gt_inj h m h1 h2 (by omega) h2 hcm (fun z => P.ne.2 z.symm) z
      exact absurd z2 (lp_ne (by have := P.ne; omega) (by have := P.ne; omega))
theorem step_near {p : Plan} (h : isPlanM p = true) {x e : Int × Int} (j : Jn p x.1 x.2) {u o : Bool} (g : stepM p x (.mv u o) = some e) (s : Int × Int) : DM p s e ≤ DM p s x + 1 ∧ DM p s x ≤ DM p s e + 1 := by
  obtain ⟨_, _, _, t, c, E, _⟩ := step_edge h j g
  have z := edge_D h E s
  split at z <;> split at z <;> omega
theorem same_place {p : Plan} (h : isPlanM p = true) {x e : Int × Int} (jx : Jn p x.1 x.2) (je : Jn p e.1 e.2) (up : upM p e.1 e.2 = upM p x.1 x.2) (l : lawPair e.1 e.2 = lawPair x.1 x.2) : e = x := by
  obtain ⟨x1, x2⟩ := x
  obtain ⟨e1, e2⟩ := e
  have nx := jx.ne h
  dsimp only at *
  rcases lp_cases x1 x2 with ⟨z1, _⟩ | ⟨z1, _⟩ <;> rcases lp_cases e1 e2 with ⟨z2, _⟩ | ⟨z2, _⟩ <;> rw [z1, z2] at l <;> injection l with l1 l2 <;> subst l1 <;> subst l2
  · rfl
  · rw [up_sw h jx] at up; cases hb : upM p e2 e1 <;> rw [hb] at up <;> cases up
  · rw [up_sw h jx] at up; cases hb : upM p e2 e1 <;> rw [hb] at up <;> cases up
  · rfl
theorem lp_up {p : Plan} (h : isPlanM p = true) {s : Int × Int} (j : Jn p s.1 s.2) : (lawPair s.1 s.2).1 < (lawPair s.1 s.2).2 := by
  have := j.ne h
  rcases lp_cases s.1 s.2 with ⟨e, _⟩ | ⟨e, _⟩ <;> rw [e] <;> dsimp only <;> omega
/-- some neighbour is nearer -/
theorem near_ex {p : Plan} (h : isPlanM p = true) {s x : Int × Int} (js : Jn p s.1 s.2) (j : Jn p x.1 x.2) (d : 0 < DM p s x) : ∃ u o e, stepM p x (.mv u o) = some e ∧ DM p s e + 1 = DM p s x := by
  have hne : lawPair s.1 s.2 ≠ lawPair x.1 x.2 := fun z => by
    have : DM p s x = 0 := by
      unfold DM
      rw [List.countP_eq_zero]
      intro t _ w
      have w := of_decide_eq_true w
      apply w; unfold gtI; rw [z]
    omega
  have jl : Jn p (lawPair x.1 x.2).1 (lawPair x.1 x.2).2 := by
    rcases lp_cases x.1 x.2 with ⟨e, _⟩ | ⟨e, _⟩ <;> rw [e]
    · exact j
    · exact j.sym
  have jm : Jn p (lawPair s.1 s.2).1 (lawPair s.1 s.2).2 := by
    rcases lp_cases s.1 s.2 with ⟨e, _⟩ | ⟨e, _⟩ <;> rw [e]
    · exact js
    · exact js.sym
  have ul := lp_up h j
  have um := lp_up h js
  have nl := jl.ne h
  have nm := jm.ne h
  have nc : ∀ {x y z w : Int}, Jn p x z → Jn p y w → ¬ (x < y ∧ y < z ∧ z < w) := fun j1 j2 ⟨h1, h2, h3⟩ => no_cross h h1 h2 h3 j1 j2
  have hx : x = lawPair x.1 x.2 ∨ x = ((lawPair x.1 x.2).2, (lawPair x.1 x.2).1) := by
    rcases lp_cases x.1 x.2 with ⟨e, _⟩ | ⟨e, _⟩ <;> rw [e]
    · exact .inl rfl
    · exact .inr rfl
  -- the part on the side of s
  have key : ∃ t c, t ∈ partsM p ∧ (Tr p (lawPair x.1 x.2).1 c (lawPair x.1 x.2).2 ∨ Tr p (lawPair x.1 x.2).2 c (lawPair x.1 x.2).1) ∧ (∀ y, y ∈ el t ↔ y = (lawPair x.1 x.2).1 ∨ y = (lawPair x.1 x.2).2 ∨ y = c) ∧ gtI t s ≠ gtI t x := by
    have eg : ∀ t, gtI t x = arcI t (lawPair x.1 x.2) := fun _ => rfl
    have es : ∀ t, gtI t s = arcI t (lawPair s.1 s.2) := fun _ => rfl
    simp only [eg, es]
    generalize lawPair x.1 x.2 = l at *
    generalize lawPair s.1 s.2 = m at *
    have hne2 : ¬ (m.1 = l.1 ∧ m.2 = l.2) := fun ⟨a, b⟩ => hne (Prod.ext a b)
    by_cases ins : l.1 ≤ m.1 ∧ m.2 ≤ l.2
    · obtain ⟨c, t⟩ := tr_ex h jl (by omega)
      have hc : l.1 < c ∧ c < l.2 := by have := t.cy; unfold Cy at this; omega
      have mt : (⟨l.1, c, l.2⟩ : T3) ∈ partsM p := (mem_parts h).mpr ⟨hc.1, hc.2, t.sv, t.se, t.ve⟩
      refine ⟨_, c, mt, .inl t, fun y => by simp [el]; omega, ?_⟩
      rw [show arcI ⟨l.1, c, l.2⟩ l = 2 from arc_c (t := ⟨l.1, c, l.2⟩) hc]
      unfold arcI
      dsimp only
      have n1 := nc t.sv jm
      have n2 := nc jm t.ve
      split
      · decide
      · split
        · decide
        · exfalso; omega
    · obtain ⟨c, t⟩ := tr_ex h jl.sym (by omega)
      have hc : l.2 < c ∨ c < l.1 := by have := t.cy; unfold Cy at this; omega
      rcases hc with hc | hc
      · have mt : (⟨l.1, l.2, c⟩ : T3) ∈ partsM p := (mem_parts h).mpr ⟨ul, hc, t.se.sym, t.ve.sym, t.sv⟩
        refine ⟨_, c, mt, .inr t, fun y => by simp [el], ?_⟩
        rw [show arcI ⟨l.1, l.2, c⟩ l = 0 from arc_a (t := ⟨l.1, l.2, c⟩) ⟨ul, hc⟩]
        unfold arcI
        dsimp only
        rw [if_neg ins]
        split <;> decide
      · have mt : (⟨c, l.1, l.2⟩ : T3) ∈ partsM p := (mem_parts h).mpr ⟨hc, ul, t.ve, t.sv.sym, t.se.sym⟩
        refine ⟨_, c, mt, .inr t, fun y => by simp [el]; omega, ?_⟩
        rw [show arcI ⟨c, l.1, l.2⟩ l = 1 from arc_b (t := ⟨c, l.1, l.2⟩) ⟨hc, ul⟩]
        unfold arcI
        dsimp only
        rw [if_neg (c := l.1 ≤ m.1 ∧ m.2 ≤ l.2) ins]
        split <;> decide
  obtain ⟨t, c, mt, tr, mem, ne⟩ := key
  have o1 := part_tr h mt
  obtain ⟨o, ho⟩ : ∃ o, thW p x (wyW o) = some c := by
    rcases hx with e | e
    · rcases tr with tr | tr
      · refine ⟨false, (th_some h j).mpr (.inl ⟨rfl, ?_⟩)⟩; rw [e]; exact tr
      · refine ⟨true, (th_some h j).mpr (.inr ⟨by decide, ?_⟩)⟩; rw [e]; exact tr
    · rcases tr with tr | tr
      · refine ⟨true, (th_some h j).mpr (.inr ⟨by decide, ?_⟩)⟩; rw [e]; exact tr
      · refine ⟨false, (th_some h j).mpr (.inl ⟨rfl, ?_⟩)⟩; rw [e]; exact tr
  have P := pin_of h j ho
  have nx := j.ne h
  have h1 : x.1 ∈ el t := (mem _).mpr (by rcases hx with e | e <;> (have f1 := congrArg Prod.fst e; have f2 := congrArg Prod.snd e; (try dsimp only at f1 f2); omega))
  have h2 : x.2 ∈ el t := (mem _).mpr (by rcases hx with e | e <;> (have f1 := congrArg Prod.fst e; have f2 := congrArg Prod.snd e; (try dsimp only at f1 f2); omega))
  have hc : c ∈ el t := (mem _).mpr (.inr (.inr rfl))
  have fin : ∀ e : Int × Int, e.1 ∈ el t → e.2 ∈ el t → e.1 ≠ e.2 → gtI t s = gtI t e → DM p s e + 1 = DM p s x := fun e m1 m2 n1 q => by
    have E : Edge p x e t := ⟨mt, h1, h2, by omega, m1, m2, n1, fun z => ne (q.trans z.symm)⟩
    have z := edge_D h E s
    rw [if_neg (fun k => k q), if_pos ne] at z
    omega
  -- s lies at one of the other two lines
  have g3 : gtI t s = 0 ∨ gtI t s = 1 ∨ gtI t s = 2 := by
    unfold gtI arcI; split
    · exact .inl rfl
    · split
      · exact .inr (.inl rfl)
      · exact .inr (.inr rfl)
  have val : ∀ {a b : Int}, a ∈ el t → b ∈ el t → a ≠ b → gtI t (a, b) = 0 ∨ gtI t (a, b) = 1 ∨ gtI t (a, b) = 2 := fun {a b} _ _ _ => by
    unfold gtI arcI; split
    · exact .inl rfl
    · split
      · exact .inr (.inl rfl)
      · exact .inr (.inr rfl)
  have d1 : gtI t (c, x.1) ≠ gtI t x := fun z => absurd (gt_inj h mt hc h1 P.ne.1 h1 h2 (by omega) z) (lp_ne (by have := P.ne; omega) (by have := P.ne; omega))
  have d2 : gtI t (x.2, c) ≠ gtI t x := fun z => absurd (gt_inj h mt h2 hc (fun z => P.ne.2 z.symm) h1 h2 (by omega) z) (lp_ne (by have := P.ne; omega) (by have := P.ne; omega))
  have d3 : gtI t (c, x.1) ≠ gtI t (x.2, c) := fun z => absurd (gt_inj h mt hc h1 P.ne.1 h2 hc (fun z => P.ne.2 z.symm) z) (lp_ne (by have := P.ne; omega) (by have := P.ne; omega))
  have v1 := val hc h1 P.ne.1
  have v2 := val h2 hc (fun z => P.ne.2 z.symm)
  have v3 : gtI t x = 0 ∨ gtI t x = 1 ∨ gtI t x = 2 := val h1 h2 (by omega)
  by_cases w : gtI t s = gtI t (c, x.1)
  · refine ⟨false, o, (c, x.1), ?_, fin _ hc h1 P.ne.1 w⟩
    show (thW p x (wyW o)).map _ = _
    rw [ho]
    show some (behindM x (wdW false) c) = _
    unfold behindM; rw [if_pos (by decide)]
  · refine ⟨true, o, (x.2, c), ?_, fin _ h2 hc (fun z => P.ne.2 z.symm) (by omega)⟩
    show (thW p x (wyW o)).map _ = _
    rw [ho]
    show some (behindM x (wdW true) c) = _
    unfold behindM; rw [if_neg (by decide)]
theorem D_self (p : Plan) (s : Int × Int) : DM p s s = 0 := by
  unfold DM; rw [List.countP_eq_zero]; intro t _ w; exact of_decide_eq_true w rfl
/-- no part between: the same line -/
theorem D_zero {p : Plan} (h : isPlanM p = true) {s x : Int × Int} (js : Jn p s.1 s.2) (j : Jn p x.1 x.2) (up : upM p x.1 x.2 = upM p s.1 s.2) (d : DM p s x = 0) : x = s := by
  apply same_place h js j up
  apply Classical.byContradiction
  intro hne
  have key : ∃ t ∈ partsM p, gtI t s ≠ gtI t x := by
    by_cases z : ∃ t ∈ partsM p, gtI t s ≠ gtI t x
    · exact z
    exfalso
    have jl : Jn p (lawPair x.1 x.2).1 (lawPair x.1 x.2).2 := by
      rcases lp_cases x.1 x.2 with ⟨e, _⟩ | ⟨e, _⟩ <;> rw [e]
      · exact j
      · exact j.sym
    have jm : Jn p (lawPair s.1 s.2).1 (lawPair s.1 s.2).2 := by
      rcases lp_cases s.1 s.2 with ⟨e, _⟩ | ⟨e, _⟩ <;> rw [e]
      · exact js
      · exact js.sym
    have ul := lp_up h j
    have um := lp_up h js
    have nl := jl.ne h
    have nm := jm.ne h
    have nc : ∀ {x y z w : Int}, Jn p x z → Jn p y w → ¬ (x < y ∧ y < z ∧ z < w) := fun j1 j2 ⟨h1, h2, h3⟩ => no_cross h h1 h2 h3 j1 j2
    apply z
    have eg : ∀ t, gtI t x = arcI t (lawPair x.1 x.2) := fun _ => rfl
    have es : ∀ t, gtI t s = arcI t (lawPair s.1 s.2) := fun _ => rfl
    simp only [eg, es]
    generalize lawPair x.1 x.2 = l at *
    generalize lawPair s.1 s.2 = m at *
    have hne2 : ¬ (m.1 = l.1 ∧ m.2 = l.2) := fun ⟨a, b⟩ => hne (Prod.ext a.symm b.symm)
    by_cases ins : l.1 ≤ m.1 ∧ m.2 ≤ l.2
    · obtain ⟨c, t⟩ := tr_ex h jl (by omega)
      have hc : l.1 < c ∧ c < l.2 := by have := t.cy; unfold Cy at this; omega
      refine ⟨⟨l.1, c, l.2⟩, (mem_parts h).mpr ⟨hc.1, hc.2, t.sv, t.se, t.ve⟩, ?_⟩
      rw [show arcI ⟨l.1, c, l.2⟩ l = 2 from arc_c (t := ⟨l.1, c, l.2⟩) hc]
      unfold arcI
      dsimp only
      have n1 := nc t.sv jm
      have n2 := nc jm t.ve
      split
      · decide
      · split
        · decide
        · exfalso; omega
    · obtain ⟨c, t⟩ := tr_ex h jl.sym (by omega)
      have hc : l.2 < c ∨ c < l.1 := by have := t.cy; unfold Cy at this; omega
      rcases hc with hc | hc
      · refine ⟨⟨l.1, l.2, c⟩, (mem_parts h).mpr ⟨ul, hc, t.se.sym, t.ve.sym, t.sv⟩, ?_⟩
        rw [show arcI ⟨l.1, l.2, c⟩ l = 0 from arc_a (t := ⟨l.1, l.2, c⟩) ⟨ul, hc⟩]
        unfold arcI
        dsimp only
        rw [if_neg ins]
        split <;> decide
      · refine ⟨⟨c, l.1, l.2⟩, (mem_parts h).mpr ⟨hc, ul, t.ve, t.sv.sym, t.se.sym⟩, ?_⟩
        rw [show arcI ⟨c, l.1, l.2⟩ l = 1 from arc_b (t := ⟨c, l.1, l.2⟩) ⟨hc, ul⟩]
        unfold arcI
        dsimp only
        rw [if_neg (c := l.1 ≤ m.1 ∧ m.2 ≤ l.2) ins]
        split <;> decide
  obtain ⟨t, mt, ne⟩ := key
  unfold DM at d
  rw [List.countP_eq_zero] at d
  exact d t mt (decide_eq_true ne)
end Pf

namespace Pf
open PySem PySem.Spec PyProof.Rows L2
/-! ### going out over all places, and the one shortest road -/
abbrev Pl := Int × Int
theorem nodup_one {α : Type} (x : α) : [x].Nodup := by simp
structure Bfs (p : Plan) (s : Pl) (row : List Pl) (m : Nat) (cur : List Pl) : Prop where
  nd : row.Nodup
  jn : ∀ x ∈ row, Jn p x.1 x.2 ∧ upM p x.1 x.2 = upM p s.1 s.2
  hd : row[0]? = some s
  up : ∀ (i j : Nat) (x y : Pl), i ≤ j → row[i]? = some x → row[j]? = some y → DM p s x ≤ DM p s y
  par : ∀ (j : Nat) (x : Pl), 0 < j → row[j]? = some x → ∃ i y u o, row[i]? = some y ∧ (i < m ∨ (i = m ∧ x ∈ cur)) ∧ stepM p y (.mv u o) = some x ∧ DM p s y + 1 = DM p s x
  dn : ∀ (i : Nat) (x : Pl) (u o : Bool) (e : Pl), i < m → row[i]? = some x → stepM p x (.mv u o) = some e → e ∈ row
  cu : ∀ e ∈ cur, e ∈ row
section
variable {p : Plan} {s : Pl} {row cur : List Pl} {m : Nat}
theorem Bfs.s_in (B : Bfs p s row m cur) : s ∈ row := List.mem_of_getElem? B.hd
theorem Bfs.js (B : Bfs p s row m cur) : Jn p s.1 s.2 := (B.jn s B.s_in).1
/-- all that is as near as the one in turn is met -/
theorem Bfs.level (h : isPlanM p = true) (B : Bfs p s row m cur) {x : Pl} (hx : row[m]? = some x) : ∀ (k : Nat) (y : Pl), DM p s y ≤ k → Jn p y.1 y.2 → upM p y.1 y.2 = upM p s.1 s.2 → DM p s y ≤ DM p s x → y ∈ row
  | 0, y, hk, j, u, _ => by
    rw [D_zero h B.js j u (by omega)]; exact B.s_in
  | k + 1, y, hk, j, u, hd => by
    by_cases z : DM p s y = 0
    · rw [D_zero h B.js j u z]; exact B.s_in
    obtain ⟨a, b, e, g, de⟩ := near_ex h B.js j (by omega)
    obtain ⟨je, ue, inv, _⟩ := step_edge h j g
    have ie := B.level h hx k e (by omega) je (ue.trans u) (by omega)
    obtain ⟨i, hi⟩ := List.mem_iff_getElem?.mp ie
    have him : i < m := by
      apply Classical.byContradiction
      intro w
      have := B.up m i x e (by omega) hx hi
      omega
    exact B.dn i e _ _ y him hi inv
theorem Bfs.near (B : Bfs p s row m cur) {x : Pl} (hx : row[m]? = some x) {y : Pl} (hy : y ∈ row) : DM p s y ≤ DM p s x + 1 := by
  obtain ⟨j, hj⟩ := List.mem_iff_getElem?.mp hy
  by_cases h0 : j = 0
  · subst h0
    rw [B.hd] at hj; cases hj
    rw [D_self]; omega
  obtain ⟨i, z, u, o, hi, hc, _, d⟩ := B.par j y (by omega) hj
  have := B.up i m z x (by omega) hi hx
  omega
theorem Bfs.far (h : isPlanM p = true) (B : Bfs p s row m cur) {x e : Pl} (hx : row[m]? = some x) {u o : Bool} (g : stepM p x (.mv u o) = some e) (ne : e ∉ row) : DM p s x + 1 = DM p s e := by
  obtain ⟨jx, ux⟩ := B.jn x (List.mem_of_getElem? hx)
  obtain ⟨je, ue, _⟩ := step_edge h jx g
  have n := step_near h jx g s
  apply Classical.byContradiction
  intro w
  exact ne (B.level h hx _ e (Nat.le_refl _) je (ue.trans ux) (by omega))
theorem Bfs.new (h : isPlanM p = true) (B : Bfs p s row m cur) {x e : Pl} (hx : row[m]? = some x) {u o : Bool} (g : stepM p x (.mv u o) = some e) (ne : e ∉ row) : Bfs p s (row ++ [e]) m (cur ++ [e]) := by
  have d := B.far h hx g ne
  obtain ⟨jx, ux⟩ := B.jn x (List.mem_of_getElem? hx)
  obtain ⟨je, ue, _⟩ := step_edge h jx g
  have hm : m < row.length := (List.getElem?_eq_some_iff.mp hx).1
  have at_ : ∀ {i : Nat} {y : Pl}, (row ++ [e])[i]? = some y → row[i]? = some y ∨ (i = row.length ∧ y = e) := fun {i y} z => by
    by_cases hi : i < row.length
    · rw [List.getElem?_append_left hi] at z; exact .inl z
    · rw [List.getElem?_append_right (by omega)] at z
      have := (List.getElem?_eq_some_iff.mp z).1
      rw [List.length_singleton] at this
      have hi2 : i = row.length := by omega
      subst hi2
      rw [Nat.sub_self] at z; cases z
      exact .inr ⟨rfl, rfl⟩
  have up_ : ∀ {i : Nat} {y : Pl}, row[i]? = some y → (row ++ [e])[i]? = some y := fun {i y} z => by
    rw [List.getElem?_append_left (List.getElem?_eq_some_iff.mp z).1]; exact z
  refine ⟨?_, ?_, up_ B.hd, ?_, ?_, ?_, ?_⟩
  · rw [List.nodup_append]
    exact ⟨B.nd, nodup_one e, fun a ha b hb z => ne (by rw [List.mem_singleton.mp hb] at z; rwa [← z])⟩
  · intro y hy
    rcases List.mem_append.mp hy with hy | hy
    · exact B.jn y hy
    · rw [List.mem_singleton.mp hy]; exact ⟨je, ue.trans ux⟩
  · intro i j y z hij h1 h2
    rcases at_ h1 with h1 | ⟨h1, k1⟩ <;> rcases at_ h2 with h2 | ⟨h2, k2⟩
    · exact B.up i j y z hij h1 h2
    · have := B.near hx (List.mem_of_getElem? h1); rw [k2]; omega
    · have := (List.getElem?_eq_some_iff.mp h2).1; omega
    · rw [k1, k2]; exact Nat.le_refl _
  · intro j y h0 h1
    rcases at_ h1 with h1 | ⟨h1, rfl⟩
    · obtain ⟨i, z, a, b, k1, k2, k3, k4⟩ := B.par j y h0 h1
      exact ⟨i, z, a, b, up_ k1, k2.imp id fun w => ⟨w.1, List.mem_append_left _ w.2⟩, k3, k4⟩
    · exact ⟨m, x, u, o, up_ hx, .inr ⟨rfl, List.mem_append_right _ (List.mem_singleton.mpr rfl)⟩, g, d⟩
  · intro i y a b z hi h1 h2
    rcases at_ h1 with h1 | ⟨h1, _⟩
    · exact List.mem_append_left _ (B.dn i y a b z hi h1 h2)
    · omega
  · intro z hz
    rcases List.mem_append.mp hz with hz | hz
    · exact List.mem_append_left _ (B.cu z hz)
    · exact List.mem_append_right _ hz
theorem Bfs.old (B : Bfs p s row m cur) {e : Pl} (he : e ∈ row) : Bfs p s row m (cur ++ [e]) :=
  ⟨B.nd, B.jn, B.hd, B.up, fun j x h0 h1 => by
    obtain ⟨i, z, a, b, k1, k2, k3, k4⟩ := B.par j x h0 h1
    exact ⟨i, z, a, b, k1, k2.imp id fun w => ⟨w.1, List.mem_append_left _ w.2⟩, k3, k4⟩, B.dn, fun z hz => by
    rcases List.mem_append.mp hz with hz | hz
    · exact B.cu z hz
    · rw [List.mem_singleton.mp hz]; exact he⟩
theorem Bfs.next (B : Bfs p s row m cur) {x : Pl} (hx : row[m]? = some x) (all : ∀ u o e, stepM p x (.mv u o) = some e → e ∈ cur) : Bfs p s row (m + 1) [] :=
  ⟨B.nd, B.jn, B.hd, B.up, fun j y h0 h1 => by
    obtain ⟨i, z, a, b, k1, k2, k3, k4⟩ := B.par j y h0 h1
    exact ⟨i, z, a, b, k1, .inl (by omega), k3, k4⟩, fun i y u o e hi h1 g => by
    by_cases z : i < m
    · exact B.dn i y u o e z h1 g
    · have : i = m := by omega
      subst this
      rw [hx] at h1; cases h1
      exact B.cu e (all u o e g), fun e he => by cases he⟩
/-- all places that lie as the first one -/
def Full (p : Plan) (s : Pl) (row : List Pl) : Prop := row.Nodup ∧ ∀ x : Pl, x ∈ row ↔ Jn p x.1 x.2 ∧ upM p x.1 x.2 = upM p s.1 s.2
theorem Bfs.full (h : isPlanM p = true) (B : Bfs p s row row.length cur) : Full p s row := by
  refine ⟨B.nd, fun x => ⟨B.jn x, fun ⟨j, u⟩ => ?_⟩⟩
  have key : ∀ (k : Nat) (y : Pl), DM p s y ≤ k → Jn p y.1 y.2 → upM p y.1 y.2 = upM p s.1 s.2 → y ∈ row := by
    intro k
    induction k with
    | zero => intro y hk j u; rw [D_zero h B.js j u (by omega)]; exact B.s_in
    | succ k ih =>
      intro y hk j u
      by_cases z : DM p s y = 0
      · rw [D_zero h B.js j u z]; exact B.s_in
      obtain ⟨a, b, e, g, de⟩ := near_ex h B.js j (by omega)
      obtain ⟨je, ue, inv, _⟩ := step_edge h j g
      obtain ⟨i, hi⟩ := List.mem_iff_getElem?.mp (ih e (by omega) je (ue.trans u))
      exact B.dn i e _ _ y (List.getElem?_eq_some_iff.mp hi).1 hi inv
  exact key _ x (Nat.le_refl _) j u
theorem Bfs.small (h : isPlanM p = true) (B : Bfs p s row m cur) : row.length ≤ 154 := by
  have z := sub_len (m := keysM p) B.nd (fun x hx => (mem_keys h (a := x.1) (b := x.2)).mpr (B.jn x hx).1)
  have l := spots_len h
  have l2 : (spotsM p).length = (keysM p).length := sortP_len _
  have := (plan_facts h).2.1
  omega
theorem Full.len (h : isPlanM p = true) (js : Jn p s.1 s.2) (F : Full p s row) : (row.length : Int) = 2 * p.1 - 3 := by
  have pm : row.Perm ((keysM p).filter fun x => decide (upM p x.1 x.2 = upM p s.1 s.2)) := by
    rw [List.perm_ext_iff_of_nodup F.1 ((keys_nodup p).filter _)]
    intro x
    rw [F.2 x, List.mem_filter, decide_eq_true_iff, mem_keys h (a := x.1) (b := x.2)]
  rw [pm.length_eq, ← List.countP_eq_length_filter, ← (both_perm h).countP_eq, List.countP_append, List.countP_map]
  have e : (linesM p).countP ((fun x => decide (upM p x.1 x.2 = upM p s.1 s.2)) ∘ swapP) = (linesM p).countP (fun x => !decide (upM p x.1 x.2 = upM p s.1 s.2)) := List.countP_congr fun x hx => by
    have jx : Jn p x.1 x.2 := by
      have z := (mem_keys h (a := x.1) (b := x.2)).mp ((both_perm h).mem_iff.mp (List.mem_append_left _ hx))
      exact z
    show decide (upM p x.2 x.1 = upM p s.1 s.2) = true ↔ _
    rw [up_sw h jx]
    cases upM p x.1 x.2 <;> cases upM p s.1 s.2 <;> decide
  rw [e]
  have l := List.length_eq_countP_add_countP (fun x : Pl => decide (upM p x.1 x.2 = upM p s.1 s.2)) (l := linesM p)
  have ll := lines_len h
  rw [← lines_eq (by have := (plan_facts h).1; omega)] at ll
  have e2 : (linesM p).countP (fun a => decide ¬decide (upM p a.1 a.2 = upM p s.1 s.2) = true) = (linesM p).countP (fun x => !decide (upM p x.1 x.2 = upM p s.1 s.2)) := List.countP_congr fun x _ => by
    cases decide (upM p x.1 x.2 = upM p s.1 s.2) <;> decide
  rw [e2] at l
  omega
/-! ### from where a place was come to -/
/-! ### the one road -/
structure Road (p : Plan) (s : Pl) (r : List Stv) (o : Pl) : Prop where
  mv : ∀ t ∈ r, ∃ u o, t = Stv.mv u o
  run : runM p s r = some o
  len : r.length = DM p s o
theorem Road.nil (s : Pl) : Road p s [] s := ⟨(fun t ht => by cases ht), rfl, (D_self p s).symm⟩
end
end Pf

namespace Pf
open PySem PySem.Spec PyProof.Rows L2
/-! ### a tuple of the module walked -/
/-- a value as it is -/
structure KV where
  v : V
instance : Rep KV := ⟨fun _ v x => v = x.v, fun _ h => h⟩
section
variable {α κ : Type} [Rep α] [Rep κ] [TK κ] [DecidableEq κ] {G G' H : Hp}
theorem Mt.up {d : Addr} {l : List (κ × α)} (x : Mt G H d l) (g : Same G G') (n : G' d = none) : Mt G' H d l := by
  obtain ⟨h1, kvs, h2, h3⟩ := x
  exact ⟨n, kvs, h2, enr_mono g h3⟩
theorem Ml.up {p : Addr} {xs : List α} (x : Ml G H p xs) (g : Same G G') (n : G' p = none) : Ml G' H p xs := by
  obtain ⟨h1, vs, h2, h3⟩ := x
  exact ⟨n, vs, h2, paired_mono g h3⟩
end
/-! ### tests by the very heap -/
section
variable {σ : L2.St} {G H : Hp} {te : TE} {tt : TT} {ts tr u : TS} {D : Ends}
end
/-! ### pairs reckoned while a dict is still being made -/
/-! ### from where a place was come to -/
/-! ### a road that ends with the tuple of the module -/
/-! ### a told list, new -/
section
variable {α : Type} [Rep α] [TRep α] {σ : L2.St} {G H : Hp} {te : TE} {xs : List α}
end
/-! ### what the defs of roads tell -/
end Pf

namespace Pf
open PySem PySem.Spec PyProof.Rows L2
/-! ### all trees of a stretch, or just the first one -/
/-! ### a plan of a row -/
instance : Inhabited BT := ⟨.lf⟩
instance : Inhabited Plan := ⟨(0, ⟨[]⟩)⟩
section
variable {α β : Type} [Rep α] [Rep β] {σ : L2.St} {G H : Hp} {ta tb : TE} {x : α} {y : β} {D : Ends} {u : TS}
end
end Pf

namespace Pf
open PySem PySem.Spec PyProof.Rows L2
abbrev ARows := List (List (Int × Int))
def arcRow (sub : Int → Int → ARows) (s e : Int) : ARows := (rng (s + 1) e).flatMap fun m => (sub s m).flatMap fun a => (sub m e).map fun b => a ++ b ++ [(s, m), (m, e)]
def arcs : Nat → Int → Int → ARows
  | 0, _, _ => []
  | f + 1, s, e => if e - s = 1 then [[]] else arcRow (arcs f) s e
/-! ### all plans as trees -/
end Pf

namespace Pf
open PySem PySem.Spec PyProof.Rows L2
/-! ### dicts with numbers or texts as keys, in order -/
class PK (κ : Type) [Rep κ] where
  ky : κ → Key
  inj : ∀ {x y : κ}, ky x = ky y → x = y
  to : ∀ {G : Hp} {x : κ}, rep G (kV (ky x)) x
  of : ∀ {G : Hp} {v : V} {x : κ}, rep G v x → v = kV (ky x)
instance : PK Int := ⟨Sum.inl, fun h => Sum.inl.inj h, rfl, fun h => h⟩
instance : PK Str := ⟨Sum.inr, fun h => Sum.inr.inj h, rfl, fun h => h⟩
structure Dck (κ α : Type) where
  l : List (κ × α)
section
variable {κ α β : Type} [Rep κ] [PK κ] [DecidableEq κ] [Rep α] [Rep β] {σ : L2.St} {G H : Hp} {ta tb te : TE} {K : Fg} {D : Ends} {u : TS}
def EnK (G : Hp) (kv : Key × V) (x : κ × α) : Prop := kv.1 = PK.ky x.1 ∧ rep G kv.2 x.2
theorem enk_mono {G G' : Hp} (e : Same G G') {kvs : List (Key × V)} {l : List (κ × α)} (h : Paired (EnK G) kvs l) : Paired (EnK G') kvs l := Paired.mapP h fun _ _ r => ⟨r.1, Rep.mono e r.2⟩
instance : Rep (Dck κ α) := ⟨fun G v d => ∃ a kvs, v = .ref a ∧ G a = some (.dK kvs) ∧ Paired (EnK G) kvs d.l, fun e ⟨a, kvs, h1, h2, h3⟩ => ⟨a, kvs, h1, e _ _ h2, enk_mono e h3⟩⟩
def Mk (G H : Hp) (d : Addr) (l : List (κ × α)) : Prop := G d = none ∧ ∃ kvs, H d = some (.dK kvs) ∧ Paired (EnK G) kvs l
theorem pk_dec {x y : κ} : decide (PK.ky x = PK.ky y) = decide (x = y) := by
  by_cases h : x = y
  · subst h; rw [decide_eq_true rfl, decide_eq_true rfl]
  · rw [decide_eq_false h, decide_eq_false fun e => h (PK.inj e)]
theorem valk_look (k : κ) : ∀ {kvs : List (Key × V)} {l : List (κ × α)}, Paired (EnK G) kvs l → OptRep G (valV kvs (PK.ky k)) (look l k)
  | _, _, .nil => rfl
  | (c, v) :: kvs, (x, y) :: l, .cons ⟨h1, h2⟩ t => by
    have ih := valk_look k t
    have h1 : c = PK.ky x := h1
    subst h1
    unfold valV look at ih ⊢
    rw [List.find?_cons, List.find?_cons]
    show OptRep G (Option.map _ (match decide (PK.ky x = PK.ky k) with | true => _ | false => _)) (Option.map _ (match decide (x = k) with | true => _ | false => _))
    rw [pk_dec]
    cases decide (x = k) with
    | true => exact ⟨v, rfl, h2⟩
    | false => exact ih
theorem anyk_look (k : κ) : ∀ {kvs : List (Key × V)} {l : List (κ × α)}, Paired (EnK G) kvs l → (kvs.any fun kv => decide (kv.1 = PK.ky k)) = l.any fun e => decide (e.1 = k)
  | _, _, .nil => rfl
  | (c, v) :: kvs, (x, y) :: l, .cons ⟨h1, h2⟩ t => by
    have h1 : c = PK.ky x := h1
    subst h1
    rw [List.any_cons, List.any_cons, anyk_look k t]
    show (decide (PK.ky x = PK.ky k) || _) = (decide (x = k) || _)
    rw [pk_dec]
theorem replk_paired {v : V} {k : κ} {x : α} (r : rep G v x) : ∀ {kvs : List (Key × V)} {l : List (κ × α)}, Paired (EnK G) kvs l → Paired (EnK G) (kvs.map fun kv => if kv.1 = PK.ky k then (kv.1, v) else kv) (l.map fun e => if e.1 = k then (e.1, x) else e)
  | _, _, .nil => .nil
  | (c, u) :: kvs, (z, y) :: l, .cons ⟨h1, h2⟩ t => by
    have h1 : c = PK.ky z := h1
    subst h1
    refine .cons ?_ (replk_paired r t)
    show EnK G (if PK.ky z = PK.ky k then (PK.ky z, v) else (PK.ky z, u)) (if z = k then (z, x) else (z, y))
    by_cases e : z = k
    · rw [if_pos e, if_pos (congrArg PK.ky e)]; exact ⟨rfl, r⟩
    · rw [if_neg e, if_neg fun q => e (PK.inj q)]; exact ⟨rfl, h2⟩
theorem putk_paired {kvs : List (Key × V)} {l : List (κ × α)} {v : V} {k : κ} {x : α} (h : Paired (EnK G) kvs l) (r : rep G v x) : Paired (EnK G) (putK kvs (PK.ky k) v) (put l k x) := by
  unfold putK put
  rw [anyk_look k h]
  by_cases q : (l.any fun e => decide (e.1 = k)) = true
  · rw [if_pos q, if_pos q]; exact replk_paired r h
  · rw [if_neg q, if_neg q]; exact paired_app h (.cons ⟨rfl, r⟩ .nil)
theorem Mk.step {M : Addr → Prop} {G' H' : Hp} {d : Addr} {l : List (κ × α)} (x : Mk G H d l) (g : Gr M G H G' H') (hp : ¬ M d) : Mk G' H' d l := by
  obtain ⟨h1, kvs, h2, h3⟩ := x
  exact ⟨g.out h1 h2, kvs, g.h _ _ hp h2, enk_mono g.g h3⟩
theorem Mk.step0 {G' H' : Hp} {d : Addr} {l : List (κ × α)} (x : Mk G H d l) (g : Gr M0 G H G' H') : Mk G' H' d l := x.step g fun z => z
theorem Mk.other {q d : Addr} {o : HO} {l : List (κ × α)} (x : Mk G H d l) (ne : d ≠ q) : Mk G (upd H q o) d l := by
  obtain ⟨h1, kvs, h2, h⟩ := x
  exact ⟨h1, kvs, by rw [upd_ne ne]; exact h2, h⟩
theorem Mk.frz {M : Addr → Prop} {Ge He : Hp} {d : Addr} {l : List (κ × α)} (x : Mk G H d l) (g : Gr M Ge He G H) (np : He d = none) : ∃ G', Gr M Ge He G' H ∧ Pf.rep G' (.ref d) (Dck.mk l) ∧ Same G G' := by
  obtain ⟨h1, kvs, h2, h4⟩ := x
  exact ⟨upd G d (.dK kvs), g.still np h1 h2, ⟨d, kvs, rfl, upd_same, enk_mono (same_new h1) h4⟩, same_new h1⟩
/-- d[k] = e -/
theorem st_kput {i : Nat} {d : Addr} {l : List (κ × α)} {p : κ} {x : α} (hv : σ[i]? = some (some (.ref d))) (md : Mk G H d l) (s : Same G H) (hx : EvH te σ G H x) (hk : Ev tb σ G p) (hn : l.length < 100000)
    (k : ∀ G' H' o, Gr M0 G H G' H' → Mk G' (upd H' d o) d (put l p x) → Same G' (upd H' d o) → D.nx σ (upd H' d o)) : sDPut (tVar i) tb te D σ H := hx _ fun v G1 H1 g1 k1 =>
  ⟨.ref d, hv, (hk.mono g1.g) H1 g1.i _ fun w G2 H2 g2 k2 => by
    obtain ⟨n1, kvs, e1, e3⟩ := (md.step0 g1).step0 g2
    have h2 := PK.of k2; subst h2
    have hl := Paired.length e3
    exact ⟨d, upd H2 d (.dK (putK kvs (PK.ky p) v)), rfl, DPut.k e1 (sl_lt (by omega)), k G2 H2 _ (g1.trans g2) ⟨n1, _, upd_same, putk_paired e3 (Rep.mono g2.g k1)⟩ (same_mut g2.i n1)⟩⟩
theorem sq_kput {i : Nat} {d : Addr} {l : List (κ × α)} {p : κ} {x : α} (hv : σ[i]? = some (some (.ref d))) (md : Mk G H d l) (s : Same G H) (hx : EvH te σ G H x) (hk : Ev tb σ G p) (hn : l.length < 100000)
    (k : ∀ G' H' o, Gr M0 G H G' H' → Mk G' (upd H' d o) d (put l p x) → Same G' (upd H' d o) → u D σ (upd H' d o)) : tSeq (sDPut (tVar i) tb te) u D σ H := st_kput (D := { D with nx := u D }) hv md s hx hk hn k
/-! d stands still -/
theorem ev_knotin {p : κ} {d : Dck κ α} (ha : Ev ta σ G p) (hb : Ev tb σ G d) : Ev (tDNotIn ta tb) σ G (!(look d.l p).isSome) := fun H i Q q =>
  ha H i _ fun v G1 H1 g1 k1 => (hb.mono g1.g) H1 g1.i _ fun u G2 H2 g2 k2 => by
    have h2 := PK.of k1; subst h2
    obtain ⟨a, kvs, rfl, e1, e2⟩ := k2
    exact ⟨a, valV kvs (PK.ky p), rfl, DGet.k (g2.i _ _ e1), q _ G2 H2 (g1.trans g2) (by rw [opt_some (valk_look p e2)]; rfl)⟩
theorem ev_kget {p : κ} {d : Dck κ α} {x : α} (ha : Ev ta σ G d) (hb : Ev tb σ G p) (hm : look d.l p = some x) : Ev (tDGet ta tb) σ G x := fun H i Q q =>
  ha H i _ fun v G1 H1 g1 k1 => (hb.mono g1.g) H1 g1.i _ fun u G2 H2 g2 k2 => by
    have h2 := PK.of k2; subst h2
    obtain ⟨a, kvs, rfl, e1, e2⟩ := Rep.mono g2.g k1
    have h := valk_look p e2
    rw [hm] at h
    obtain ⟨w, e4, r⟩ := h
    exact ⟨a, w, rfl, e4 ▸ DGet.k (g2.i _ _ e1), q w G2 H2 (g1.trans g2) r⟩
/-- a value or None -/

theorem Mk.rep {d : Addr} {l : List (κ × α)} (m : Mk G H d l) (i : Same G H) : ∃ o, H d = some o ∧ Same G (upd G d o) ∧ Same (upd G d o) H ∧ Pf.rep (upd G d o) (.ref d) (Dck.mk l) := by
  obtain ⟨h1, kvs, h2, h4⟩ := m
  exact ⟨_, h2, same_new h1, same_still i h2, d, kvs, rfl, upd_same, enk_mono (same_new h1) h4⟩
theorem Mk.up {G' : Hp} {d : Addr} {l : List (κ × α)} (x : Mk G H d l) (g : Same G G') (n : G' d = none) : Mk G' H d l := by
  obtain ⟨h1, kvs, h2, h3⟩ := x
  exact ⟨n, kvs, h2, enk_mono g h3⟩
/-- d.get(k, z) of a dict that stands still -/
theorem ev_kget2k {p : κ} {d : Dck κ α} {z : α} {tx : TE} (ha : Ev ta σ G d) (hb : Ev tb σ G p) (hz : Ev tx σ G z) : Ev (tDGet2 ta tb tx) σ G ((look d.l p).getD z) := fun H i Q q =>
  ha H i _ fun v G1 H1 g1 k1 => by
    obtain ⟨a, kvs, rfl, e1, e2⟩ := k1
    refine ⟨a, rfl, .inl ⟨kvs, .inl (g1.i _ _ e1)⟩, (hb.mono g1.g) H1 g1.i _ fun y G2 H2 g2 k2 => (hz.mono (g1.g.trans g2.g)) H2 g2.i _ fun w G3 H3 g3 k3 => ?_⟩
    have h2 := PK.of k2
    subst h2
    have e3 := enk_mono (g2.g.trans g3.g) e2
    have h := valk_look p e3
    refine ⟨_, DGet.k (g3.i _ _ (g3.g _ _ (g2.g _ _ e1))), q _ G3 H3 ((g1.trans g2).trans g3) ?_⟩
    cases hm : look d.l p with
    | none => rw [hm] at h; rw [show valV kvs (PK.ky p) = none from h]; exact k3
    | some x => rw [hm] at h; obtain ⟨u, eu, ru⟩ := h; rw [eu]; exact ru
end
end Pf

namespace Pf
open PySem PySem.Spec PyProof.Rows L2
/-! ### a plan has one tree -/
theorem ev_eqW {σ : L2.St} {G : Hp} {ta tb : TE} {K : Fg} {d e : PyData} (ha : Ev ta σ G d) (hb : Ev tb σ G e) (h1 : SeqAt.shaped d = true) (h2 : SeqAt.shaped e = true) : Ev (tOp (rEqD K) ta tb) σ G (PyData.eqv d e) :=
  ev2 ha hb fun v u G' _ k1 k2 H i Q q => ⟨d, e, rd_dp i _ _ k1, rd_dp i _ _ k2, h1, h2, q _ G' H (Gr.refl i) rfl⟩
section
variable {α β : Type} [Rep α] [Rep β] {σ : L2.St} {G : Hp} {ta : TE} {W : WX}
end
end Pf

namespace Pf
open PySem PySem.Spec PyProof.Rows L2
/-! ### what a shut paper can be: a plan, a place, the corners that have numbers -/
structure Ch where
  p : Plan
  s : Pl
  c : List Int
instance : Rep Ch := ⟨fun G v x => ∃ a v1 v2 v3 v4, v = .ref a ∧ G a = some (.tup [v1, v2, v3, v4]) ∧ rep G v1 x.p ∧ rep G v2 (thirdsM x.p) ∧ rep G v3 x.s ∧ rep G v4 (Tup.mk x.c), fun e ⟨a, v1, v2, v3, v4, h1, h2, h3, h4, h5, h6⟩ => ⟨a, v1, v2, v3, v4, h1, e _ _ h2, Rep.mono e h3, Rep.mono e h4, Rep.mono e h5, Rep.mono e h6⟩⟩
structure GoodC (x : Ch) : Prop where
  pl : isPlanM x.p = true
  f8 : x.p.1 ≤ 8
  j : Jn x.p x.s.1 x.s.2
  nd : x.c.Nodup
  inn : ∀ y ∈ x.c, 0 ≤ y ∧ y < x.p.1
theorem GoodC.len {x : Ch} (g : GoodC x) : x.c.length ≤ 8 := by
  have z := sub_len (m := rng 0 x.p.1) g.nd (fun y hy => rng_mem.mpr (g.inn y hy))
  rw [rng_len] at z
  have := g.f8
  omega
section
variable {σ : L2.St} {G H : Hp} {t1 t2 t3 t4 te : TE} {K : Fg}
end
end Pf

namespace Pf
open PySem PySem.Spec PyProof.Rows L2
section
variable {α : Type} [Rep α] {σ : L2.St} {G H : Hp} {te : TE} {K : Fg} {D : Ends} {ta tb : TE}
end
end Pf

namespace Pf
open PySem PySem.Spec PyProof.Rows L2
/-! ### methods and classes of the program: what the text has, what they promise -/
def memS (s : Stmt) (j : Nat) : Stmt := match s with
  | .ClassDef _ _ _ b _ _ _ _ _ _ _ => b.getD j (.Pass ⟨0, 0, 0, 0⟩)
  | _ => .Pass ⟨0, 0, 0, 0⟩
structure TxM (K : Fg) (C : Addr) (m qual : Str) (ps : List Str) (st : Stmt) : Prop where
  ex : ∃ f fd, Meth K C m f ∧ Fun K m qual st f fd ∧ Binds K fd ps []
structure Mo (P : Program) (w : World) (K : Fg) (mg : Str → Option Value) (base : Heap) (k : Nat) (C : Addr) (m : Str) (ps : List Str) (sp : Sp) : Prop where
  ex : ∃ f fd, Cls K C ∧ Meth K C m f ∧ FnOk P w K mg base (L2N.CX P w) k f fd ps sp ∧ Binds K fd ps []
structure TxI (K : Fg) (mg : Str → Option Value) (x : Str) (C : Addr) (qual : Str) (ps : List Str) (st : Stmt) (dv : V) : Prop where
  ex : ∃ f fd, L2.Mk K C f ∧ FunD K "__init__" qual (defArgs st) (defBody st) (defScope st) [dv] [] f fd ∧ Binds K fd ps [] ∧ (∃ ds, Vals [dv] ds ∧ Binds K fd ps ds) ∧ mg x = some (.ref C)
structure Ma (P : Program) (w : World) (K : Fg) (mg : Str → Option Value) (base : Heap) (k : Nat) (x : Str) (C : Addr) (ps : List Str) (dv : V) (sp : Sp) : Prop where
  ex : ∃ f fd, L2.Mk K C f ∧ FnOk P w K mg base (L2N.CX P w) k f fd ps sp ∧ Binds K fd ps [] ∧ (∃ ds, Vals [dv] ds ∧ Binds K fd ps ds) ∧ mg x = some (.ref C)
section
variable {P : Program} {w : World} {K : Fg} {mg : Str → Option Value} {base : Heap}
theorem TxM.ok {C : Addr} {m qual : Str} {st : Stmt} {N ps : List Str} {k : Nat} {sp : Sp} (T : TxM K C m qual ps st) (c : Cls K C) (S : FnScope N ps (defScope st)) (len : ∀ vs H Q E, sp vs H Q E → vs.length = ps.length)
    (hbody : ∀ (cdv : Value) (f : Addr) (A : Around) (outer : List Env) (s : Shared) (H : Hp) (vs : List V) (Q : VK) (E : XK), Room k (A.deeper (envOfC qual (defScope st) s.heap.objs.size f cdv)) → sp vs H Q E →
      ∃ t, PSs (cxOf (L2N.CX P w) P w K mg base N qual (defScope st) f cdv A outer s H E) (defBody st) t ∧ t { nx := fun _ H' => Q .non H', rt := Q } (start N vs) H) : Mo P w K mg base (k + 1) C m ps sp := by
  obtain ⟨f, fd, M, F, b⟩ := T.ex
  exact ⟨f, fd, c, M, F.okN S len fun cdv A outer s H vs Q E hr h => hbody cdv f A outer s H vs Q E hr h, b⟩
theorem TxI.ok {x : Str} {C : Addr} {qual : Str} {st : Stmt} {N ps : List Str} {k : Nat} {dv : V} {sp : Sp} (T : TxI K mg x C qual ps st dv) (S : FnScope N ps (defScope st)) (len : ∀ vs H Q E, sp vs H Q E → vs.length = ps.length)
    (hbody : ∀ (cdv : Value) (f : Addr) (A : Around) (outer : List Env) (s : Shared) (H : Hp) (vs : List V) (Q : VK) (E : XK), Room k (A.deeper (envOfC qual (defScope st) s.heap.objs.size f cdv)) → sp vs H Q E →
      ∃ t, PSs (cxOf (L2N.CX P w) P w K mg base N qual (defScope st) f cdv A outer s H E) (defBody st) t ∧ t { nx := fun _ H' => Q .non H', rt := Q } (start N vs) H) : Ma P w K mg base (k + 1) x C ps dv sp := by
  obtain ⟨f, fd, M, F, b, b2, m⟩ := T.ex
  exact ⟨f, fd, M, F.ok S len fun cdv A outer s H vs Q E hr h => hbody cdv f A outer s H vs Q E hr h, b, b2, m⟩
end
section
variable {X : Cx} {j k : Nat} {x m : Str} {ps : List Str} {sp : Sp} {p pos apos : Pos} {o e : Expr} {es : List Expr} {ta : TE} {t : TA} {W : WX} {C : Addr} {dv : V}
end
/-! ### a watch that stands: its list of stages -/
abbrev Stg := List Ch × Int
def Wt (C : Addr) (G H : Hp) (a sp : Addr) (st : List Stg) : Prop := G a = none ∧ (∃ dx, H a = some (.ins C dx [("stages", .ref sp)])) ∧ Ml G H sp st
theorem Wt.step {C : Addr} {M : Addr → Prop} {G H G' H' : Hp} {a sp : Addr} {st : List Stg} (x : Wt C G H a sp st) (g : Gr M G H G' H') (ha : ¬ M a) (hs : ¬ M sp) : Wt C G' H' a sp st := by
  obtain ⟨n, ⟨dx, e⟩, m⟩ := x
  exact ⟨g.out n e, ⟨dx, g.h _ _ ha e⟩, m.step g hs⟩
theorem Wt.step0 {C : Addr} {G H G' H' : Hp} {a sp : Addr} {st : List Stg} (x : Wt C G H a sp st) (g : Gr M0 G H G' H') : Wt C G' H' a sp st := x.step g (fun z => z) (fun z => z)
theorem Wt.ne {C : Addr} {G H : Hp} {a sp : Addr} {st : List Stg} (x : Wt C G H a sp st) : a ≠ sp := by
  obtain ⟨n, ⟨dx, e⟩, _, vs, e2, _⟩ := x
  intro z
  rw [z, e2] at e
  cases e
end Pf

namespace Pf
open PySem PySem.Spec PyProof.Rows L2
section
variable {σ : L2.St} {G H : Hp} {te ta tb tc : TE} {K : Fg} {D : Ends} {u : TS} {C a sp : Addr} {st : List Stg} {W : L2.St → XK}
/-! what the methods tell -/
/-! tests at this very heap -/
end
end Pf

namespace Pf
open PySem PySem.Spec PyProof.Rows L2
/-! ### tuples that stand in the heap or are constants of the module -/
theorem rd_mono {G G' : Hp} {a : Addr} {u : HO} (e : Same G G') (h : Rd G a u) : Rd G' a u := h.elim (fun h => .inl (e _ _ h)) fun ⟨o, h⟩ => .inr ⟨o, e _ _ h⟩
theorem sqt_mono {K : Fg} {G G' : Hp} {a : Addr} {xs : List V} (e : Same G G') (h : SqT K G a xs) : SqT K G' a xs := h.elim (fun h => .inl (rd_mono e h)) .inr
/-- a place and a third -/
structure Lie3 (K : Fg) where
  t : T3
instance {K : Fg} : Rep (Lie3 K) := ⟨fun G v x => ∃ p, v = .ref p ∧ SqT K G p [.int x.t.a, .int x.t.b, .int x.t.c], fun e ⟨p, h1, h2⟩ => ⟨p, h1, sqt_mono e h2⟩⟩
section
variable {K : Fg} {σ : L2.St} {G H : Hp} {te ta tb : TE} {D : Ends} {u : TS}
end
instance : TK (Int × Str) where
  ky := fun x => [Sum.inl x.1, Sum.inr x.2]
  inj := fun {x y} h => by
    injection h with h1 h; injection h with h2 h
    cases x; cases y
    cases Sum.inl.inj h1; cases Sum.inr.inj h2; rfl
  to := fun {G b x} h => ⟨b, .int x.1, .str x.2, rfl, h, rfl, rfl⟩
  of := fun {G v x} ⟨b, u, w, e, h, h1, h2⟩ => ⟨b, e, by rw [rep_int h1, rep_str h2] at h; exact h⟩
/-! ### papers -/
abbrev LvL := List ((Int × Str) × (Str × Str))
structure PapM where
  row : Str
  fold : Option (Plan × T3)
  lv : LvL
def FoldR (K : Fg) (G : Hp) (u1 u2 : V) : Option (Plan × T3) → Prop
  | none => u1 = .non ∧ u2 = .non
  | some f => rep G u1 f.1 ∧ rep G u2 (Lie3.mk f.2 : Lie3 K)
theorem FoldR.mono {K : Fg} {G G' : Hp} {u1 u2 : V} (e : Same G G') : ∀ {o : Option (Plan × T3)}, FoldR K G u1 u2 o → FoldR K G' u1 u2 o
  | none, h => h
  | some _, h => ⟨Rep.mono e h.1, Rep.mono e h.2⟩
section
variable {K : Fg} {C : Addr} {σ : L2.St} {G H : Hp} {te ta tb : TE} {p : PapM}
end
/-! ### classes made by an __init__ without a default -/
structure TxN (K : Fg) (mg : Str → Option Value) (x : Str) (C : Addr) (qual : Str) (ps : List Str) (st : Stmt) : Prop where
  ex : ∃ f fd, L2.Mk K C f ∧ Fun K "__init__" qual st f fd ∧ Binds K fd ps [] ∧ mg x = some (.ref C)
structure Mc (P : Program) (w : World) (K : Fg) (mg : Str → Option Value) (base : Heap) (k : Nat) (x : Str) (C : Addr) (ps : List Str) (sp : Sp) : Prop where
  ex : ∃ f fd, L2.Mk K C f ∧ FnOk P w K mg base (L2N.CX P w) k f fd ps sp ∧ Binds K fd ps [] ∧ mg x = some (.ref C)
section
variable {P : Program} {w : World} {K : Fg} {mg : Str → Option Value} {base : Heap}
theorem TxN.ok {x : Str} {C : Addr} {qual : Str} {st : Stmt} {N ps : List Str} {k : Nat} {sp : Sp} (T : TxN K mg x C qual ps st) (S : FnScope N ps (defScope st)) (len : ∀ vs H Q E, sp vs H Q E → vs.length = ps.length)
    (hbody : ∀ (cdv : Value) (f : Addr) (A : Around) (outer : List Env) (s : Shared) (H : Hp) (vs : List V) (Q : VK) (E : XK), Room k (A.deeper (envOfC qual (defScope st) s.heap.objs.size f cdv)) → sp vs H Q E →
      ∃ t, PSs (cxOf (L2N.CX P w) P w K mg base N qual (defScope st) f cdv A outer s H E) (defBody st) t ∧ t { nx := fun _ H' => Q .non H', rt := Q } (start N vs) H) : Mc P w K mg base (k + 1) x C ps sp := by
  obtain ⟨f, fd, M, F, b, m⟩ := T.ex
  exact ⟨f, fd, M, F.okN S len fun cdv A outer s H vs Q E hr h => hbody cdv f A outer s H vs Q E hr h, b, m⟩
end
section
variable {X : Cx} {j k : Nat} {x : Str} {ps : List Str} {sp : Sp} {p pos : Pos} {e : Expr} {es : List Expr} {t : TA} {W : WX} {C : Addr}
end
section
variable {K : Fg} {C : Addr} {σ : L2.St} {G H : Hp} {t1 t2 t3 t4 : TE} {W : L2.St → XK} {p : PapM}
end
end Pf

namespace Pf
open PySem PySem.Spec PySem.W PyProof.Rows L2
/-! ### x, y, *rest = a tuple -/
section
variable {prog : Program} {w : World} {A : Around} {E : Value → Shared → Prop} {s : Shared}
end
section
variable {X : Cx} {pos p2 : Pos} {e1 e2 e3 : Expr}
end
/-! ### f(x, *xs), f a local name that holds a def of the module; it may raise -/
structure HeldX (P : Program) (w : World) (K : Fg) (mg : Str → Option Value) (base : Heap) (k : Nat) (f : Addr) (sp : Sp) : Prop where
  ex : ∃ (fd : FuncData) (ps : List Str), FnOk P w K mg base (L2N.CX P w) k f fd ps sp ∧ PySem.W.keepIn K (.ref f) = true ∧ Binds K fd ps []
theorem DfX.held {P : Program} {w : World} {K : Fg} {mg : Str → Option Value} {base : Heap} {j k : Nat} {x : Str} {ps : List Str} {sp : Sp} {f : Addr} (D : DfX P w K mg base j x ps sp) (e : mg x = some (.ref f)) (le : j ≤ k) : HeldX P w K mg base k f sp := by
  obtain ⟨f2, fd, F, b, kp, m⟩ := D.ex
  rw [e] at m
  cases m
  exact ⟨fd, ps, F.mono le, kp, b⟩
def tCallDX (P : Program) (w : World) (K : Fg) (mg : Str → Option Value) (base : Heap) (k i : Nat) (W : WX) (t : TA) : TE := fun σ H Q => ∃ f sp, σ[i]? = some (some (.ref f)) ∧ HeldX P w K mg base k f sp ∧ t σ H fun vs H1 => sp vs H1 Q (WE W σ)
section
variable {X : Cx} {W : WX}
end
/-! ### a dict comprehension whose keys are tuples -/
section
variable {X : Cx} {pins : List (Addr × Obj)} {σ : L2.St} {H : Hp} {s : Shared}
end
end Pf

namespace Pf
open PySem PySem.Spec PyProof.Rows L2
/-! ### what deeds make of a paper -/
inductive Ek where
  | badDeed | badName | taken | badPlan | full | noPaper | unfolded | badWay | noPinch | badSlot | badColour | badLetter | folded | otherRow | badNumber | badStep | noBack | noForth
  deriving DecidableEq
/-- the dict of the exception that refuses: none but for OtherRow -/
def XdOk (G : Hp) : Ek → Option Addr → Prop
  | .otherRow, x => ∃ d fs, x = some d ∧ G d = some (.xd fs)
  | _, x => x = none
/-- .. as a caught exception has it -/
def DxH (G : Hp) (d : Option Addr) : Prop := d = none ∨ ∃ dx fs, d = some dx ∧ G dx = some (.xd fs)
theorem DxH.mono {G G' : Hp} (e : Same G G') {d : Option Addr} (h : DxH G d) : DxH G' d := h.elim .inl fun ⟨dx, fs, h1, h2⟩ => .inr ⟨dx, fs, h1, e _ _ h2⟩
theorem XdOk.dx {G : Hp} : ∀ {k : Ek} {x : Option Addr}, XdOk G k x → DxH G x := fun {k x} h => by
  cases k
  case otherRow =>
    obtain ⟨d, fs, h1, h2⟩ := h
    exact .inr ⟨d, fs, h1, h2⟩
  all_goals exact .inl h
theorem XdOk.mono {G G' : Hp} (e : Same G G') : ∀ {k : Ek} {x : Option Addr}, XdOk G k x → XdOk G' k x := fun {k x} h => by
  cases k
  case otherRow =>
    obtain ⟨d, fs, h1, h2⟩ := h
    exact ⟨d, fs, h1, e _ _ h2⟩
  all_goals exact h
def ErrX (ad : Ek → Addr) (k : Ek) (E : XK) (G H : Hp) : Prop := ∀ x, XdOk G k x → E (.ref (ad k)) x H
/-- what comes of a call: it tells a value, or it refuses -/
def Out {α : Type} [Rep α] (ad : Ek → Addr) (G H : Hp) (Q : VK) (E : XK) (r : Except Ek α) : Prop :=
  match r with
  | .ok z => ∀ v G' H', Gr M0 G H G' H' → rep G' v z → Q v H'
  | .error k => ∀ G' H', Gr M0 G H G' H' → ErrX ad k E G' H'
section
variable {α β γ δ ε : Type} [Rep α] [Rep β] [Rep γ] [Rep δ] [Rep ε]
/-- an expression that tells or refuses -/
def EvR (te : TE) (σ : L2.St) (G : Hp) (ad : Ek → Addr) (W : WX) (r : Except Ek α) : Prop := ∀ H, Same G H → ∀ Q : VK, Out ad G H Q (WE W σ) r → te σ H Q
variable {σ : L2.St} {G H : Hp} {te ta tb tc : TE} {ad : Ek → Addr} {W : WX} {D : Ends} {u : TS}
end
section
variable {α β γ δ ε : Type} [Rep α] [Rep β] [Rep γ] [Rep δ] [Rep ε]
variable {σ : L2.St} {G H : Hp} {te ta tb tc td : TE} {ad : Ek → Addr} {W : WX} {D : Ends} {u : TS} {r : Except Ek α}
theorem EvR.mono {G1 : Hp} (h : EvR te σ G ad W r) (e : Same G G1) : EvR te σ G1 ad W r := fun H i Q o => h H (e.trans i) Q (by
  cases r with
  | ok z => exact fun v G' H' g k => o v (uni G' G1) H' (gr_up e i g) (Rep.mono uni_l k)
  | error k => exact fun G' H' g x hx => o (uni G' G1) H' (gr_up e i g) x (hx.mono uni_l))
end
/-! ### the functions of papers -/
instance : Inhabited (Tri Int Str Int) := ⟨⟨0, "", 0⟩⟩
/-- what a paper keeps to: n deeds at most were done -/
structure GoodP (n : Nat) (p : PapM) : Prop where
  row : 3 ≤ p.row.length ∧ p.row.length ≤ 40
  fold : ∀ f, p.fold = some f → isPlanM f.1 = true ∧ Jn f.1 f.2.a f.2.b ∧ 0 ≤ f.2.c ∧ f.2.c ≤ 2 ∧ rowM f.1 = p.row
  lv : p.lv.length ≤ n
  nd : (p.lv.map (·.1)).Nodup
  let_ : ∀ e ∈ p.lv, e.2.2.length = 3 ∧ e.2.1.length ≤ 10
theorem GoodP.le {n m : Nat} {p : PapM} (g : GoodP n p) (h : n ≤ m) : GoodP m p := ⟨g.row, g.fold, Nat.le_trans g.lv h, g.nd, g.let_⟩

/-! ### deeds -/
inductive Ac where
  | pinch (w : Str) | unpinch (w : Str) | over | about | paint (s : Int) (c : Str) | mark (s : Int) (x : Str) | wash (s : Int) | unfold | refold (q : Plan)
def Ac.word : Ac → Str
  | .pinch _ => "pinch"
  | .unpinch _ => "unpinch"
  | .over => "over"
  | .about => "about"
  | .paint _ _ => "paint"
  | .mark _ _ => "mark"
  | .wash _ => "wash"
  | .unfold => "unfold"
  | .refold _ => "refold"
def Ac.things : Ac → List Th
  | .pinch w => [.s w]
  | .unpinch w => [.s w]
  | .over => []
  | .about => []
  | .paint s c => [.n s, .s c]
  | .mark s x => [.n s, .s x]
  | .wash s => [.n s]
  | .unfold => []
  | .refold q => [.p q]
/-- such an act as the program's promise covers: texts of some length, a refolding by the right row -/
def Ac.ok (p : PapM) : Ac → Prop
  | .mark _ x => x.length ≤ 90000
  | _ => True
inductive Dd where
  | fold (n : Str) (q : Plan) | drop (n : Str) | act (n : Str) (a : Ac)
def Dd.name : Dd → Str
  | .fold n _ => n
  | .drop n => n
  | .act n _ => n
/-! ### the text's own errors -/
end Pf

namespace Pf
open PySem PySem.Spec PyProof.Rows L2
/-! ### an exception class with an own __init__, raised -/
def oexB (K : Fg) (C : Addr) : Bool := match K.lookup C with
  | some ⟨.type "type", _, .cls cd, sl⟩ => (match cd.mro, sl.toList with
    | .ref C' :: bm, [_, _, _, _, some (.builtin n), _] => C' == C && n == "ValueError.__new__" && !cd.hasDel && cd.hasDict && PySem.HandSPX.refsVE bm
    | _, _ => false)
  | _ => false
theorem oex_of {K : Fg} {C : Addr} (q : oexB K C = true) (sa : PySem.W.findIn K (.ref C) "__setattr__" = some (some (.builtin "object.__setattr__"))) (e : PySem.W.subIn K (.ref C) (.type "BaseException") = some true) (t : PySem.W.typeIn K (.ref C) = some (.type "type")) (k : PySem.W.keepIn K (.ref C) = true) : OexC K C := by
  refine ⟨?_, sa, e, t, k⟩
  unfold oexB at q
  split at q
  · rename_i dd cd sl ho
    split at q
    · rename_i C' bm k0 k1 k2 k3 n k5 hm hs
      simp only [Bool.and_eq_true, beq_iff_eq, Bool.not_eq_true'] at q
      obtain ⟨⟨⟨⟨rfl, rfl⟩, hdel⟩, hd⟩, hv⟩ := q
      obtain ⟨nm, bs, mro, ns, qn, hd', sn, sub, ab, col, del⟩ := cd
      dsimp only at hm hdel hd
      subst hm hdel hd
      have hsl : sl = #[k0, k1, k2, k3, some (.builtin "ValueError.__new__"), k5] := by
        obtain ⟨l⟩ := sl
        simp only at hs
        rw [hs]
      subst hsl
      exact ⟨nm, qn, ns, bs, bm, sn, sub, ab, col, dd, k0, k1, k2, k3, k5, ho, hv⟩
    · cases q
  · cases q
section
variable {X : Cx} {pins : List (Addr × Obj)} {σ : L2.St} {H : Hp}
/-- the heap with the arguments' tuple and the new exception laid on it -/
abbrev exH (h : Heap) (C : Addr) (us : List Value) : Heap := (h.push (PySem.W.kdv_tup us)).push (PySem.HandSPX.excO C h.objs.size)
theorem exH_keep {h : Heap} {C : Addr} {us : List Value} : ∀ b o, h.get? b = some o → (exH h C us).get? b = some o := fun b o e => by
  unfold exH
  exact Heap.get?_push_of_some _ (Heap.get?_push_of_some _ e)
theorem exH_inv {h : Heap} {g : Array GenState} {dr : Drawn} {tk : Nat} {os : OsState} {C : Addr} {us : List Value} (I : Inv X pins σ H ⟨h, g, dr, tk, os⟩) :
    Inv X pins σ (upd H (h.objs.size + 1) (exo (h.objs.size + 1) C none)) ⟨exH h C us, g, dr, tk, os⟩ :=
  I.laid (a := h.objs.size + 1) (o := exo (h.objs.size + 1) C none) (h' := exH h C us) (t' := tk) exH_keep (Nat.le_succ _) (exo_ok (t1 := h.objs.size) (by unfold exH; heap_get))
/-- an exception of a class with its own __init__, made where nothing is handled -/
theorem pmk_oexN {ta : TA} {p pos : Pos} {e : Expr} {es : List Expr} {CX : CXT} {x : Str} {C fI : Addr} {k : Nat} {fd : FuncData} {ps : List Str} {sp : Sp} (O : OexC X.K C) (fi : PySem.W.findIn X.K (.ref C) "__init__" = some (some (.ref fI))) (ti : PySem.W.typeIn X.K (.ref fI) = some (.type "function"))
    (Fo : FnOk X.prog X.w X.K X.mg X.base CX k fI fd ps sp) (room : Room (k + 1) X.A) (bd : Binds X.K fd ps []) (pss : Passes CX X (fun _ _ _ => False)) (gl : Gl X x) (mx : X.mg x = some (.ref C)) (args : PA X (e :: es) ta)
    (nd : (x == ("__debug__" : Str)) = false := by decide) (st : starEach (e :: es) X.env = (false, eval e X.env) :: starEach es X.env := by rfl) (pl : (backTo pos (starEach es X.env)).any (·.1) = false := by rfl) :
    L2N.PMk X (.Call (.Name x p) (e :: es) [] pos) (tMkO C sp [] ta) := fun pins s σ H Q I h => by
  obtain ⟨_, _, _, _, bm, _, _, _, _, _, _, _, _, _, _, here, ve⟩ := O.cls
  refine wpAny_Call_Name_kw (ld_glob I gl mx (PySem.W.callWith_K (h₀ := X.base) I.ok.mod.kin O.kC (thn (args.run pos pins s σ H _ I h) fun us s1 ⟨vs, H1, J, rv, small, ask⟩ => ⟨J.kIn, ?_⟩) st pl) nd)
  obtain ⟨h1, g, dr, tk, os⟩ := s1
  have no : H1 (h1.objs.size + 1) = none := J.hok.fresh (Nat.le_succ _)
  have want := ask _ no
  rw [List.append_nil] at want
  have J2 := exH_inv (C := C) (us := us) J
  have rv2 : Vals (V.ref (h1.objs.size + 1) :: vs) (Value.ref (h1.objs.size + 1) :: us) := .cons rfl rv
  have lens : (Value.ref (h1.objs.size + 1) :: us).length = ps.length := rv2.length.symm.trans (Fo.len _ _ _ _ want)
  have bnd := bd _ (Value.ref (h1.objs.size + 1) :: us) J2.kIn (by rw [List.append_nil]; exact lens)
  rw [List.append_nil] at bnd
  have few : us.length ≤ sizeLine := by have := Paired.length rv; rw [sizeLine_eq]; omega
  refine wpAny_call (PySem.HandSPX.call_own PySem.F.excBase_ValueError (fun Y => PySem.HandSPX.refsVE_contains Y bm ve) (J.kIn _ _ here) (PySem.W.looks_findIn J.kIn fi) (fun self => PySem.W.bind_fn J.kIn self ti) few ?_)
  refine codeAny_mono (Fo.run _ X.stack _ _ ⟨Value.ref (h1.objs.size + 1) :: us, []⟩ (Value.ref (h1.objs.size + 1) :: us) _ _ (fun _ _ _ => False) (room.make C us []) (J2.env0.make C us []) bnd rv2 want) fun r s' out => ?_
  match r, out with
  | .error er, out => exact pss pins σ _ _ er s' J2 out
  | .ok .next, out => exact False.elim out
  | .ok .brk, out => exact False.elim out
  | .ok .cont, out => exact False.elim out
  | .ok (.ret u), out =>
    obtain ⟨v, H2, os2, bare2, un2, ok2, ru, ev, d, fs, at1, at2, d1, q2⟩ := out
    subst ev
    obtain ⟨h2, g2, d2, t2, os'⟩ := s'
    obtain ⟨t0, G, J3, kG, ge, hoe, na⟩ := mk_end0 (d2 := d2) (t2 := t2) J (Nat.le_succ _) exH_keep un2 ok2 os2 bare2 at1 at2 d1
    exact ⟨ru, h1.objs.size + 1, _, _, ⟨G, g2, d2, t2, os'⟩, _, .ref C, some d, rfl, J3, kG, ge, hoe, ⟨rfl, rfl, fun vs hv => by cases hv; rfl⟩, rfl, rfl, na, rfl, bare2, raises_own O.exC O.tyC, q2⟩
end
/-- such a class in the text -/
structure TxE (K : Fg) (mg : Str → Option Value) (x qual : Str) (ps fs : List Str) (st : Stmt) : Prop where
  ex : ∃ C f fd, OexC K C ∧ PySem.W.findIn K (.ref C) "__init__" = some (some (.ref f)) ∧ PySem.W.typeIn K (.ref f) = some (.type "function") ∧ Fun K "__init__" qual st f fd ∧ Binds K fd ps [] ∧ mg x = some (.ref C) ∧ ∀ y ∈ fs, PySem.W.findIn K (.ref C) y = some none
structure McE (P : Program) (w : World) (K : Fg) (mg : Str → Option Value) (base : Heap) (k : Nat) (x : Str) (C : Addr) (ps : List Str) (sp : Sp) : Prop where
  ex : ∃ f fd, OexC K C ∧ PySem.W.findIn K (.ref C) "__init__" = some (some (.ref f)) ∧ PySem.W.typeIn K (.ref f) = some (.type "function") ∧ FnOk P w K mg base CX0 k f fd ps sp ∧ Binds K fd ps [] ∧ mg x = some (.ref C)
def spEI1 (C : Addr) (f : Str) : Sp := fun vs H Q _ => ∃ a u, vs = [.ref a, u] ∧ H a = some (exo a C none) ∧
  ∀ dx, H dx = none → dx ≠ a → Q .non (upd (upd H dx (exd dx [(f, u)])) a (exo a C (some dx)))
section
variable {P : Program} {w : World} {K : Fg} {mg : Str → Option Value} {base : Heap}
theorem pmk_mcE {X : Cx} {e : Expr} {es : List Expr} {ta : TA} {p pos : Pos} {x : Str} {C : Addr} {j k : Nat} {ps : List Str} {sp : Sp} (D : McE X.prog X.w X.K X.mg X.base j x C ps sp) (hr : Room k X.A) (le : j + 1 ≤ k) (hg : Gl X x) (ha : PA X (e :: es) ta)
    (hdb : (x == ("__debug__" : Str)) = false := by decide) (he : starEach (e :: es) X.env = (false, eval e X.env) :: starEach es X.env := by rfl) (hpl : (backTo pos (starEach es X.env)).any (·.1) = false := by rfl) :
    L2N.PMk X (.Call (.Name x p) (e :: es) [] pos) (tMkO C sp [] ta) := by
  obtain ⟨f, fd, T, iC, tI, F1, b, hm⟩ := D.ex
  exact pmk_oexN T iC tI F1 (hr.mono le) b pass0 hg hm ha hdb he hpl
theorem TxE.ok {x qual : Str} {st : Stmt} {N ps fs : List Str} {k : Nat} {sp : Addr → Sp} (T : TxE K mg x qual ps fs st) (S : FnScope N ps (defScope st)) (len : ∀ C vs H Q E, sp C vs H Q E → vs.length = ps.length)
    (hbody : ∀ (C : Addr), OexC K C → (∀ y ∈ fs, PySem.W.findIn K (.ref C) y = some none) → ∀ (cdv : Value) (f : Addr) (A : Around) (outer : List Env) (s : Shared) (H : Hp) (vs : List V) (Q : VK) (E : XK), Room k (A.deeper (envOfC qual (defScope st) s.heap.objs.size f cdv)) → sp C vs H Q E →
      ∃ t, PSs (cxOf CX0 P w K mg base N qual (defScope st) f cdv A outer s H E).nox (defBody st) t ∧ t { nx := fun _ H' => Q .non H', rt := Q } (start N vs) H) : ∃ C, mg x = some (.ref C) ∧ McE P w K mg base (k + 1) x C ps (sp C) := by
  obtain ⟨C, f, fd, O, iC, tI, F, b, m, nf⟩ := T.ex
  refine ⟨C, m, f, fd, O, iC, tI, F.ok S (len C) fun cdv A outer s H vs Q E hr h => ?_, b, m⟩
  obtain ⟨t, h1, h2⟩ := hbody C O nf cdv f A outer s H vs Q E hr h
  exact ⟨t, h1, h2⟩
end
theorem rz_oex1 {σ : L2.St} {G H : Hp} {C : Addr} {f : Str} {t1 : TE} {α : Type} [Rep α] {x : α} {Q : XK} (h1 : Ev t1 σ G x) (s : Same G H)
    (k : ∀ d fs G' H', Gr M0 G H G' H' → G' d = some (.xd fs) → (∃ u, fs = [(f, u)] ∧ rep G' u x) → Q (.ref C) (some d) H') : tMkO C (spEI1 C f) [] (tCons t1 tNil) σ H Q :=
  h1 H s _ fun u G2 H2 g2 r2 => ⟨by show 1 ≤ 1000; decide, fun a na => ⟨a, u, rfl, upd_same, fun dx nd ne => by
    have nd2 : H2 dx = none := by rw [upd_ne ne] at nd; exact nd
    refine ⟨rfl, dx, [(f, u)], upd_same, ?_, nd2, ?_⟩
    · rw [upd_ne ne, upd_same]
    · have e : upd (del (upd (upd (upd H2 a (exo a C none)) dx (exd dx [(f, u)])) a (exo a C (some dx))) a) dx (.xd [(f, u)]) = upd H2 dx (.xd [(f, u)]) := funext fun b => by
        by_cases hb : b = dx
        · subst hb; rw [upd_same, upd_same]
        · rw [upd_ne hb, upd_ne hb]
          by_cases ha : b = a
          · subst ha; rw [del_same]; exact na.symm
          · rw [del_ne ha, upd_ne ha, upd_ne hb, upd_ne ha]
      rw [e]
      have gn := gr_new (o := .xd [(f, u)]) g2.i nd2
      exact k dx _ _ _ (g2.trans gn) upd_same ⟨u, rfl, Rep.mono gn.g r2⟩⟩⟩
end Pf

namespace Pf
open PySem PySem.Spec PyProof.Rows L2
/-! ### expressions that end well or raise BadText(0) -/
section
variable {X : Cx} {j k : Nat} {x : Str} {ps : List Str} {sp : Sp} {p pos : Pos} {e : Expr} {es : List Expr} {t : TA} {W : XK}
/-- a call that may raise, in an element of a comprehension -/
theorem pe_dfB (D : DfX X.prog X.w X.K X.mg X.base j x ps sp) (hr : Room k X.A) (le : j ≤ k) (hg : Gl X x)
    (ha : PA (X.wish (EB X W)) (e :: es) t) (hdb : (x == ("__debug__" : Str)) = false := by decide) (he : starEach (e :: es) X.env = (false, eval e X.env) :: starEach es X.env := by rfl) (hpl : (backTo pos (starEach es X.env)).any (·.1) = false := by rfl) :
    PE (X.wish (EB X W)) (.Call (.Name x p) (e :: es) [] pos) (tCallS sp (fun _ => W) t) := by
  obtain ⟨f, fd, F, b, kp, m⟩ := D.ex
  exact pe_callS (X := X.wish (EB X W)) F (hr.mono le) hg m kp b (fun σ => passB σ) ha hdb he hpl
end
def BadW (C : Addr) (W : XK) (G H : Hp) : Prop := ∀ d u G' H', Gr M0 G H G' H' → G' d = some (.xd [("at", u)]) → rep G' u (0 : Int) → W (.ref C) (some d) H'
theorem BadW.step {C : Addr} {W : XK} {G H G' H' : Hp} (b : BadW C W G H) (g : Gr M0 G H G' H') : BadW C W G' H' := fun d u G2 H2 g2 e r => b d u G2 H2 (g.trans g2) e r
def optL {α β : Type} (f : α → Option β) : List α → Option (List β)
  | [] => some []
  | x :: xs => (f x).bind fun y => (optL f xs).map (y :: ·)
theorem optL_app {α β : Type} (f : α → Option β) : ∀ a b : List α, optL f (a ++ b) = (optL f a).bind fun ys => (optL f b).map (ys ++ ·)
  | [], b => by simp [optL]
  | x :: a, b => by
    rw [List.cons_append, optL, optL, optL_app f a b]
    cases f x with
    | none => rfl
    | some y =>
      cases optL f a with
      | none => rfl
      | some ys =>
        cases optL f b with
        | none => rfl
        | some zs => rfl
theorem optL_len {α β : Type} (f : α → Option β) : ∀ (a : List α) (b : List β), optL f a = some b → b.length = a.length
  | [], b, e => by cases e; rfl
  | x :: a, b, e => by
    rw [optL] at e
    obtain ⟨y, h1, h2⟩ := Option.bind_eq_some_iff.mp e
    obtain ⟨z, h3, h4⟩ := Option.map_eq_some_iff.mp h2
    subst h4
    rw [List.length_cons, List.length_cons, optL_len f a z h3]
section
variable {α β γ : Type} [Rep α] [Rep β] [Rep γ] {σ : L2.St} {G H : Hp} {te ta tb tc : TE} {tt : TT} {C : Addr} {W : XK} {D : Ends} {u : TS} {g : TG}
def EvBd (C : Addr) (W : XK) (te : TE) (σ : L2.St) (G : Hp) (o : Option α) : Prop := ∀ H, Same G H → ∀ Q : VK, (∀ x v G' H', o = some x → Gr M0 G H G' H' → rep G' v x → Q v H') → (o = none → BadW C W G H) → te σ H Q
theorem EvBd.mono {G1 : Hp} {o : Option α} (h : EvBd C W te σ G o) (e : Same G G1) : EvBd C W te σ G1 o := fun H i Q q b =>
  h H (e.trans i) Q (fun x v G' H' ex g r => q x v (uni G' G1) H' ex (gr_up e i g) (Rep.mono uni_l r)) fun eo d u G' H' g e2 r => b eo d u (uni G' G1) H' (gr_up e i g) (uni_l _ _ e2) (Rep.mono uni_l r)
theorem Ev.o {x : α} (h : Ev te σ G x) : EvBd C W te σ G (some x) := fun H i Q q _ => h H i Q fun v G' H' g r => q x v G' H' rfl g r
theorem EvBd.cast {o o' : Option α} (h : EvBd C W te σ G o) (e : o = o') : EvBd C W te σ G o' := e ▸ h
/-- a reader -/
def spRd (C : Addr) (pre : α → Prop) (f : α → Option β) : Sp := fun vs H Q E => ∃ v z G, vs = [v] ∧ Same G H ∧ rep G v z ∧ pre z ∧ (∀ x v' G' H', f z = some x → Gr M0 G H G' H' → rep G' v' x → Q v' H') ∧ (f z = none → BadW C E G H)
theorem len_spRd {C : Addr} {pre : α → Prop} {f : α → Option β} {x : Str} : ∀ vs H Q E, spRd C pre f vs H Q E → vs.length = [x].length := fun _ _ _ _ ⟨_, _, _, e, _⟩ => by subst e; rfl
def spRd2 (C : Addr) (pre : α → γ → Prop) (f : α → γ → Option β) : Sp := fun vs H Q E => ∃ v z v2 z2 G, vs = [v, v2] ∧ Same G H ∧ rep G v z ∧ rep G v2 z2 ∧ pre z z2 ∧ (∀ x v' G' H', f z z2 = some x → Gr M0 G H G' H' → rep G' v' x → Q v' H') ∧ (f z z2 = none → BadW C E G H)
theorem len_spRd2 {C : Addr} {pre : α → γ → Prop} {f : α → γ → Option β} {x y : Str} : ∀ vs H Q E, spRd2 C pre f vs H Q E → vs.length = [x, y].length := fun _ _ _ _ ⟨_, _, _, _, _, e, _⟩ => by subst e; rfl
theorem evb_call1 {pre : α → Prop} {f : α → Option β} {E : L2.St → XK} {z : α} (ha : Ev ta σ G z) (hp : pre z) : EvBd C (E σ) (tCallS (spRd C pre f) E (tCons ta tNil)) σ G (f z) := fun H i Q q b =>
  ha H i _ fun v G1 H1 g1 k1 => ⟨v, z, G1, rfl, g1.i, k1, hp, fun x v' G' H' e g r => q x v' G' H' e (g1.trans g) r, fun e => (b e).step g1⟩
theorem evb_call2 {pre : α → γ → Prop} {f : α → γ → Option β} {E : L2.St → XK} {z : α} {z2 : γ} (ha : Ev ta σ G z) (hb : Ev tb σ G z2) (hp : pre z z2) : EvBd C (E σ) (tCallS (spRd2 C pre f) E (tCons ta (tCons tb tNil))) σ G (f z z2) := fun H i Q q b =>
  ha H i _ fun v G1 H1 g1 k1 => (hb.mono g1.g) H1 g1.i _ fun v2 G2 H2 g2 k2 => ⟨v, z, v2, z2, G2, rfl, g2.i, Rep.mono g2.g k1, k2, hp, fun x v' G' H' e g r => q x v' G' H' e ((g1.trans g2).trans g) r, fun e => (b e).step (g1.trans g2)⟩
theorem evb_tup2 {o : Option α} {o2 : Option β} (ha : EvBd C W ta σ G o) (hb : EvBd C W tb σ G o2) : EvBd C W (tTup (tCons ta (tCons tb tNil))) σ G (o.bind fun a => o2.map fun b => (a, b)) := fun H i Q q bad =>
  ha H i _ (fun x v G1 H1 e1 g1 k1 => (hb.mono g1.g) H1 g1.i _ (fun y w G2 H2 e2 g2 k2 => by
    refine ⟨by show 2 ≤ sizeLine; decide, fun p np => ?_⟩
    have gn := gr_new (o := .tup [v, w]) g2.i np
    refine q (x, y) _ (upd G2 p (.tup [v, w])) _ (by rw [e1, e2]; rfl) ((g1.trans g2).trans gn) ⟨p, v, w, rfl, upd_same, Rep.mono (g2.g.trans gn.g) k1, Rep.mono gn.g k2⟩) fun e2 => (bad (by rw [e1, e2]; rfl)).step g1) fun e1 => bad (by rw [e1]; rfl)
theorem evb_if {b : Bool} {o o2 : Option α} (hc : EvT tt σ G b) (h1 : b = true → EvBd C W ta σ G o) (h2 : b = false → EvBd C W tb σ G o2) : EvBd C W (tIf tt ta tb) σ G (if b = true then o else o2) := fun H i Q q bad =>
  hc H i _ fun G1 H1 g1 => ite2 (fun e => by
    refine ((h1 e).mono g1.g) H1 g1.i Q (fun x v G' H' ex g r => q x v G' H' ?_ (g1.trans g) r) fun ex => (bad ?_).step g1
    · rw [if_pos e]; exact ex
    · rw [if_pos e]; exact ex) (fun e => by
    have e : b = false := by simpa using e
    refine ((h2 e).mono g1.g) H1 g1.i Q (fun x v G' H' ex g r => q x v G' H' ?_ (g1.trans g) r) fun ex => (bad ?_).step g1
    · rw [if_neg (by simp [e])]; exact ex
    · rw [if_neg (by simp [e])]; exact ex)
theorem sq_setO {i : Nat} {o : Option α} (h : EvBd C W te σ G o) (s : Same G H) (k : ∀ x v G' H', o = some x → Gr M0 G H G' H' → rep G' v x → u D (σ.set i (some v)) H') (bad : o = none → BadW C W G H) : tSeq (tAsg te (gName i)) u D σ H := h H s _ k bad
theorem st_retO {o : Option α} (h : EvBd C W te σ G o) (s : Same G H) (k : ∀ x v G' H', o = some x → Gr M0 G H G' H' → rep G' v x → D.rt v H') (bad : o = none → BadW C W G H) : tRet te D σ H := h H s _ k bad
theorem evb_lc {wi : TI} {vs : List Nat} {xs : List α} {f : α → Option β} (hx : EvI wi σ G xs) (hl : xs.length ≤ 100000)
    (hb : ∀ x ∈ xs, ∀ v G1, Same G G1 → rep G1 v x → GB g v (wipe σ vs) G1 fun σ2 => wipe σ2 vs = wipe σ vs ∧ EvBd C W te σ2 G1 (f x)) : EvBd C W (tLc wi g tYes te vs) σ G (optL f xs) := fun H i Q q bad => by
  refine hx H i _ fun J G1 H1 g1 ok D nD => ?_
  have nG : G1 D = none := up_none g1.i nD
  refine ⟨fun k m H => m = xs.length - k ∧ k ≤ xs.length ∧ ∃ ys Gk, optL f (xs.take k) = some ys ∧ Gr M0 G1 H1 Gk H ∧ Ml Gk H D ys, ⟨_, rfl, Nat.zero_le _, [], G1, rfl, (Gr.refl g1.i).mut (.inl nD) nG, nG, [], upd_same, .nil⟩, ?_⟩
  rintro k m H2 ⟨rfl, hk, ys, Gk, oy, gk, ml⟩
  by_cases hlt : k < xs.length
  · refine .inr ⟨ok.go k H2 (gk.g.trans gk.i) hlt, fun H' => ∃ ys Gk, optL f (xs.take (k + 1)) = some ys ∧ Gr M0 G1 H1 Gk H' ∧ Ml Gk H' D ys, fun H' h' => ⟨xs.length - (k + 1), by omega, rfl, hlt, h'⟩, fun v H3 yl => ?_⟩
    have hxk : xs[k]? = some xs[k] := List.getElem?_eq_getElem hlt
    obtain ⟨G3, g3, r3⟩ := ok.yld k H2 v H3 Gk xs[k] gk.g gk.i yl hxk
    have g13 := gk.trans g3
    have et : xs.take (k + 1) = xs.take k ++ [xs[k]] := by
      rw [List.take_add_one, hxk]; rfl
    have es : optL f (xs.take (k + 1)) = (f xs[k]).map fun y => ys ++ [y] := by
      rw [et, optL_app, oy]
      show (optL f [xs[k]]).map (ys ++ ·) = _
      rw [optL]
      cases f xs[k] with
      | none => rfl
      | some y => rfl
    refine hb xs[k] (List.getElem_mem hlt) v G3 (g1.g.trans g13.g) r3 H3 g3.i _ fun σ2 ⟨hw, he⟩ => ⟨hw, ?_⟩
    refine et_yes (G := G3) H3 g3.i _ fun G4 H4 g4 => ite2 (fun _ => ?_) fun z => absurd rfl z
    refine (he.mono g4.g) H4 g4.i _ (fun y w G5 H5 ey g5 r5 => ?_) fun en => ?_
    · have ml5 := ((ml.step0 g3).step0 g4).step0 g5
      obtain ⟨n5, acc, e5, p5⟩ := ml5
      refine ⟨acc, e5, sl_lt ?_, ys ++ [y], G5, by rw [es, ey]; rfl, ((g13.trans g4).trans g5).mut (.inl nD) n5, n5, acc ++ [w], upd_same, paired_app p5 (.cons r5 .nil)⟩
      have l1 := optL_len f _ _ oy
      rw [List.length_take] at l1
      rw [paired_len p5, l1]
      have := Nat.min_le_left k xs.length
      omega
    · refine (bad ?_).step ((g1.trans g13).trans g4)
      have e2 : xs = (xs.take k ++ [xs[k]]) ++ xs.drop (k + 1) := by rw [← et, List.take_append_drop]
      have e3 : optL f (xs.take k ++ [xs[k]]) = none := by rw [← et, es, en]; rfl
      rw [e2, optL_app, e3]
      rfl
  · have e : xs.take k = xs := List.take_of_length_le (by omega)
    rw [e] at oy
    obtain ⟨n5, acc, e5, p5⟩ := ml
    exact .inl ⟨ok.stop k H2 (gk.g.trans gk.i) (by omega), q ys _ (upd Gk D (.lst acc)) H2 oy (g1.trans (gk.still nD n5 e5)) ⟨D, acc, rfl, upd_same, paired_mono (same_new n5) p5⟩⟩
end
section
variable {X : Cx} {W : WX}
/-- f(x, ..), f a local name that holds a def of the module; it may raise -/
theorem pe_callDXp {P : Program} {w : World} {K : Fg} {mg : Str → Option Value} {base : Heap} {k i : Nat} {x : Str} {p pos : Pos} {e : Expr} {es : List Expr} {t : TA} (hP : X.prog = P) (hw : X.w = w) (hK : X.K = K) (hm : X.mg = mg) (hB : X.base = base) (hr : Room k X.A) (hN : X.N[i]? = some x) (hv : Vis X.env.scope x) (tk : L2N.Takes X W) (ha : PA X (e :: es) t)
    (hdb : (x == ("__debug__" : Str)) = false := by decide) (hcd : (x == ("__classdict__" : Str)) = false := by decide)
    (he : starEach (e :: es) X.env = (false, eval e X.env) :: starEach es X.env := by rfl) (hpl : (backTo pos (starEach es X.env)).any (·.1) = false := by rfl) : PE X (.Call (.Name x p) (e :: es) [] pos) (tCallDX P w K mg base k i W t) := by
  subst hP hw hK hm hB
  refine ⟨fun pins s σ H Q I h => ?_⟩
  obtain ⟨f, sp, hs, hh, ht⟩ := h
  obtain ⟨fd, ps, F, hk, hb⟩ := hh.ex
  refine wpAny_Call_Name_kw (thn ((pe_var (pos := p) hN hv hdb hcd).run pins s σ H (fun v H1 => v = .ref f ∧ H1 = H) I ⟨.ref f, hs, rfl, rfl⟩) fun u s1 ⟨v, H1, I1, r1, q1⟩ => ?_)
  obtain ⟨rfl, rfl⟩ := q1
  cases r1
  refine PySem.W.callWith_K (h₀ := X.base) I.ok.mod.kin hk (thn (ha.run pos pins s1 σ _ _ I1 ht) fun us s2 ⟨vs, H2, I2, r, q⟩ => ⟨I2.kIn, ?_⟩) he hpl
  exact run_fnS (us := us) (vs := vs) F hr hb (L2N.passAt tk σ) I2 r q
end
end Pf

/-! texts cut at one sign: split and partition -/
namespace Pf
open PySem PySem.Spec PyProof.Rows L2
open TL (tl numL)
def brk (c : Nat) : List Nat → Option (List Nat × List Nat)
  | [] => none
  | x :: r => if x = c then some ([], r) else (brk c r).map fun p => (x :: p.1, p.2)
theorem pre_one (c x : Nat) (r : List Nat) : TL.pre [c] (x :: r) = decide (x = c) := by
  unfold TL.pre
  show (([x] : List Nat) == [c]) = _
  by_cases h : x = c
  · subst h; simp
  · simp [h]
theorem par_brk (c : Nat) : ∀ (l acc : List Nat), TL.par [c] acc l = (brk c l).map fun p => (acc ++ p.1, p.2)
  | [], acc => rfl
  | x :: r, acc => by
    show (if TL.pre [c] (x :: r) = true then some (acc, (x :: r).drop 1) else TL.par [c] (acc ++ [x]) r) = _
    rw [pre_one, brk]
    by_cases h : x = c
    · rw [if_pos (by simp [h]), if_pos h]; simp
    · rw [if_neg (by simp [h]), if_neg h, par_brk c r]
      cases brk c r with
      | none => rfl
      | some p => simp
theorem spl_brk (c : Nat) : ∀ (l acc : List Nat), TL.spl [c] 0 acc l = match brk c l with
    | none => [acc ++ l]
    | some p => (acc ++ p.1) :: TL.spl [c] 0 [] p.2
  | [], acc => by rw [TL.spl_nil]; simp [brk]
  | x :: r, acc => by
    rw [brk]
    by_cases h : x = c
    · rw [TL.spl_hit (by rw [pre_one]; simp [h]), if_pos h]; simp
    · rw [TL.spl_miss (by rw [pre_one]; simp [h]), if_neg h, spl_brk c r]
      cases brk c r with
      | none => simp
      | some p => simp
theorem brk_none {c : Nat} : ∀ {l : List Nat}, brk c l = none → c ∉ l
  | [], _ => by simp
  | x :: r, h => by
    rw [brk] at h
    by_cases e : x = c
    · rw [if_pos e] at h; cases h
    · rw [if_neg e, Option.map_eq_none_iff] at h
      rw [List.mem_cons]
      rintro (z | z)
      · exact e z.symm
      · exact brk_none h z
theorem brk_some {c : Nat} : ∀ {l p q : List Nat}, brk c l = some (p, q) → l = p ++ c :: q ∧ c ∉ p
  | [], p, q, h => by cases h
  | x :: r, p, q, h => by
    rw [brk] at h
    by_cases e : x = c
    · rw [if_pos e] at h; cases h; subst e; exact ⟨rfl, by simp⟩
    · rw [if_neg e] at h
      obtain ⟨⟨p2, q2⟩, h1, h2⟩ := Option.map_eq_some_iff.mp h
      cases h2
      obtain ⟨h3, h4⟩ := brk_some h1
      refine ⟨by rw [h3]; rfl, ?_⟩
      rw [List.mem_cons]
      rintro (z | z)
      · exact e z.symm
      · exact h4 z
theorem cut_at {y : Str} {c : Nat} (ey : tl y = [c]) (hc : c < 256) (z : Str) : (c ∉ tl z ∧ Txt.partition z y = (z, Str.empty, Str.empty) ∧ Txt.split z y = [z]) ∨
    ∃ p q : Str, tl z = tl p ++ c :: tl q ∧ c ∉ tl p ∧ Txt.partition z y = (p, y, q) ∧ Txt.split z y = p :: Txt.split q y := by
  have hz : SX.S (tl z) = z := TL.mk_tl z
  have hy : SX.S [c] = y := by rw [← ey]
  have sp : ∀ l : List Nat, Txt.split (SX.S l) y = (TL.spl [c] 0 [] l).map SX.S := fun l => by
    rw [← hy]; exact SX.split_S (List.cons_ne_nil _ _) (by simp [hc])
  cases h : brk c (tl z) with
  | none =>
    refine .inl ⟨brk_none h, ?_, ?_⟩
    · have := SX.partition_none (a := tl z) (b := [c]) (by simp) (by rw [par_brk, h]; rfl)
      rw [hz, hy] at this
      exact this
    · have := sp (tl z)
      rw [hz, spl_brk, h] at this
      rw [this]
      show [SX.S ([] ++ tl z)] = _
      rw [List.nil_append, hz]
  | some pq =>
    obtain ⟨p, q⟩ := pq
    obtain ⟨h1, h2⟩ := brk_some h
    refine .inr ⟨SX.S p, SX.S q, h1, h2, ?_, ?_⟩
    · have := SX.partition_some (a := tl z) (b := [c]) (by simp) (p := p) (q := q) (by rw [par_brk, h]; rfl)
      rw [hz, hy] at this
      exact this
    · have := sp (tl z)
      rw [hz, spl_brk, h] at this
      rw [this, sp q]
      rfl
theorem split_ne {y : Str} {c : Nat} (ey : tl y = [c]) (hc : c < 256) (z : Str) : Txt.split z y ≠ [] := by
  rcases cut_at ey hc z with ⟨_, _, e⟩ | ⟨p, q, _, _, _, e⟩ <;> rw [e] <;> simp
theorem mem_split {y : Str} {c : Nat} (ey : tl y = [c]) (hc : c < 256) {x : Nat} : ∀ (n : Nat) (z : Str), (tl z).length ≤ n → x ∈ tl z → x = c ∨ ∃ p ∈ Txt.split z y, x ∈ tl p
  | n, z, hn, hx => by
    rcases cut_at ey hc z with ⟨_, _, e⟩ | ⟨p, q, h1, _, _, e⟩
    · exact .inr ⟨z, by rw [e]; simp, hx⟩
    · rw [h1] at hx
      rcases List.mem_append.mp hx with h | h
      · exact .inr ⟨p, by rw [e]; simp, h⟩
      · rcases List.mem_cons.mp h with h | h
        · exact .inl h
        · match n, hn with
          | 0, hn => rw [h1, List.length_append, List.length_cons] at hn; omega
          | n + 1, hn =>
            rcases mem_split ey hc n q (by rw [h1, List.length_append, List.length_cons] at hn; omega) h with h | ⟨r, h3, h4⟩
            · exact .inl h
            · exact .inr ⟨r, by rw [e]; exact List.mem_cons_of_mem _ h3, h4⟩
theorem num_fig {z : Str} (h : numB z = true) {x : Nat} (hx : x ∈ tl z) : 48 ≤ x ∧ x ≤ 57 := by
  unfold numB at h
  simp only [Bool.and_eq_true] at h
  exact fig_iff.mp (List.all_eq_true.mp h.2.1 x hx)
theorem num_empty : numB Str.empty = false := by decide +kernel
theorem num_no_c {z : Str} {c : Nat} (h : c < 48 ∨ 57 < c) (hx : c ∈ tl z) : numB z = false := by
  cases e : numB z with
  | false => rfl
  | true => have := num_fig e hx; omega
theorem cut_chars {z : Str} (h : cutOk z = true) {x : Nat} (hx : x ∈ tl z) : x = 45 ∨ (48 ≤ x ∧ x ≤ 57) := by
  unfold cutOk at h
  rcases cut_at tl_dash (by decide) z with ⟨_, e, _⟩ | ⟨p, q, h1, _, e, _⟩
  · rw [e] at h
    have h : (numB z && numB Str.empty) = true := h
    rw [num_empty] at h; simp at h
  · rw [e] at h
    have h : (numB p && numB q) = true := h
    rw [Bool.and_eq_true] at h
    rw [h1] at hx
    rcases List.mem_append.mp hx with y | y
    · exact .inr (num_fig h.1 y)
    · rcases List.mem_cons.mp y with y | y
      · exact .inl y
      · exact .inr (num_fig h.2 y)
def digO (z : Str) : Option Int := if numB z = true then some (intM z) else none
/-- the law's reading of a cut -/
def cutL (z : Str) : Bool := decide (((Txt.split z "-").map digO).length = 2) && !decide (none ∈ (Txt.split z "-").map digO)
theorem cut_law (z : Str) : cutL z = cutOk z ∧ (cutOk z = true → (Txt.split z "-").map digO = [some (cutM2 z).1, some (cutM2 z).2]) := by
  unfold cutL cutOk cutM2
  rcases cut_at tl_dash (by decide) z with ⟨_, e, e2⟩ | ⟨p, q, h1, _, e, e2⟩
  · rw [e, e2]
    show (false && _) = (numB z && numB Str.empty) ∧ ((numB z && numB Str.empty) = true → _)
    rw [num_empty]
    simp
  · rw [e, e2]
    show _ = (numB p && numB q) ∧ ((numB p && numB q) = true → _ = [some (intM p), some (intM q)])
    rcases cut_at tl_dash (by decide) q with ⟨_, f, f2⟩ | ⟨p2, q2, g1, _, f, f2⟩
    · rw [f2]
      simp only [List.map_cons, List.map_nil]
      unfold digO
      cases numB p <;> cases numB q <;> simp
    · have hq : numB q = false := num_no_c (c := 45) (by omega) (by rw [g1]; simp)
      rw [f2, hq]
      have hn := split_ne tl_dash (by decide) q2
      have : ¬ ((List.map digO (p :: p2 :: Txt.split q2 "-")).length = 2) := by
        simp only [List.length_map, List.length_cons]
        have := List.length_pos_iff.mpr hn
        omega
      rw [decide_eq_false this]
      simp
/-- the law's reading of a plan -/
def planL (z : Str) : Option Plan := match Txt.split z ":" with
  | [a, b] => if numB a = true then (if b = "" then some (intM a, ⟨[]⟩) else if (Txt.split b ",").all cutOk = true then some (intM a, ⟨(Txt.split b ",").map cutM2⟩) else none) else none
  | _ => none
theorem plan_law (z : Str) : (if planOk z = true then some (planM2 z) else none) = planL z := by
  unfold planL planOk planM2
  rcases cut_at tl_colon (by decide) z with ⟨_, e, e2⟩ | ⟨p, q, h1, _, e, e2⟩
  · rw [e, e2]
    show (if (!decide (Str.empty = "") && _) = true then _ else _) = none
    rw [decide_eq_true (show Str.empty = ("" : Str) by decide +kernel)]
    simp
  · rw [e, e2]
    have hcol : decide ((":" : Str) = "") = false := by decide +kernel
    show (if (!decide ((":" : Str) = "") && (numB p && (decide (q = "") || (Txt.split q ",").all cutOk))) = true then some (intM p, (⟨if q = "" then [] else (Txt.split q ",").map cutM2⟩ : Tup (Int × Int))) else none) = _
    rw [hcol]
    rcases cut_at tl_colon (by decide) q with ⟨_, f, f2⟩ | ⟨p2, q2, g1, _, f, f2⟩
    · rw [f2]
      show _ = (if numB p = true then (if q = "" then some (intM p, (⟨[]⟩ : Tup (Int × Int))) else if (Txt.split q ",").all cutOk = true then some (intM p, ⟨(Txt.split q ",").map cutM2⟩) else none) else none)
      cases numB p with
      | false => rfl
      | true =>
        by_cases h : q = ""
        · rw [if_pos h, if_pos h, decide_eq_true h]; rfl
        · rw [if_neg h, if_neg h, decide_eq_false h]
          cases (Txt.split q ",").all cutOk <;> rfl
    · have hm : 58 ∈ tl q := by rw [g1]; simp
      have hne : q ≠ "" := fun h => by
        rw [h] at hm
        exact absurd hm (by decide +kernel)
      have hall : (Txt.split q ",").all cutOk = false := by
        cases ha : (Txt.split q ",").all cutOk with
        | false => rfl
        | true =>
          rcases mem_split tl_comma (by decide) _ q (Nat.le_refl _) hm with h | ⟨r, h3, h4⟩
          · cases h
          · have := cut_chars (List.all_eq_true.mp ha r h3) h4
            omega
      rw [hall, decide_eq_false hne, f2]
      have hn := split_ne tl_colon (by decide) q2
      cases hs : Txt.split q2 ":" with
      | nil => exact absurd hs hn
      | cons a l => simp
end Pf

namespace Pf
open PySem PySem.Spec PyProof.Rows L2
/-! ### d.update(e) -/
section
variable {X : Cx} {pins : List (Addr × Obj)} {σ : L2.St} {H : Hp} {s : Shared} {a b : Addr} {kvs more : List (Key × V)}
theorem d_update {E : Value → Shared → Prop} {Q : Value → Shared → Prop} (I : Inv X pins σ H s) (e : H a = some (.dK kvs)) (e2 : H b = some (.dK more)) (ne : a ≠ b) (hl : kvs.length + more.length ≤ 1000) (h : ∀ s', Inv X pins σ (upd H a (.dK (mergeK kvs more))) s' → Q .none s') :
    wpAny (model X.prog X.w) X.A (call (.builtin "dict.update") [.ref a, .ref b]) Q E s := by
  obtain ⟨z, hd, vs, rel, dd⟩ := dk_of I.hok e
  obtain ⟨z2, hd2, vs2, rel2, dd2⟩ := dk_of I.hok e2
  refine call_meetsIn PySem.F.slot_dict_update dd.typeIs PySem.F.entry_dict_update (PySem.F.args_dict_update_2 _ _) (meets_dict_update (mixKind X.prog X.w) a b ne hd2) ⟨vs, vs2, dd, dd2, by rw [← rel.length, ← rel2.length, sizeLine_eq]; omega, fun h' dd' _ hs => h _ ?_⟩
  have he : ∃ q, h'.get? a = some q := let ⟨q, _, _, hq, _⟩ := dd'; ⟨q, hq⟩
  exact d_write (t' := s.toks) I (by rw [e]; exact True.intro) hs he (dk_new (by have := length_mergeK more kvs; rw [sizeLine_eq]; omega) hd (KV.merge rel2 rel) dd')
def rDUpd : V → List V → Hp → VK → Prop := fun x vs H Q => ∃ (a b : Addr) (kvs more : List (Key × V)), x = .ref a ∧ vs = [.ref b] ∧ a ≠ b ∧ H a = some (.dK kvs) ∧ H b = some (.dK more) ∧ kvs.length + more.length ≤ 1000 ∧ Q .non (upd H a (.dK (mergeK kvs more)))
theorem mtd_update : MtR X "dict.update" rDUpd := by
  intro pins s σ H x vs v us Q I rx rv h
  obtain ⟨a, b, kvs, more, rfl, rfl, ne, e, e2, hl, q⟩ := h
  obtain rfl : v = Value.ref a := rx
  match us, rv with
  | [_], .cons r0 .nil =>
    cases r0
    exact d_update I e e2 ne hl fun s' I' => ⟨.non, _, I', rfl, q⟩
end
/-! ### x.replace(..) in a list behind x + 'text' -/
section
variable {X : Cx} {e f : Expr} {es : List Expr} {te : TE} {ta : TA}
theorem pet_of (h : PE X e te) : PET X e te := fun pins s σ H Q _ I q => h.run pins s σ H Q I q
theorem pa_consT {op : Operator} {r : R2} {x : Str} {j : Nat} {p pos : Pos} (ho : OpR X (binaryOp op) r) (ha : PE X e te) (hr : PAT X es ta)
    (hs : starEach (.BinOp e op (.Constant (.str x) j p) pos :: es) X.env = (false, eval (.BinOp e op (.Constant (.str x) j p) pos) X.env) :: starEach es X.env := by rfl) : PA X (.BinOp e op (.Constant (.str x) j p) pos :: es) (tCons (tOp r te (tC (.str x))) ta) := by
  refine ⟨fun pos2 pins s σ H Q I h => ?_⟩
  rw [hs]
  show wpAny _ _ (spliced ((false, eval (.BinOp e op (.Constant (.str x) j p) pos) X.env) :: backTo pos2 (starEach es X.env))) _ _ s
  have h : te σ H fun v H1 => r v (.str x) H1 fun y H2 => ta σ H2 fun ys H3 => Q (y :: ys) H3 := h
  refine Calls.spliced_cons (wpAny_BinOp (thn (ha.run pins s σ H _ I h) fun v s1 ⟨v', H1, I1, r1, q1⟩ => Calls.Constant_str ?_))
  refine wpAny_mono (PySem.wpAny_toks (ho pins { s1 with toks := s1.toks + 1 } σ H1 v' (.str x) v (.str x s1.toks) _ (I1.tok _) r1 ⟨_, rfl⟩ q1)) (fun u s2 q => ?_) fun _ _ z => z.2
  obtain ⟨hk, y, H2, I2, r2, q2⟩ := q
  have hk : s1.toks + 1 ≤ s2.toks := hk
  exact thn (hr pos2 pins s2 σ H2 _ (by omega) I2 q2) fun us s3 ⟨xs, H3, I3, r3, q3⟩ => ⟨y :: xs, H3, I3, .cons r2 r3, q3⟩
end
section
variable {σ : L2.St} {G H : Hp} {ta tb te : TE}
theorem ev_repl {a y z : Str} (h : Ev te σ G a) (hl : a.length + (a.length + 1) * z.length ≤ 100000) : Ev (CwR.tReplC te y z) σ G (Txt.replace a y z) := fun H i Q q =>
  h H i _ fun v G1 H1 g1 k1 => ⟨a, rep_str k1, by omega, q _ G1 H1 g1 rfl⟩
theorem ev_upper {K : Fg} {a : Str} (h : Ev te σ G a) (hl : a.length ≤ 90000) : Ev (tBM0 K "str" (fun x xs H Q => ∃ a, x = .str a ∧ xs = [] ∧ a.length ≤ 5592405 ∧ Q (.str (Txt.upper a)) H) te) σ G (Txt.upper a) := fun H i Q q =>
  h H i _ fun v G1 H1 g1 k1 => by
    have e := rep_str k1
    subst e
    exact ⟨rfl, a, rfl, rfl, by omega, q _ G1 H1 g1 rfl⟩
end
end Pf

namespace Pf
open PySem PySem.Spec PyProof.Rows L2
open TL (tl numL)
/-! ### a value or None -/
structure Opt (α : Type) where
  o : Option α
instance {α : Type} [Rep α] : Rep (Opt α) := ⟨fun G v x => match x.o with | some i => rep G v i | none => v = .non, fun {G G' v x} e h => by
  obtain ⟨o⟩ := x
  cases o with
  | none => exact h
  | some i => exact Rep.mono (x := i) e h⟩
section
variable {α : Type} [Rep α] {σ : L2.St} {G H : Hp} {ta tb te : TE} {K : Fg}
theorem ev_oNone : Ev (tC .non) σ G (Opt.mk (none : Option α)) := fun H i Q q => q _ G H (Gr.refl i) rfl
theorem Ev.opt {x : α} (h : Ev te σ G x) : Ev te σ G (Opt.mk (some x)) := fun H i Q q => h H i Q fun v G' H' g r => q v G' H' g r
theorem Ev.unopt {x : α} (h : Ev te σ G (Opt.mk (some x))) : Ev te σ G x := fun H i Q q => h H i Q fun v G' H' g r => q v G' H' g r
theorem ev_isO {x : Opt α} (hn : ∀ (G : Hp) (v : V) (y : α), rep G v y → v ≠ .non) (h : Ev ta σ G x) : Ev (tOp rIsN ta (tC .non)) σ G x.o.isNone := fun H i Q q => h H i _ fun v G' H' g r => by
  refine ⟨rfl, q _ G' H' g ?_⟩
  obtain ⟨o⟩ := x
  cases o with
  | none => rw [show v = .non from r]; rfl
  | some y => rw [decide_eq_false (hn _ _ _ r)]; rfl
theorem int_nn (G : Hp) (v : V) (y : Int) (r : rep G v y) : v ≠ .non := by rw [rep_int r]; exact fun h => nomatch h
theorem opts_flat {G : Hp} : ∀ {vs : List V} {xs : List (Opt Int)}, Paired (rep G) vs xs → vs.all flatV = true ∧ inV .non vs = decide (none ∈ xs.map (·.o))
  | _, _, .nil => ⟨rfl, rfl⟩
  | _, _, .cons (a := v) (b := x) r t => by
    obtain ⟨h1, h2⟩ := opts_flat t
    obtain ⟨o⟩ := x
    cases o with
    | none =>
      have hv : v = .non := r
      subst hv
      refine ⟨by rw [List.all_cons, h1]; rfl, ?_⟩
      unfold inV at h2 ⊢
      rw [List.any_cons, h2]
      simp [eqV]
    | some i =>
      have hv : v = .int i := r
      subst hv
      refine ⟨by rw [List.all_cons, h1]; rfl, ?_⟩
      unfold inV at h2 ⊢
      rw [List.any_cons, h2]
      simp [eqV]
/-- None in a list of whole numbers and None -/
theorem ev_inNone {xs : List (Opt Int)} (h : Ev tb σ G xs) : Ev (tOp (rIn K false) (tC .non) tb) σ G (decide (none ∈ xs.map (·.o))) := fun H i Q q => h H i _ fun v G' H' g r => by
  obtain ⟨p, vs, rfl, e, pr⟩ := r
  obtain ⟨h1, h2⟩ := opts_flat pr
  exact ⟨p, vs, rfl, .inl (.inl (.inl (g.i _ _ e))), rfl, h1, q _ G' H' g (by rw [h2]; rfl)⟩
theorem ev_tupOO {a b : Int} {xs : List (Opt Int)} (e : xs = [⟨some a⟩, ⟨some b⟩]) (h : Ev te σ G (Tup.mk xs)) : Ev te σ G (a, b) := fun H i Q q => h H i Q fun v G' H' g r => by
  subst e
  obtain ⟨p, vs, rfl, e2, pr⟩ := r
  match vs, pr with
  | [u, w], .cons r1 (.cons r2 .nil) => exact q _ G' H' g ⟨p, u, w, rfl, e2, r1, r2⟩
end
/-! ### dict displays -/
section
variable {κ α : Type} [Rep κ] [PK κ] [DecidableEq κ] [Rep α] {σ : L2.St} {G H : Hp} {ta tb te : TE} {K : Fg} {D : Ends} {u : TS} {trs : List (TE × TE)}
def EvPs (trs : List (TE × TE)) (σ : L2.St) (G : Hp) (l : List (κ × α)) : Prop := ∀ H, Same G H → ∀ Q : List (V × V) → Hp → Prop, (∀ (kvs : List (Key × V)) G' H', Gr M0 G H G' H' → Paired (EnK G') kvs l → Q (kvs.map fun kv => (kV kv.1, kv.2)) H') → tPairs trs σ H Q
theorem EvPs.mono {G1 : Hp} {l : List (κ × α)} (h : EvPs trs σ G l) (e : Same G G1) : EvPs trs σ G1 l := fun H i Q q => h H (e.trans i) Q fun kvs G' H' g k => q kvs (uni G' G1) H' (gr_up e i g) (enk_mono uni_l k)
theorem eps_nil : EvPs [] σ G ([] : List (κ × α)) := fun H i Q q => q [] G H (Gr.refl i) .nil
theorem eps_cons {k : κ} {x : α} {l : List (κ × α)} (hk : Ev ta σ G k) (hv : Ev tb σ G x) (r : EvPs trs σ G l) : EvPs ((ta, tb) :: trs) σ G ((k, x) :: l) := fun H i Q q =>
  hk H i _ fun v G1 H1 g1 k1 => (hv.mono g1.g) H1 g1.i _ fun w G2 H2 g2 k2 => (r.mono (g1.trans g2).g) H2 g2.i _ fun kvs G3 H3 g3 k3 => by
    have e := PK.of k1; subst e
    exact q ((PK.ky k, w) :: kvs) G3 H3 ((g1.trans g2).trans g3) (.cons ⟨rfl, Rep.mono g3.g k2⟩ k3)
def mergeL (l more : List (κ × α)) : List (κ × α) := more.foldl (fun acc e => put acc e.1 e.2) l
theorem merge_paired : ∀ {more : List (Key × V)} {ml : List (κ × α)} {kvs : List (Key × V)} {l : List (κ × α)}, Paired (EnK G) more ml → Paired (EnK G) kvs l → Paired (EnK G) (mergeK kvs more) (mergeL l ml)
  | _, _, _, _, .nil, h => h
  | _, _, _, _, .cons (a := a) (b := b) r t, h => by
    obtain ⟨k, v⟩ := a
    obtain ⟨k2, x⟩ := b
    obtain ⟨e, r⟩ := r
    have e : k = PK.ky k2 := e
    subst e
    show Paired (EnK G) (mergeK (putK _ (PK.ky k2) v) _) (mergeL (put _ k2 x) _)
    exact merge_paired t (putk_paired h r)
theorem td_disp {l : List (κ × α)} {Q : VK} (h : EvPs trs σ G l) (s : Same G H) (hl : l.length ≤ 15) (q : ∀ d G' H' o, Gr M0 G H G' H' → H d = none → H' d = some (.dK []) → Mk G' (upd H' d o) d (mergeL [] l) → Same G' (upd H' d o) → Q (.ref d) (upd H' d o)) : tDisp trs σ H Q := fun d nd => by
  have g0 : Gr M0 G H G (upd H d (.dK [])) := (Gr.refl s).mut (.inl nd) (up_none s nd)
  refine h _ g0.i _ fun kvs G2 H2 g2 k2 => ?_
  have e2 : H2 d = some (.dK []) := g2.same _ _ upd_same
  have n2 : G2 d = none := g2.out (up_none s nd) upd_same
  exact ⟨e2, kvs, rfl, by have := Paired.length k2; omega, q d G2 H2 _ (g0.trans g2) nd e2 ⟨n2, _, upd_same, merge_paired k2 .nil⟩ (same_mut g2.i n2)⟩
theorem sq_disp {i : Nat} {l : List (κ × α)} (h : EvPs trs σ G l) (s : Same G H) (hl : l.length ≤ 15) (q : ∀ d G' H' o, Gr M0 G H G' H' → H d = none → Mk G' (upd H' d o) d (mergeL [] l) → Same G' (upd H' d o) → u D (σ.set i (some (.ref d))) (upd H' d o)) : tSeq (tAsg (tDisp trs) (gName i)) u D σ H := by
  show tDisp trs σ H (fun v H1 => u D (σ.set i (some v)) H1)
  exact td_disp h s hl fun d G' H' o g n _ m s' => q d G' H' o g n m s'
/-- d.update({..}) -/
theorem sq_upd {i : Nat} {d : Addr} {l ml : List (κ × α)} (hv : σ[i]? = some (some (.ref d))) (md : Mk G H d l) (s : Same G H) (h : EvPs trs σ G ml) (h15 : ml.length ≤ 15) (hl : l.length + (mergeL [] ml).length ≤ 1000)
    (q : ∀ G' H' o, Gr M0 G H G' H' → Mk G' (upd H' d o) d (mergeL l (mergeL [] ml)) → Same G' (upd H' d o) → u D σ (upd H' d o)) : tSeq (tDrop (tBM K "dict" rDUpd (tVar i) (tCons (tDisp trs) tNil))) u D σ H := by
  refine ⟨.ref d, hv, ?_⟩
  obtain ⟨n1, kvs1, e1, p1⟩ := id md
  refine ⟨.inr (.inr (.inl ⟨rfl, .inl ⟨kvs1, e1⟩⟩)), ?_⟩
  refine td_disp h s h15 fun d2 G2 H2 o g2 nd2 e2 md2 s2 => ?_
  have hne : d ≠ d2 := fun e => by rw [e, nd2] at e1; cases e1
  have m1 := (md.step0 g2).other (o := o) hne
  obtain ⟨m10, k1, m11, m12⟩ := m1
  obtain ⟨m20, k2, m21, m22⟩ := md2
  refine ⟨d, d2, k1, k2, rfl, rfl, hne, m11, m21, by have := Paired.length m12; have := Paired.length m22; omega, ?_⟩
  have g3 : Gr M0 G H G2 (upd H2 d2 o) := g2.mut (.inl nd2) m20
  exact q G2 (upd H2 d2 o) _ g3 ⟨m10, _, upd_same, merge_paired m22 m12⟩ (same_mut s2 m10)
end
end Pf

namespace Pf
open PySem PySem.Spec PyProof.Rows L2
/-! ### zip of a list, of a length that stays, and a text -/
def ItzL (K : Fg) (a : Addr) (n1 : Nat) (y : Str) : It :=
  ⟨fun i H => i < n1 ∧ i < y.cps.size ∧ ∃ xs : List V, SqL K H a xs ∧ xs.length = n1,
    fun i H v H' => ∃ T x d, v = .ref T ∧ H T = none ∧ H' = upd H T (.tup [x, .str ⟨#[d]⟩]) ∧ (∀ xs, SqL K H a xs → xs[i]? = some x) ∧ y.cps[i]? = some d,
    fun i H => (n1 ≤ i ∨ y.cps.size ≤ i) ∧ ∃ xs : List V, SqL K H a xs ∧ xs.length = n1⟩
theorem turn_zipL {P : Program} {w : World} {K : Fg} {elts : List Expr} {kk : Nat} {tpos : Pos} {z TI TO i1 i2 a : Addr} {n1 : Nat} {y : Str} {u : Tok} (S : ZipSep2 z TI TO i1 i2 [i1, a] [i2]) (na : a ≠ i1) :
    Turn P w K (.Tuple elts kk tpos) (ItzL K a n1 y) [z, TI, TO, i1, i2] z (fun i h => IsZip h z TI TO .none ∧ IsTupOf2 h TI (.ref i1) (.ref i2) ∧ (∃ p q, IsTupOf2 h TO p q) ∧ h.IsListIter i1 a i ∧ h.IsStrIter i2 (strIterType y) y u i ∧ i ≤ n1 ∧ i ≤ y.cps.size) where
  mem := by simp
  obj := fun i h st c hc => by
    obtain ⟨hz, hTI, ⟨p, q, hTO⟩, ⟨o1, e1, _, d1⟩, ⟨o2, e2, _, d2⟩, _⟩ := st
    rcases (show c = z ∨ c = TI ∨ c = TO ∨ c = i1 ∨ c = i2 by simpa using hc) with rfl | rfl | rfl | rfl | rfl
    · exact ⟨_, hz, nofun⟩
    · exact ⟨_, hTI, nofun⟩
    · exact ⟨_, hTO, nofun⟩
    · exact ⟨o1, e1, fun v y => by rw [d1] at y; cases y⟩
    · exact ⟨o2, e2, fun v y => by rw [d2] at y; cases y⟩
  keep := fun i h h' st k => by
    obtain ⟨hz, hTI, ⟨p, q, hTO⟩, t1, ⟨o2, h2, r2⟩, le⟩ := st
    exact ⟨k z (by simp) _ hz, k TI (by simp) _ hTI, ⟨p, q, k TO (by simp) _ hTO⟩, t1.at fun o y => k i1 (by simp) o y, ⟨o2, k i2 (by simp) _ h2, r2⟩, le⟩
  item := by
    intro X hP hw hK hc i pins s σ H E I hf st hg
    subst hP hw hK
    obtain ⟨hz, hTI, ⟨x0, y0, hTO⟩, t1, t2, l1, l2⟩ := st
    obtain ⟨g1, g2, xs, hqx, lx⟩ := hg
    obtain ⟨its, rv, pl, _⟩ := I.list hqx
    have e1 := rv.length
    have hh : X.A.in1.handled = none := I.ok.hd hc
    have hzl : z < s.heap.objs.size := Heap.lt_size hz
    obtain ⟨x, hx⟩ : ∃ x, xs[i]? = some x := ⟨_, List.getElem?_eq_getElem (by omega)⟩
    obtain ⟨w0, hw0, ru⟩ := rv.get hx
    refine wpAny_pyNext_zipD2_item S (Draws.list hh i1 a na its.toArray) (Draws.text hh i2 y u) hz hTI hTO ⟨t1, pl.isList⟩ t2 (by simp; omega) g2 fun v1 v2 h' tk p1 p2 z' TO' t1' t2' hT hsz hk => ?_
    have ev1 : v1 = w0 := by have p1 : its.toArray[i]? = some v1 := p1; rw [List.getElem?_toArray, hw0] at p1; exact (Option.some.inj p1).symm
    subst ev1
    obtain ⟨d, u2, hd1, rfl⟩ := p2
    refine ⟨_, rfl, wpAny_letOwnedTupleGo_zip (s := { s with heap := h', toks := tk }) z' fun h'' z'' sb => ?_⟩
    have hT2 : h''.get? s.heap.objs.size = some { cls := .type "tuple", data := .seq #[v1, .str ⟨#[d]⟩ u2] } := (sb.2 _ (Nat.ne_of_gt hzl)).trans hT
    have new : ObjOk X.prog X.w (upd H s.heap.objs.size (.tup [x, .str ⟨#[d]⟩])) h'' s.heap.objs.size (.tup [x, .str ⟨#[d]⟩]) := ⟨by show 2 ≤ sizeLine; decide, [v1, .str ⟨#[d]⟩ u2], .cons ru (.cons ⟨u2, rfl⟩ .nil), ⟨_, hT2, rfl, _, rfl⟩⟩
    have kp : ∀ c o, c ∉ [z, TI, TO, i1, i2] → s.heap.get? c = some o → h''.get? c = some o := fun c o hb q => by
      simp only [List.mem_cons, List.not_mem_nil, or_false, not_or] at hb
      exact (sb.2 c hb.1).trans (hk c o hb.1 hb.2.2.1 hb.2.2.2.1 hb.2.2.2.2 q)
    have I1 := I.turnedNew (t' := tk) (ch := [z, TI, TO, i1, i2]) kp hf (Nat.le_refl _) new
    refine ⟨.ref s.heap.objs.size, _, I1, rfl, ⟨_, x, d, rfl, I.hok.fresh (Nat.le_refl _), rfl, fun l hl => by rw [I.list_inj hl hqx]; exact hx, hd1⟩, ⟨z'', ?_, ⟨v1, .str ⟨#[d]⟩ u2, ?_⟩, ?_, ?_, by omega, by omega⟩, fun c hcm => ?_⟩
    · exact (sb.2 _ S.TIz).trans (hk _ _ S.TIz S.TITO S.TIi1 S.TIi2 hTI)
    · exact (sb.2 _ S.TOz).trans TO'
    · exact t1'.1.at fun o q => (sb.2 _ (Ne.symm S.zi1)).trans q
    · obtain ⟨o, e, r⟩ := t2'
      exact ⟨o, (sb.2 _ (Ne.symm S.zi2)).trans e, r⟩
    · have hlt : c < s.heap.objs.size := by
        rcases (show c = z ∨ c = TI ∨ c = TO ∨ c = i1 ∨ c = i2 by simpa using hcm) with rfl | rfl | rfl | rfl | rfl
        · exact hzl
        · exact Heap.lt_size hTI
        · exact Heap.lt_size hTO
        · obtain ⟨_, y1, _⟩ := t1; exact Heap.lt_size y1
        · obtain ⟨_, y1, _⟩ := t2; exact Heap.lt_size y1
      rw [upd_ne (Nat.ne_of_lt hlt)]
      exact (hf c hcm).1
  done := by
    intro X hP hw hK hc i pins s σ H E I hf st hg
    subst hP hw hK
    obtain ⟨hz, hTI, ⟨x0, y0, hTO⟩, t1, t2, l1, l2⟩ := st
    obtain ⟨hend, xs, hqx, lx⟩ := hg
    obtain ⟨its, rv, pl, _⟩ := I.list hqx
    have e1 := rv.length
    have hh : X.A.in1.handled = none := I.ok.hd hc
    refine wpAny_pyNext_zipD2_end S (Draws.list hh i1 a na its.toArray) (Draws.text hh i2 y u) hz hTI hTO ⟨t1, pl.isList⟩ t2 (by simp; omega) l2 (hend.elim (fun q => .inl (by simp; omega)) fun q => .inr (Nat.le_antisymm l2 q)) fun h' tk hk => ⟨rfl, ?_⟩
    refine I.turnedL (t' := tk) (ch := [z, TI, TO, i1, i2]) (fun c o hb q => ?_) hf
    simp only [List.mem_cons, List.not_mem_nil, or_false, not_or] at hb
    exact hk c o hb.1 hb.2.2.1 hb.2.2.2.1 hb.2.2.2.2 q
  self := fun A i s Q E st h => wpAny_pyIter_zip st.1 h
def iZipL (K : Fg) (ta : TA) : TI := fun σ H R => ta σ H fun vs H1 => ∃ a y xs, vs = [.ref a, .str y] ∧ SqL K H1 a xs ∧ R (ItzL K a xs.length y) H1
theorem pi_zipL {K : Fg} {X : Cx} {e e2 : Expr} {ta : TA} {p pos tpos : Pos} {elts : List Expr} {kk : Nat} (hK : X.K = K) (hg : Gl X "zip") (hm : X.mg "zip" = none) (ha : PA X [e, e2] ta)
    (hs : starEach [e, e2] X.env = (false, eval e X.env) :: starEach [e2] X.env := by rfl) (hpl : (backTo pos (starEach [e2] X.env)).any (·.1) = false := by rfl) :
    PI X (.Tuple elts kk tpos) (.Call (.Name "zip" p) [e, e2] [] pos) (iZipL K ta) := by
  subst hK
  refine ⟨fun pins s σ H R I h => ?_⟩
  refine Call_ (ld_blt I hg hm PyProof.Rows.boot_zip (PyProof.Rows.callWith_type1 (thn (ha.run pos pins s σ H _ I h) fun us s1 ⟨vs, H1, I1, r1, q1⟩ => ?_) hs hpl))
  obtain ⟨a, y, xs, ex, hqx, q⟩ := q1
  subst ex
  cases r1 with
  | cons r rr =>
    cases rr with
    | cons r' rr =>
      cases rr
      cases r
      obtain ⟨u, rfl⟩ := r'
      obtain ⟨its, rv, pl, _⟩ := I1.list hqx
      have la : a < s1.heap.objs.size := pl.lt
      refine zip_begins2 (begins_list a its.toArray) (begins_text y u) pl.isList trivial fun h' hz hTI hTO t1 t2 hsz hk => wpAny_pyIter_zip hz ?_
      have I2 : Inv X pins σ H1 { s1 with heap := h' } := I1.kept (t' := s1.toks) hk
      refine ⟨s1.heap.objs.size + 4, [s1.heap.objs.size + 4, s1.heap.objs.size + 2, s1.heap.objs.size + 3, s1.heap.objs.size, s1.heap.objs.size + 1], _, _, H1, rfl, I2, turn_zipL (n1 := xs.length) (y := y) (u := u) (zip_sep2 (fp1 := [a]) (fp2 := []) (by simpa using la) (by simp)) (Nat.ne_of_lt la), ⟨hz, hTI, ⟨_, _, hTO⟩, ⟨_, t1, rfl, rfl⟩, ⟨_, t2, rfl, rfl⟩, Nat.zero_le _, Nat.zero_le _⟩, fun c hcm => ?_, q⟩
      have hle : s1.heap.objs.size ≤ c := by
        rcases (show c = s1.heap.objs.size + 4 ∨ c = s1.heap.objs.size + 2 ∨ c = s1.heap.objs.size + 3 ∨ c = s1.heap.objs.size ∨ c = s1.heap.objs.size + 1 by simpa using hcm) with y | y | y | y | y <;> (rw [y]; first | exact Nat.le_add_right _ _ | exact Nat.le_refl _)
      exact I1.fpOk hle (I1.hok.fresh hle)
section
variable {σ : L2.St} {G H : Hp} {ta tb : TE} {K : Fg}
/-- zip of a list of texts and a text; the list stands, the heap may have lists that are made -/
theorem eih_zipL {ys : List Str} {y : Str} (ha : EvH ta σ G H ys) (hb : ∀ G1 H1, Gr M0 G H G1 H1 → EvH tb σ G1 H1 y) : EvIH (iZipL K (tCons ta (tCons tb tNil))) σ G H (ys.zip (sigs y)) := fun R q =>
  ha _ fun v G1 H1 g1 k1 => hb G1 H1 g1 _ fun w G2 H2 g2 k2 => by
    have k1 := Rep.mono g2.g k1
    obtain ⟨c, us, rfl, h4, h5⟩ := k1
    have hu := paired_strs h5
    subst hu
    cases k2
    have hsy : (sigs y).length = y.cps.size := by simp [sigs]
    refine ⟨c, y, _, rfl, .inl (.inl (g2.i _ _ h4)), q _ G2 H2 (g1.trans g2) ⟨fun k H s l => ?_, fun k H s l => ?_, fun k H v H' Ga x s1 s2 yl e => ?_⟩⟩
    · rw [List.length_zip, hsy] at l
      exact ⟨by rw [List.length_map]; omega, by omega, _, .inl (.inl (s _ _ h4)), rfl⟩
    · rw [List.length_zip, hsy] at l
      exact ⟨by rw [List.length_map]; omega, _, .inl (.inl (s _ _ h4)), rfl⟩
    · obtain ⟨T, x1, d, rfl, nT, rfl, f1, f2⟩ := yl
      have e1 := f1 _ (.inl (.inl (s2 _ _ (s1 _ _ h4))))
      rw [List.getElem?_map] at e1
      rw [List.getElem?_zip_eq_some] at e
      rw [e.1] at e1
      cases e1
      have e2 := e.2
      unfold sigs at e2
      rw [List.getElem?_map, Array.getElem?_toList, f2] at e2
      have hx2 : (⟨#[d]⟩ : Str) = x.2 := Option.some.inj e2
      have gn := gr_new (o := .tup [V.str x.1, V.str ⟨#[d]⟩]) s2 nT
      refine ⟨upd Ga T (.tup [V.str x.1, V.str ⟨#[d]⟩]), gn, T, _, _, rfl, upd_same, rfl, ?_⟩
      show V.str _ = V.str x.2
      rw [hx2]
end
end Pf

/-! what a law's end takes out of the head's run -/
namespace Pf
open PySem PySem.Spec PyProof.Rows L2
theorem kdct_h {K : Fg} {w : World} {a : Addr} {kvs : List (Str × He.Dv)} (t : ∃ es n, KDict K w a es n) (h : He.valsB K a kvs = true) (i : Nat) {k : Str} {dv : He.Dv} (hq : kvs[i]? = some (k, dv)) : KDct K w a k (dv.v K) := by
  obtain ⟨es, n, D⟩ := t
  obtain ⟨u, e, r⟩ := He.valsB_ok h (List.mem_of_getElem? hq)
  exact ⟨es, n, u, D.at_, D.lit, e, r⟩
theorem low_h {K : Fg} {w : World} {a : Addr} (t : ∃ es n, KDict K w a es n) : (a == sysModules) = false := by
  obtain ⟨es, n, D⟩ := t
  exact D.low
theorem fun_h {K : Fg} {x qual : Str} {st : Stmt} {f : Addr} {fd : FuncData} (F : FunD K x qual (defArgs st) (defBody st) (defScope st) [] [] f fd) : Fun K x qual st f fd := by
  obtain ⟨oc, od, dV, kV, doc, pm, an, cdv, ct, osl, e, lk, hc, hd, _⟩ := F.ex
  rcases hd with ⟨h1, h2⟩ | ⟨h1, _⟩
  · subst_vars
    exact ⟨⟨oc, od, kV, doc, pm, an, cdv, ct, osl, rfl, lk, hc⟩, F.kp⟩
  · exact absurd rfl h1
section
variable {K : Fg} {h : Heap} {mg : Str → Option Value} {x qual : Str} {st : Stmt} {ps : List Str} {C : Str} {m : Str}
abbrev BindsAs (x qual : Str) (st : Stmt) (ps : List Str) : Prop := ∀ (kV doc pm : Value) (an : Option Addr) (cdv ct : Value) (us : List Value), us.length = ps.length → bindArgs (PySem.W.fnOf x qual (defArgs st) (defBody st) (defScope st) .none kV doc pm an cdv ct) ⟨us, []⟩ = pure (ps.zip us)
theorem tx_h (X : K.In h) (G : h.Ns mainGlobals mg) (c : (He.Fa.glo x).ok K = true) (d : ∃ fd, FunD K x x (defArgs st) (defBody st) (defScope st) [] [] (He.fAd K (x, none)) fd) (b : BindsAs x x st ps) : Tx K mg x ps st := by
  obtain ⟨fd, F⟩ := d
  have F2 := fun_h F
  exact ⟨He.ga K x, fd, F2, F2.binds b, He.glo_ok X G c⟩
theorem bl_h (X : K.In h) (G : h.Ns mainGlobals mg) (c : bltB K = true) : Bl mg := fun x hx => He.free_ok X G (List.all_eq_true.mp c x hx)
theorem txe_h {fs : List Str} (X : K.In h) (G : h.Ns mainGlobals mg) (g : (He.Fa.glo x).ok K = true) (q1 : hOexB K (He.ga K x) = true) (sa : He.eqO (PySem.W.findIn K (.ref (He.ga K x)) "__setattr__") (some (some (.builtin "object.__setattr__"))) = true)
    (e : decide (PySem.W.subIn K (.ref (He.ga K x)) (.type "BaseException") = some true) = true) (t : decide (PySem.W.typeIn K (.ref (He.ga K x)) = some (.type "type")) = true) (k : PySem.W.keepIn K (.ref (He.ga K x)) = true) (m : (He.Fa.meth x "__init__").ok K = true)
    (tf : decide (PySem.W.typeIn K (.ref (He.ma K (He.ga K x) "__init__")) = some (.type "function")) = true) (d : ∃ fd, FunD K "__init__" qual (defArgs st) (defBody st) (defScope st) [] [] (He.fAd K (x, some "__init__")) fd) (b : BindsAs "__init__" qual st ps) (nf : ∀ y ∈ fs, PySem.W.findIn K (.ref (He.ga K x)) y = some none) : TxE K mg x qual ps fs st := by
  obtain ⟨fd, F⟩ := d
  have F2 := fun_h F
  exact ⟨He.ga K x, He.ma K (He.ga K x) "__init__", fd, oex_of q1 (He.eqO_ok sa) (of_decide_eq_true e) (of_decide_eq_true t) k, (He.meth_ok m).1, of_decide_eq_true tf, F2, F2.binds b, He.glo_ok X G g, nf⟩
end
end Pf

/-! a key that a table of the module has not -/
namespace Pf
open PySem PySem.Spec PyProof.Rows L2
theorem isStr_eq {x k : Str} {t : Tok} (h : (Value.str x t).isStr k = true) : x = k := eq_of_beq h
theorem miss_h {K : Fg} {w : World} {a : Addr} {ks : List Str} (t : ∃ es n, KDict K w a es n) (h : keysB K a ks = true) {z : Str} (hz : z ∉ ks) : KMiss K w a z := by
  obtain ⟨es, n, D⟩ := t
  unfold keysB at h
  rw [D.at_] at h
  have h : (es.toList.all fun e => !e.refKey && ks.any fun k => e.key.isStr k) = true := h
  have hf : es.toList.find? (fun e => e.key.isStr z) = none := List.find?_eq_none.mpr fun e he hs => by
    obtain ⟨x, t, ek, _⟩ := D.lit.all e he
    have h1 := List.all_eq_true.mp h e he
    rw [Bool.and_eq_true] at h1
    obtain ⟨k, hk, h2⟩ := List.any_eq_true.mp h1.2
    rw [ek] at hs h2
    exact hz (isStr_eq hs ▸ isStr_eq h2 ▸ hk)
  have hr : (es.toList.any fun e => e.refKey) = false := by
    rw [List.any_eq_false]
    intro e he hr
    have h1 := List.all_eq_true.mp h e he
    rw [hr] at h1
    cases h1
  refine ⟨es, n, D.at_, D.lit, D.low, ?_⟩
  unfold PySem.W.nsIn
  rw [D.at_]
  show (match es.toList.find? (fun e => e.key.isStr z) with | some e => some (some e.val) | none => if (es.toList.any (·.refKey)) = true then none else some none) = some none
  rw [hf]
  show (if (es.toList.any (·.refKey)) = true then none else some none) = some none
  rw [hr]
  rfl
end Pf

namespace Pf
open PySem PySem.Spec PyProof.Rows L2
open TL (tl numL)
local macro_rules | `(tactic| walk_at "pf_sm") => `(tactic| first
  | assumption | exact Same.refl _ | exact Gr.g (by assumption)
  | ((refine' Same.trans ?_ (Gr.g (by assumption))); walk_at "pf_sm")
  | ((refine' Same.trans ?_ (by assumption)); walk_at "pf_sm"))
local macro_rules | `(tactic| walk_at "pf_rp") => `(tactic| first
  | assumption | exact rfl
  | ((refine' Rep.mono ?s ?h); (case h => assumption); (case s => walk_at "pf_sm")))
local macro_rules | `(tactic| walk_at "pf_side") => `(tactic| first
  | assumption | omega | decide | (exact Nat.le_of_ble_eq_true rfl) | (exact ⟨by omega, by omega⟩) | (exact .inr ⟨by decide, by decide⟩) | (exact .inl ⟨by decide, by decide⟩) | (exact .inr ⟨by omega, by omega⟩) | (exact .inl ⟨by omega, by omega⟩))
local macro_rules | `(tactic| walk_at "pf_ev") => `(tactic| (with_reducible show (_ : Prop)); first
  | with_reducible exact ev_int | with_reducible exact ev_bl | with_reducible exact ev_str
  | ((with_reducible show Ev (tVar _) _ _ _); exact ev_var (by rfl) (by walk_at "pf_rp"))
  | ((with_reducible refine' ev_add ?_ ?_) <;> try walk_at "pf_ev")
  | ((with_reducible refine' ev_sub ?_ ?_) <;> try walk_at "pf_ev")
  | ((with_reducible refine' ev_mul ?_ ?_ ?_) <;> try walk_at "pf_ev")
  | ((with_reducible refine' ev_fdiv ?_ ?_ ?_) <;> try walk_at "pf_ev")
  | ((with_reducible refine' ev_mod ?_ ?_ ?_) <;> try walk_at "pf_ev")
  | ((with_reducible refine' ev_lt ?_ ?_) <;> try walk_at "pf_ev")
  | ((with_reducible refine' ev_le ?_ ?_) <;> try walk_at "pf_ev")
  | ((with_reducible refine' ev_gt ?_ ?_) <;> try walk_at "pf_ev")
  | ((with_reducible refine' ev_ge ?_ ?_) <;> try walk_at "pf_ev")
  | ((with_reducible refine' ev_eqI ?_ ?_) <;> try walk_at "pf_ev")
  | ((with_reducible refine' ev_neI ?_ ?_) <;> try walk_at "pf_ev")
  | ((with_reducible refine' ev_neg ?_) <;> try walk_at "pf_ev")
  | ((with_reducible refine' ev_ixL ?_ ?_ ?_) <;> try walk_at "pf_ev")
  | ((with_reducible refine' ev_tup2 ?_ ?_) <;> try walk_at "pf_ev")
  | ((with_reducible refine' ev_tup3 ?_ ?_ ?_) <;> try walk_at "pf_ev")
  | ((with_reducible refine' ev_lenL ?_) <;> try walk_at "pf_ev")
  | ((with_reducible refine' ev_sum ?_) <;> try walk_at "pf_ev")
  | ((with_reducible refine' ev_all ?_) <;> try walk_at "pf_ev")
  | ((with_reducible refine' ev_any ?_) <;> try walk_at "pf_ev")
  | ((with_reducible refine' ev_abs ?_) <;> try walk_at "pf_ev")
  | ((with_reducible refine' ev_min2 ?_ ?_) <;> try walk_at "pf_ev")
  | ((with_reducible refine' ev_max2 ?_ ?_) <;> try walk_at "pf_ev")
  | ((with_reducible refine' ev_intB ?_) <;> try walk_at "pf_ev")
  | ((with_reducible refine' ev_call1 ?_ ?_) <;> try walk_at "pf_ev")
  | ((with_reducible refine' ev_call2 ?_ ?_ ?_) <;> try walk_at "pf_ev")
  | ((with_reducible refine' ev_call3 ?_ ?_ ?_ ?_) <;> try walk_at "pf_ev")
  | ((with_reducible refine' ev_call4 ?_ ?_ ?_ ?_ ?_) <;> try walk_at "pf_ev")
  | ((with_reducible refine' et_test ?_) <;> try walk_at "pf_ev")
  | ((with_reducible refine' et_B ?_) <;> try walk_at "pf_ev")
  | with_reducible exact et_yes
  | ((with_reducible refine' et_not ?_) <;> try walk_at "pf_ev")
  | ((with_reducible refine' et_and ?_ (fun _ => ?_)) <;> try walk_at "pf_ev")
  | ((with_reducible refine' et_or ?_ (fun _ => ?_)) <;> try walk_at "pf_ev")
  | ((with_reducible refine' ev_andV ?_ (fun _ => ?_)) <;> try walk_at "pf_ev")
  | ((with_reducible refine' ev_orV ?_ (fun _ => ?_)) <;> try walk_at "pf_ev")
  | ((with_reducible refine' ev_notV ?_) <;> try walk_at "pf_ev")
  | ((with_reducible refine' ei_r1 ?_ ?_) <;> try walk_at "pf_ev")
  | ((with_reducible refine' ei_r2 ?_ ?_ ?_) <;> try walk_at "pf_ev")
  | ((with_reducible refine' ei_list ?_) <;> try walk_at "pf_ev")
  | ((with_reducible refine' ei_tup ?_) <;> try walk_at "pf_ev")
  | with_reducible exact evs_nil
  | ((with_reducible refine' evs_cons ?_ ?_) <;> try walk_at "pf_ev")
  | ((with_reducible refine' ev_lst ?_ ?_) <;> try walk_at "pf_ev")
  | walk_at "pf_side")

def topS (i : Nat) : Stmt := PySem.Challenge.pw_pinchfold_k50_texts_of_no_deed.main.body.getD i (.Pass ⟨0, 0, 0, 0⟩)
abbrev s__law_bag : Stmt := topS 30
abbrev N__law_bag : List Str := ["_law_script", "_law_cells", "_law_one", "_law_salt"]
theorem sc__law_bag : FnScope N__law_bag ["_law_script"] (defScope s__law_bag) := ⟨rfl, rfl, rfl, by decide +kernel, rfl, by decide +kernel, by decide +kernel⟩
abbrev s__law_pull : Stmt := topS 41
abbrev N__law_pull : List Str := ["_law_bag_here", "_law_many", "_law_seed", "_law_blend", "_law_drawn"]
theorem sc__law_pull : FnScope N__law_pull ["_law_bag_here", "_law_many"] (defScope s__law_pull) := ⟨rfl, rfl, rfl, by decide +kernel, rfl, by decide +kernel, by decide +kernel⟩
abbrev s__law_alike : Stmt := topS 28
abbrev N__law_alike : List Str := ["_law_found", "_law_due", "_law_at"]
theorem sc__law_alike : FnScope N__law_alike ["_law_found", "_law_due"] (defScope s__law_alike) := ⟨rfl, rfl, rfl, by decide +kernel, rfl, by decide +kernel, by decide +kernel⟩
abbrev s__law_whole : Stmt := topS 44
abbrev N__law_whole : List Str := ["_law_found"]
theorem sc__law_whole : FnScope N__law_whole ["_law_found"] (defScope s__law_whole) := ⟨rfl, rfl, rfl, by decide +kernel, rfl, by decide +kernel, by decide +kernel⟩
abbrev s__law_pair : Stmt := topS 37
abbrev N__law_pair : List Str := ["_law_one", "_law_other"]
theorem sc__law_pair : FnScope N__law_pair ["_law_one", "_law_other"] (defScope s__law_pair) := ⟨rfl, rfl, rfl, by decide +kernel, rfl, by decide +kernel, by decide +kernel⟩
abbrev s__law_plan : Stmt := topS 38
abbrev N__law_plan : List Str := ["_law_bag_here", "_law_most", "_law_faces"]
theorem sc__law_plan : FnScope N__law_plan ["_law_bag_here", "_law_most"] (defScope s__law_plan) := ⟨rfl, rfl, rfl, by decide +kernel, rfl, by decide +kernel, by decide +kernel⟩
abbrev s__law_drawn_plan : Stmt := topS 35
abbrev N__law_drawn_plan : List Str := ["_law_bag_here", "_law_faces", "_law_rows", "_law_low", "_law_high"]
theorem sc__law_drawn_plan : FnScope N__law_drawn_plan ["_law_bag_here", "_law_faces"] (defScope s__law_drawn_plan) := ⟨rfl, rfl, rfl, by decide +kernel, rfl, by decide +kernel, by decide +kernel⟩
abbrev s__law_cut_arc : Stmt := topS 32
abbrev N__law_cut_arc : List Str := ["_law_bag_here", "_law_start", "_law_end", "_law_found", "_law_wide", "_law_way", "_law_middle"]
theorem sc__law_cut_arc : FnScope N__law_cut_arc ["_law_bag_here", "_law_start", "_law_end", "_law_found"] (defScope s__law_cut_arc) := ⟨rfl, rfl, rfl, by decide +kernel, rfl, by decide +kernel, by decide +kernel⟩
abbrev s__law_any_deed : Stmt := topS 29
abbrev N__law_any_deed : List Str := ["_law_bag_here", "_law_words", "_law_word", "_law_name", "_law_k", "_law_plan_here", "_law_some", "_law_slot"]
theorem sc__law_any_deed : FnScope N__law_any_deed ["_law_bag_here"] (defScope s__law_any_deed) := ⟨rfl, rfl, rfl, by decide +kernel, rfl, by decide +kernel, by decide +kernel⟩
abbrev s__law_deed_text : Stmt := topS 33
abbrev N__law_deed_text : List Str := ["_law_deed", "_law_words", "_law_thing"]
theorem sc__law_deed_text : FnScope N__law_deed_text ["_law_deed"] (defScope s__law_deed_text) := ⟨rfl, rfl, rfl, by decide +kernel, rfl, by decide +kernel, by decide +kernel⟩
abbrev s__law_plan_text : Stmt := topS 40
abbrev N__law_plan_text : List Str := ["_law_plan_here", "_law_low", "_law_high"]
theorem sc__law_plan_text : FnScope N__law_plan_text ["_law_plan_here"] (defScope s__law_plan_text) := ⟨rfl, rfl, rfl, by decide +kernel, rfl, by decide +kernel, by decide +kernel⟩
abbrev s__law_bent_text : Stmt := topS 31
abbrev N__law_bent_text : List Str := ["_law_bag_here", "_law_text", "_law_at", "_law_sign", "_law_way", "_law_words", "_law_one", "_law_odd"]
theorem sc__law_bent_text : FnScope N__law_bent_text ["_law_bag_here", "_law_text"] (defScope s__law_bent_text) := ⟨rfl, rfl, rfl, by decide +kernel, rfl, by decide +kernel, by decide +kernel⟩
abbrev s__law_digits : Stmt := topS 34
abbrev N__law_digits : List Str := ["_law_word", "_law_sign"]
theorem sc__law_digits : FnScope N__law_digits ["_law_word"] (defScope s__law_digits) := ⟨rfl, rfl, rfl, by decide +kernel, rfl, by decide +kernel, by decide +kernel⟩
abbrev s__law_good_name : Stmt := topS 36
abbrev N__law_good_name : List Str := ["_law_name", "_law_sign"]
theorem sc__law_good_name : FnScope N__law_good_name ["_law_name"] (defScope s__law_good_name) := ⟨rfl, rfl, rfl, by decide +kernel, rfl, by decide +kernel, by decide +kernel⟩
abbrev s__law_plan_read : Stmt := topS 39
abbrev N__law_plan_read : List Str := ["_law_word", "_law_halves", "_law_cuts", "_law_piece", "_law_corners", "_law_half"]
theorem sc__law_plan_read : FnScope N__law_plan_read ["_law_word"] (defScope s__law_plan_read) := ⟨rfl, rfl, rfl, by decide +kernel, rfl, by decide +kernel, by decide +kernel⟩
abbrev s__law_read : Stmt := topS 42
abbrev N__law_read : List Str := ["_law_text", "_law_forms", "_law_words", "_law_found", "_law_word", "_law_sign", "_law_good", "_law_thing"]
theorem sc__law_read : FnScope N__law_read ["_law_text"] (defScope s__law_read) := ⟨rfl, rfl, rfl, by decide +kernel, rfl, by decide +kernel, by decide +kernel⟩
abbrev s__law_told_text : Stmt := topS 43
abbrev N__law_told_text : List Str := ["_law_text", "_law_found", "e"]
theorem sc__law_told_text : FnScope N__law_told_text ["_law_text"] (defScope s__law_told_text) := ⟨rfl, rfl, rfl, by decide +kernel, rfl, by decide +kernel, by decide +kernel⟩
abbrev s_is_letter : Stmt := topS 7
abbrev N_is_letter : List Str := ["text"]
theorem sc_is_letter : FnScope N_is_letter ["text"] (defScope s_is_letter) := ⟨rfl, rfl, rfl, by decide +kernel, rfl, by decide +kernel, by decide +kernel⟩
abbrev s_is_name : Stmt := topS 11
abbrev N_is_name : List Str := ["text", "letter"]
theorem sc_is_name : FnScope N_is_name ["text"] (defScope s_is_name) := ⟨rfl, rfl, rfl, by decide +kernel, rfl, by decide +kernel, by decide +kernel⟩
abbrev s_read_name : Stmt := topS 15
abbrev N_read_name : List Str := ["text"]
theorem sc_read_name : FnScope N_read_name ["text"] (defScope s_read_name) := ⟨rfl, rfl, rfl, by decide +kernel, rfl, by decide +kernel, by decide +kernel⟩
abbrev s_read_way : Stmt := topS 16
abbrev N_read_way : List Str := ["text"]
theorem sc_read_way : FnScope N_read_way ["text"] (defScope s_read_way) := ⟨rfl, rfl, rfl, by decide +kernel, rfl, by decide +kernel, by decide +kernel⟩
abbrev s_read_colour : Stmt := topS 17
abbrev N_read_colour : List Str := ["text"]
theorem sc_read_colour : FnScope N_read_colour ["text"] (defScope s_read_colour) := ⟨rfl, rfl, rfl, by decide +kernel, rfl, by decide +kernel, by decide +kernel⟩
abbrev s_read_letter : Stmt := topS 18
abbrev N_read_letter : List Str := ["text"]
theorem sc_read_letter : FnScope N_read_letter ["text"] (defScope s_read_letter) := ⟨rfl, rfl, rfl, by decide +kernel, rfl, by decide +kernel, by decide +kernel⟩
abbrev s_read_number : Stmt := topS 19
abbrev N_read_number : List Str := ["text"]
theorem sc_read_number : FnScope N_read_number ["text"] (defScope s_read_number) := ⟨rfl, rfl, rfl, by decide +kernel, rfl, by decide +kernel, by decide +kernel⟩
abbrev s_is_number : Stmt := topS 20
abbrev N_is_number : List Str := ["text", "figure"]
theorem sc_is_number : FnScope N_is_number ["text"] (defScope s_is_number) := ⟨rfl, rfl, rfl, by decide +kernel, rfl, by decide +kernel, by decide +kernel⟩
abbrev s_read_plan : Stmt := topS 21
abbrev N_read_plan : List Str := ["text", "faces", "colon", "pairs", "cuts", "pair"]
theorem sc_read_plan : FnScope N_read_plan ["text"] (defScope s_read_plan) := ⟨rfl, rfl, rfl, by decide +kernel, rfl, by decide +kernel, by decide +kernel⟩
abbrev s_read_cut : Stmt := topS 22
abbrev N_read_cut : List Str := ["text", "low", "dash", "high"]
theorem sc_read_cut : FnScope N_read_cut ["text"] (defScope s_read_cut) := ⟨rfl, rfl, rfl, by decide +kernel, rfl, by decide +kernel, by decide +kernel⟩
abbrev s_read_things : Stmt := topS 24
abbrev N_read_things : List Str := ["kinds", "words", "kind", "word"]
theorem sc_read_things : FnScope N_read_things ["kinds", "words"] (defScope s_read_things) := ⟨rfl, rfl, rfl, by decide +kernel, rfl, by decide +kernel, by decide +kernel⟩
abbrev s_read_thing : Stmt := topS 25
abbrev N_read_thing : List Str := ["kind", "word", "reader"]
theorem sc_read_thing : FnScope N_read_thing ["kind", "word"] (defScope s_read_thing) := ⟨rfl, rfl, rfl, by decide +kernel, rfl, by decide +kernel, by decide +kernel⟩
abbrev s_read_deed : Stmt := topS 26
abbrev N_read_deed : List Str := ["text", "first", "words", "things"]
theorem sc_read_deed : FnScope N_read_deed ["text"] (defScope s_read_deed) := ⟨rfl, rfl, rfl, by decide +kernel, rfl, by decide +kernel, by decide +kernel⟩
/-- what the text has -/
structure Tg (K : Fg) (mg : Str → Option Value) : Prop where
  _law_bag : Tx K mg "_law_bag" ["_law_script"] s__law_bag
  _law_pull : Tx K mg "_law_pull" ["_law_bag_here", "_law_many"] s__law_pull
  _law_alike : Tx K mg "_law_alike" ["_law_found", "_law_due"] s__law_alike
  _law_whole : Tx K mg "_law_whole" ["_law_found"] s__law_whole
  _law_pair : Tx K mg "_law_pair" ["_law_one", "_law_other"] s__law_pair
  _law_plan : Tx K mg "_law_plan" ["_law_bag_here", "_law_most"] s__law_plan
  _law_drawn_plan : Tx K mg "_law_drawn_plan" ["_law_bag_here", "_law_faces"] s__law_drawn_plan
  _law_cut_arc : Tx K mg "_law_cut_arc" ["_law_bag_here", "_law_start", "_law_end", "_law_found"] s__law_cut_arc
  _law_any_deed : Tx K mg "_law_any_deed" ["_law_bag_here"] s__law_any_deed
  _law_deed_text : Tx K mg "_law_deed_text" ["_law_deed"] s__law_deed_text
  _law_plan_text : Tx K mg "_law_plan_text" ["_law_plan_here"] s__law_plan_text
  _law_bent_text : Tx K mg "_law_bent_text" ["_law_bag_here", "_law_text"] s__law_bent_text
  _law_digits : Tx K mg "_law_digits" ["_law_word"] s__law_digits
  _law_good_name : Tx K mg "_law_good_name" ["_law_name"] s__law_good_name
  _law_plan_read : Tx K mg "_law_plan_read" ["_law_word"] s__law_plan_read
  _law_read : Tx K mg "_law_read" ["_law_text"] s__law_read
  _law_told_text : Tx K mg "_law_told_text" ["_law_text"] s__law_told_text
  is_letter : Tx K mg "is_letter" ["text"] s_is_letter
  is_name : Tx K mg "is_name" ["text"] s_is_name
  read_name : Tx K mg "read_name" ["text"] s_read_name
  read_way : Tx K mg "read_way" ["text"] s_read_way
  read_colour : Tx K mg "read_colour" ["text"] s_read_colour
  read_letter : Tx K mg "read_letter" ["text"] s_read_letter
  read_number : Tx K mg "read_number" ["text"] s_read_number
  is_number : Tx K mg "is_number" ["text"] s_is_number
  read_plan : Tx K mg "read_plan" ["text"] s_read_plan
  read_cut : Tx K mg "read_cut" ["text"] s_read_cut
  read_things : Tx K mg "read_things" ["kinds", "words"] s_read_things
  read_thing : Tx K mg "read_thing" ["kind", "word"] s_read_thing
  read_deed : Tx K mg "read_deed" ["text"] s_read_deed
  LONGEST_NAME : ∃ t, mg "LONGEST_NAME" = some (.int 8 t)
  MOST_FIGURES : ∃ t, mg "MOST_FIGURES" = some (.int 4 t)
  LETTERS : ∃ t, mg "LETTERS" = some (.str "abcdefghijklmnopqrstuvwxyz" t)
  FIGURES : ∃ t, mg "FIGURES" = some (.str "0123456789" t)
  WAYS : ∃ a, mg "WAYS" = some (.ref a) ∧ ∀ H, SqT K H a [.str "even", .str "odd"]
  COLOURS : ∃ a, mg "COLOURS" = some (.ref a) ∧ ∀ H, SqT K H a [.str "red", .str "blue", .str "gold"]
  bl : Bl mg
abbrev s_BadText___init__ : Stmt := memS (topS 2) 0
abbrev N_BadText___init__ : List Str := ["self", "at"]
theorem sc_BadText___init__ : FnScope N_BadText___init__ ["self", "at"] (defScope s_BadText___init__) := ⟨rfl, rfl, rfl, by decide +kernel, rfl, by decide +kernel, by decide +kernel⟩

abbrev ReadersW (w : World) (K : Fg) (mg : Str → Option Value) : Prop := ∃ a, mg "READERS" = some (.ref a) ∧ (∃ f, KDct K w a "name" (.ref f) ∧ mg "read_name" = some (.ref f)) ∧ (∃ f, KDct K w a "plan" (.ref f) ∧ mg "read_plan" = some (.ref f)) ∧ (∃ f, KDct K w a "way" (.ref f) ∧ mg "read_way" = some (.ref f)) ∧ (∃ f, KDct K w a "slot" (.ref f) ∧ mg "read_number" = some (.ref f)) ∧ (∃ f, KDct K w a "colour" (.ref f) ∧ mg "read_colour" = some (.ref f)) ∧ (∃ f, KDct K w a "letter" (.ref f) ∧ mg "read_letter" = some (.ref f))
def KindAt (w : World) (K : Fg) (a : Addr) (e : Str × List Str) : Prop := ∃ b, KDct K w a e.1 (.ref b) ∧ ∀ H, SqT K H b (e.2.map V.str)
abbrev ThingsW (w : World) (K : Fg) (mg : Str → Option Value) : Prop := ∃ a, mg "THINGS" = some (.ref a) ∧ (a == sysModules) = false ∧ ∀ e ∈ kindsL, KindAt w K a e
section
variable {σ : L2.St} {G H : Hp} {ta tb te : TE} {K : Fg} {w : World}
theorem ev_notInKD {a : Addr} {z : Str} {v : V} (ha : Ev ta σ G z) (hk : KDct K w a z v) (hs : (a == sysModules) = false) : Ev (tOp (rInKD K w true) ta (tC (.ref a))) σ G false := fun H i Q q => ha H i _ fun u G1 H1 g1 k1 => ⟨a, z, rep_str k1, rfl, hs, .inl ⟨⟨v, hk⟩, q _ G1 H1 g1 rfl⟩⟩
theorem sig_all (l : List Nat) (p : Nat → Bool) : (((l.map fun c => (⟨#[c]⟩ : Str)).map fun y => y.cps.toList.all p).all id) = l.all p := by
  induction l with
  | nil => rfl
  | cons c l ih => rw [List.map_cons, List.map_cons, List.all_cons, List.all_cons, ih]; simp
theorem one_sig {z : Str} (h : z.length = 1) : ∃ c, z = ⟨#[c]⟩ := by
  obtain ⟨⟨l⟩⟩ := z
  match l, h with
  | [c], _ => exact ⟨c, rfl⟩
end
section
variable {P : Program} {w : World} {K : Fg} {mg : Str → Option Value} {base : Heap}
theorem q_is_letter (T : Tg K mg) : Df P w K mg base 1 "is_letter" ["text"] (sp1 (fun (z : Str) => z.length ≤ 90000) letB) := by
  refine T.is_letter.ok sc_is_letter (fun vs H Q E h => ?_) (fun cdv f A outer s H vs Q E hr h => ?_)
  · obtain ⟨v, x, G, rfl, _⟩ := h
    rfl
  obtain ⟨v, z, G, rfl, i, r1, hl, q⟩ := h
  cases r1
  have bl := T.bl
  obtain ⟨t_L, m_LETTERS⟩ := T.LETTERS
  refine ⟨_, (pss_one (ps_ret (pe_and (pe_cmpR op_eq (pe_callB call_len_str (by rfl) (bl "len" (by decide)) (by decide +kernel) (pa_cons (pv 0) pa_nil)) pe_int (nomark _)) (pe_one (pe_cmpR op_inC (pv 0) (pe_glob (v := .str "abcdefghijklmnopqrstuvwxyz") (by rfl) m_LETTERS ⟨_, rfl⟩) (by rfl)))))), ?_⟩
  refine st_ret (G := G) (x := letB z) (Ev.cast (ev_andV (b := z.cps.toList.all lowB) (ev_eqI (ev_lenS (ev_var (x := z) rfl rfl) (by omega)) ev_int) (fun hb => ?_)) ?_) i (fun v G' H' g r => q v G' H' g r)
  · obtain ⟨c, rfl⟩ := one_sig (z := z) (by have := of_decide_eq_true hb; omega)
    exact Ev.cast (ev_inC (c := c) (ev_var rfl rfl) ev_str) (by simp [lowB])
  · unfold letB
    congr 1
    exact decide_eq_decide.mpr (by omega)
theorem q_is_name (T : Tg K mg) : Df P w K mg base 1 "is_name" ["text"] (sp1 (fun (z : Str) => z.length ≤ 90000) nameB) := by
  refine T.is_name.ok sc_is_name (fun vs H Q E h => ?_) (fun cdv f A outer s H vs Q E hr h => ?_)
  · obtain ⟨v, x, G, rfl, _⟩ := h
    rfl
  obtain ⟨v, z, G, rfl, i, r1, hl, q⟩ := h
  cases r1
  have bl := T.bl
  obtain ⟨t_L, m_LETTERS⟩ := T.LETTERS
  obtain ⟨t_N, m_LONGEST_NAME⟩ := T.LONGEST_NAME
  refine ⟨_, (pss_cons (ps_if (PW.pt (pw_or (pt_cmpR op_lt (pe_callB call_len_str (by rfl) (bl "len" (by decide)) (by decide +kernel) (pa_cons (pv 0) pa_nil)) pe_int (nomark _)) (pw_or1 (pt_cmpR op_gt (pe_callB call_len_str (by rfl) (bl "len" (by decide)) (by decide +kernel) (pa_cons (pv 0) pa_nil)) (pe_glob (v := .int 8) (by rfl) m_LONGEST_NAME ⟨_, rfl⟩) (nomark _)))))
      (pss_one (ps_ret pe_bl))
      pss_nil)
    (pss_one (ps_ret (pe_callB (cr_allK (K := K) rfl rfl) (by rfl) (bl "all" (by decide)) (by decide +kernel) (pa_cons (pe_lc (own := [("letter", 1)]) rfl sc_is_name.nd (pi_str (pv 0)) (blkOk_by (own := [("letter", 1)]) (N := N_is_name) (sc := defScope s_is_name) (by decide +kernel)) (fun _ _ _ _ _ => (pg_name (i := 1) sc_is_name.nd rfl (by first | exact .inl rfl | exact .inr rfl))) (fun _ _ _ _ _ => pts_nil) (fun _ _ _ _ _ => (pe_cmpR op_inC (pv 1) (pe_glob (v := .str "abcdefghijklmnopqrstuvwxyz") (by rfl) m_LETTERS ⟨_, rfl⟩) (by rfl)))) pa_nil))))), ?_⟩
  have e1 : decide ((z.length : Int) < 1) = decide (z.length < 1) := decide_eq_decide.mpr (by omega)
  have e2 : decide ((z.length : Int) > 8) = decide (8 < z.length) := decide_eq_decide.mpr (by omega)
  refine sq_ifn (G := G) (et_or (et_test (ev_lt (ev_lenS (ev_var (x := z) rfl rfl) (by omega)) ev_int)) (fun _ => et_test (ev_gt (ev_lenS (ev_var (x := z) rfl rfl) (by omega)) ev_int))) i (fun hb G1 H1 g1 => ?_) (fun hb G1 H1 g1 => ?_)
  · refine st_ret (G := G1) (x := nameB z) (Ev.cast (ev_bl (n := false)) ?_) g1.i (fun v G' H' g r => q v G' H' (g1.trans g) r)
    rw [e1, e2] at hb
    unfold nameB
    rw [hb]; rfl
  · refine st_ret (G := G1) (x := nameB z) (Ev.cast (ev_all (ev_lc (xs := z.cps.toList.map fun c => (⟨#[c]⟩ : Str)) (f := fun y => y.cps.toList.all lowB) (ei_str (ev_var (x := z) rfl rfl)) (by rw [List.length_map, ← TL.len_tl]; omega) ?_)) ?_) g1.i (fun v G' H' g r => q v G' H' (g1.trans g) r)
    · intro y hy v1 G9 s9 rx
      obtain ⟨c, _, rfl⟩ := List.mem_map.mp hy
      exact gb_name ⟨rfl, Ev.cast (ev_inC (c := c) (ev_var rfl rx) ev_str) (by simp [lowB])⟩
    · rw [e1, e2] at hb
      rw [sig_all]
      unfold nameB
      rw [hb]; rfl
theorem q_is_number (T : Tg K mg) : Df P w K mg base 1 "is_number" ["text"] (sp1 (fun (z : Str) => z.length ≤ 90000) numB) := by
  refine T.is_number.ok sc_is_number (fun vs H Q E h => ?_) (fun cdv f A outer s H vs Q E hr h => ?_)
  · obtain ⟨v, x, G, rfl, _⟩ := h
    rfl
  obtain ⟨v, z, G, rfl, i, r1, hl, q⟩ := h
  cases r1
  have bl := T.bl
  obtain ⟨t_L, m_FIGURES⟩ := T.FIGURES
  obtain ⟨t_N, m_MOST_FIGURES⟩ := T.MOST_FIGURES
  refine ⟨_, (pss_cons (ps_if (PW.pt (pw_or (pt_cmpR op_lt (pe_callB call_len_str (by rfl) (bl "len" (by decide)) (by decide +kernel) (pa_cons (pv 0) pa_nil)) pe_int (nomark _)) (pw_or1 (pt_cmpR op_gt (pe_callB call_len_str (by rfl) (bl "len" (by decide)) (by decide +kernel) (pa_cons (pv 0) pa_nil)) (pe_glob (v := .int 4) (by rfl) m_MOST_FIGURES ⟨_, rfl⟩) (nomark _)))))
      (pss_one (ps_ret pe_bl))
      pss_nil)
    (pss_cons (ps_if (pt_not (pt_val (pe_callB (cr_allK (K := K) rfl rfl) (by rfl) (bl "all" (by decide)) (by decide +kernel) (pa_cons (pe_lc (own := [("figure", 1)]) rfl sc_is_number.nd (pi_str (pv 0)) (blkOk_by (own := [("figure", 1)]) (N := N_is_number) (sc := defScope s_is_number) (by decide +kernel)) (fun _ _ _ _ _ => (pg_name (i := 1) sc_is_number.nd rfl (by first | exact .inl rfl | exact .inr rfl))) (fun _ _ _ _ _ => pts_nil) (fun _ _ _ _ _ => (pe_cmpR op_inC (pv 1) (pe_glob (v := .str "0123456789") (by rfl) m_FIGURES ⟨_, rfl⟩) (by rfl)))) pa_nil))))
      (pss_one (ps_ret pe_bl))
      pss_nil)
    (pss_one (ps_ret (pe_or (pe_cmpR op_eq (pv 0) pe_str (nomark _)) (pe_one (pe_cmpR op_ne (pe_ix ix_str (pv 0) pe_int (fun _ _ => rfl)) pe_str (nomark _)))))))), ?_⟩
  have e1 : decide ((z.length : Int) < 1) = decide (z.length < 1) := decide_eq_decide.mpr (by omega)
  have e2 : decide ((z.length : Int) > 4) = decide (4 < z.length) := decide_eq_decide.mpr (by omega)
  refine sq_ifn (G := G) (et_or (et_test (ev_lt (ev_lenS (ev_var (x := z) rfl rfl) (by omega)) ev_int)) (fun _ => et_test (ev_gt (ev_lenS (ev_var (x := z) rfl rfl) (by omega)) ev_int))) i (fun hb G1 H1 g1 => ?_) (fun hb G1 H1 g1 => ?_)
  · refine st_ret (G := G1) (x := numB z) (Ev.cast (ev_bl (n := false)) ?_) g1.i (fun v G' H' g r => q v G' H' (g1.trans g) r)
    rw [e1, e2] at hb
    unfold numB
    rw [hb]; rfl
  rw [e1, e2] at hb
  refine sq_ifn (G := G1) (b := !(z.cps.toList.all figB)) (et_not (et_B (Ev.cast (ev_all (ev_lc (xs := z.cps.toList.map fun c => (⟨#[c]⟩ : Str)) (f := fun y => y.cps.toList.all figB) (ei_str (ev_var (x := z) rfl rfl)) (by rw [List.length_map, ← TL.len_tl]; omega) ?_)) (sig_all _ _)))) g1.i (fun hb2 G2 H2 g2 => ?_) (fun hb2 G2 H2 g2 => ?_)
  · intro y hy v1 G9 s9 rx
    obtain ⟨c, _, rfl⟩ := List.mem_map.mp hy
    exact gb_name ⟨rfl, Ev.cast (ev_inC (c := c) (ev_var rfl rx) ev_str) (by simp [figB])⟩
  · refine st_ret (G := G2) (x := numB z) (Ev.cast (ev_bl (n := false)) ?_) g2.i (fun v G' H' g r => q v G' H' ((g1.trans g2).trans g) r)
    have hb2 : z.cps.toList.all figB = false := by simpa using hb2
    unfold numB
    rw [hb, hb2]; rfl
  · have hb2 : z.cps.toList.all figB = true := by simpa using hb2
    have hlen : 1 ≤ z.length := by
      simp only [Bool.or_eq_false_iff, decide_eq_false_iff_not] at hb
      omega
    obtain ⟨c, hc⟩ : ∃ c, z.cps.toList[0]? = some c := ⟨_, List.getElem?_eq_getElem (by rw [← TL.len_tl]; omega)⟩
    refine st_ret (G := G2) (x := numB z) (Ev.cast (ev_orV (b := !decide ((⟨#[c]⟩ : Str) = "0")) (ev_eqS (ev_var (x := z) rfl rfl) ev_str) (fun _ => ev_neS (ev_ixS (c := c) (n := 0) (ev_var (x := z) rfl rfl) ev_int (by omega) ?_) ev_str)) ?_) g2.i (fun v G' H' g r => q v G' H' ((g1.trans g2).trans g) r)
    · exact atI_nat hc
    · unfold numB
      rw [hb, hb2, hc]
      have e0 : (("0" : Str)) = ⟨#[48]⟩ := by decide +kernel
      have e3 : decide ((⟨#[c]⟩ : Str) = "0") = decide (some c = some 48) := decide_eq_decide.mpr ⟨fun z => by rw [e0] at z; injection z with z; simp at z; rw [z], fun z => by rw [e0, Option.some.inj z]⟩
      rw [e3]; rfl
end

/-! the readers, whatever the text -/
def rdB {α β : Type} (p : α → Bool) (f : α → β) (z : α) : Option β := if p z = true then some (f z) else none
theorem rdB_no {α β : Type} {p : α → Bool} {f : α → β} {z : α} (h : p z = false) : rdB p f z = none := if_neg (by simp [h])
theorem rdB_ok {α β : Type} {p : α → Bool} {f : α → β} {z : α} (h : p z = true) : rdB p f z = some (f z) := if_pos h
theorem optL_all {α β : Type} (p : α → Bool) (f : α → β) : ∀ xs : List α, optL (rdB p f) xs = if xs.all p = true then some (xs.map f) else none
  | [] => rfl
  | x :: xs => by
    rw [optL, optL_all p f xs, List.all_cons, List.map_cons]
    unfold rdB
    cases p x <;> cases xs.all p <;> rfl
structure BtX (P : Program) (w : World) (K : Fg) (mg : Str → Option Value) (base : Heap) (C : Addr) : Prop where
  m : mg "BadText" = some (.ref C)
  i : McE P w K mg base 1 "BadText" C ["self", "at"] (spEI1 C "at")
theorem rz_bad {σ : L2.St} {G H : Hp} {C : Addr} {W : XK} (b : BadW C W G H) (s : Same G H) : tMkO C (spEI1 C "at") [] (tCons (tC (.int 0)) tNil) σ H W :=
  rz_oex1 (x := (0 : Int)) ev_int s fun d fs G' H' g e ⟨u, ef, r⟩ => b d u G' H' g (ef ▸ e) r
section
variable {P : Program} {w : World} {K : Fg} {mg : Str → Option Value} {base : Heap} {CB : Addr}
theorem i_BadText (BT : TxE K mg "BadText" "BadText.__init__" ["self", "at"] ["at"] s_BadText___init__) : ∃ C, BtX P w K mg base C := by
  have h : ∃ C, mg "BadText" = some (.ref C) ∧ McE P w K mg base 1 "BadText" C ["self", "at"] (spEI1 C "at") := by
    refine BT.ok sc_BadText___init__ (fun C vs H Q E h => ?_) (fun C O nf cdv f A outer s H vs Q E hr h => ?_)
    · obtain ⟨a, u, rfl, _⟩ := h
      rfl
    obtain ⟨a, u, rfl, ea, q⟩ := h
    refine ⟨_, (pss_one (ps_ost (pv 0) (pv 1))), ?_⟩
    exact ⟨u, rfl, .ref a, rfl, a, C, rfl, O, nf "at" (by decide), .inl ⟨ea, fun dx nd ne => q dx nd ne⟩⟩
  obtain ⟨C, h1, h2⟩ := h
  exact ⟨C, h1, h2⟩
theorem r_read_name (T : Tg K mg) (B : BtX P w K mg base CB) : DfX P w K mg base 3 "read_name" ["text"] (spRd CB (fun (z : Str) => z.length ≤ 80000) (rdB nameB id)) := by
  have R_BadText := B.i
  refine T.read_name.okX sc_read_name len_spRd (fun cdv f A outer s H vs Q E hr h => ?_)
  obtain ⟨v, z, G, rfl, i, r1, hl, q, bad⟩ := h
  have bl := T.bl
  refine ⟨_, (pss_cons (ps_if (pt_not (pt_val (pe_df (q_is_name T) hr (by first | decide | omega) (by rfl) (pa_cons (pv 0) pa_nil))))
      (pss_one (L2N.ps_raise rfl (L2N.takes_of rfl rfl rfl rfl) (pmk_mcE R_BadText hr (by first | decide | omega) (by rfl) (pa_cons pe_int pa_nil))))
      pss_nil)
    (pss_one (ps_ret (pv 0)))), ?_⟩
  refine sq_ifn (G := G) (et_not (et_B (ev_call1 (f := nameB) (ev_var rfl r1) (by omega)))) i (fun hb G1 H1 g1 => ?_) (fun hb G1 H1 g1 => ?_)
  · exact rz_bad ((bad (rdB_no (by simpa using hb))).step g1) g1.i
  · exact st_ret (G := G1) (ev_var rfl (Rep.mono g1.g r1)) g1.i (fun v G' H' g r => q z v G' H' (rdB_ok (by simpa using hb)) (g1.trans g) r)
theorem r_read_letter (T : Tg K mg) (B : BtX P w K mg base CB) : DfX P w K mg base 3 "read_letter" ["text"] (spRd CB (fun (z : Str) => z.length ≤ 80000) (rdB letB id)) := by
  have R_BadText := B.i
  refine T.read_letter.okX sc_read_letter len_spRd (fun cdv f A outer s H vs Q E hr h => ?_)
  obtain ⟨v, z, G, rfl, i, r1, hl, q, bad⟩ := h
  have bl := T.bl
  refine ⟨_, (pss_cons (ps_if (pt_not (pt_val (pe_df (q_is_letter T) hr (by first | decide | omega) (by rfl) (pa_cons (pv 0) pa_nil))))
      (pss_one (L2N.ps_raise rfl (L2N.takes_of rfl rfl rfl rfl) (pmk_mcE R_BadText hr (by first | decide | omega) (by rfl) (pa_cons pe_int pa_nil))))
      pss_nil)
    (pss_one (ps_ret (pv 0)))), ?_⟩
  refine sq_ifn (G := G) (et_not (et_B (ev_call1 (f := letB) (ev_var rfl r1) (by omega)))) i (fun hb G1 H1 g1 => ?_) (fun hb G1 H1 g1 => ?_)
  · exact rz_bad ((bad (rdB_no (by simpa using hb))).step g1) g1.i
  · exact st_ret (G := G1) (ev_var rfl (Rep.mono g1.g r1)) g1.i (fun v G' H' g r => q z v G' H' (rdB_ok (by simpa using hb)) (g1.trans g) r)
theorem r_read_number (T : Tg K mg) (B : BtX P w K mg base CB) : DfX P w K mg base 3 "read_number" ["text"] (spRd CB (fun (z : Str) => z.length ≤ 80000) (rdB numB intM)) := by
  have R_BadText := B.i
  refine T.read_number.okX sc_read_number len_spRd (fun cdv f A outer s H vs Q E hr h => ?_)
  obtain ⟨v, z, G, rfl, i, r1, hl, q, bad⟩ := h
  have bl := T.bl
  refine ⟨_, (pss_cons (ps_if (pt_not (pt_val (pe_df (q_is_number T) hr (by first | decide | omega) (by rfl) (pa_cons (pv 0) pa_nil))))
      (pss_one (L2N.ps_raise rfl (L2N.takes_of rfl rfl rfl rfl) (pmk_mcE R_BadText hr (by first | decide | omega) (by rfl) (pa_cons pe_int pa_nil))))
      pss_nil)
    (pss_one (ps_ret (pe_callTy call_int_str (by rfl) (bl "int" (by decide)) (by decide +kernel) (pa_cons (pv 0) pa_nil))))), ?_⟩
  refine sq_ifn (G := G) (et_not (et_B (ev_call1 (f := numB) (ev_var rfl r1) (by omega)))) i (fun hb G1 H1 g1 => ?_) (fun hb G1 H1 g1 => ?_)
  · exact rz_bad ((bad (rdB_no (by simpa using hb))).step g1) g1.i
  · have hn : numB z = true := by simpa using hb
    obtain ⟨n1, n2⟩ := numB_some hn
    exact st_ret (G := G1) (x := intM z) (ev_intS (ev_var rfl (Rep.mono g1.g r1)) n1 (by omega)) g1.i (fun v G' H' g r => q _ v G' H' (rdB_ok hn) (g1.trans g) r)
theorem r_read_way (T : Tg K mg) (B : BtX P w K mg base CB) : DfX P w K mg base 3 "read_way" ["text"] (spRd CB (fun (z : Str) => z.length ≤ 80000) (rdB (fun z => decide (z ∈ waysL)) id)) := by
  have R_BadText := B.i
  refine T.read_way.okX sc_read_way len_spRd (fun cdv f A outer s H vs Q E hr h => ?_)
  obtain ⟨v, z, G, rfl, i, r1, hl, q, bad⟩ := h
  obtain ⟨a_WAYS, m_WAYS, hS⟩ := T.WAYS
  refine ⟨_, (pss_cons (ps_if (pt_cmpR op_notIn_seq (pv 0) (pe_glob (v := .ref a_WAYS) (by rfl) m_WAYS rfl) (by rfl))
      (pss_one (L2N.ps_raise rfl (L2N.takes_of rfl rfl rfl rfl) (pmk_mcE R_BadText hr (by first | decide | omega) (by rfl) (pa_cons pe_int pa_nil))))
      pss_nil)
    (pss_one (ps_ret (pv 0)))), ?_⟩
  refine sq_ifn (G := G) (et_test (ev_notInS (ys := waysL) (ev_var rfl r1) hS)) i (fun hb G1 H1 g1 => ?_) (fun hb G1 H1 g1 => ?_)
  · exact rz_bad ((bad (rdB_no ((Bool.not_eq_true' _).mp hb))).step g1) g1.i
  · exact st_ret (G := G1) (ev_var rfl (Rep.mono g1.g r1)) g1.i (fun v G' H' g r => q z v G' H' (rdB_ok ((Bool.not_eq_false' _).mp hb)) (g1.trans g) r)
theorem r_read_colour (T : Tg K mg) (B : BtX P w K mg base CB) : DfX P w K mg base 3 "read_colour" ["text"] (spRd CB (fun (z : Str) => z.length ≤ 80000) (rdB (fun z => decide (z ∈ coloursL)) id)) := by
  have R_BadText := B.i
  refine T.read_colour.okX sc_read_colour len_spRd (fun cdv f A outer s H vs Q E hr h => ?_)
  obtain ⟨v, z, G, rfl, i, r1, hl, q, bad⟩ := h
  obtain ⟨a_COLOURS, m_COLOURS, hS⟩ := T.COLOURS
  refine ⟨_, (pss_cons (ps_if (pt_cmpR op_notIn_seq (pv 0) (pe_glob (v := .ref a_COLOURS) (by rfl) m_COLOURS rfl) (by rfl))
      (pss_one (L2N.ps_raise rfl (L2N.takes_of rfl rfl rfl rfl) (pmk_mcE R_BadText hr (by first | decide | omega) (by rfl) (pa_cons pe_int pa_nil))))
      pss_nil)
    (pss_one (ps_ret (pv 0)))), ?_⟩
  refine sq_ifn (G := G) (et_test (ev_notInS (ys := coloursL) (ev_var rfl r1) hS)) i (fun hb G1 H1 g1 => ?_) (fun hb G1 H1 g1 => ?_)
  · exact rz_bad ((bad (rdB_no ((Bool.not_eq_true' _).mp hb))).step g1) g1.i
  · exact st_ret (G := G1) (ev_var rfl (Rep.mono g1.g r1)) g1.i (fun v G' H' g r => q z v G' H' (rdB_ok ((Bool.not_eq_false' _).mp hb)) (g1.trans g) r)
theorem part_len2 (z y : Str) (hy : y.length = 1) : (Txt.partition z y).1.length ≤ z.length ∧ (Txt.partition z y).2.2.length ≤ z.length := ⟨(PyProof.Rows.fact_partition z y).1, (PyProof.Rows.fact_partition z y).2.2⟩
theorem cut_rd (z : Str) : ((rdB numB intM (Txt.partition z "-").1).bind fun a => (rdB numB intM (Txt.partition z "-").2.2).map fun b => (a, b)) = rdB cutOk cutM2 z := by
  unfold rdB cutOk cutM2
  cases numB (Txt.partition z "-").1 <;> cases numB (Txt.partition z "-").2.2 <;> rfl
theorem r_read_cut (T : Tg K mg) (B : BtX P w K mg base CB) : DfX P w K mg base 4 "read_cut" ["text"] (spRd CB (fun (z : Str) => z.length ≤ 80000) (rdB cutOk cutM2)) := by
  have X1 := r_read_number T B
  refine T.read_cut.okX sc_read_cut len_spRd (fun cdv f A outer s H vs Q E hr h => ?_)
  obtain ⟨v, z, G, rfl, i, r1, hl, q, bad⟩ := h
  obtain ⟨l1, l2⟩ := part_len2 z "-" (by decide +kernel)
  refine ⟨_, (pss_cons (ps_asg (pe_partition (pv 0) pe_str) (pg_tupK (K := K) (n := 3) rfl (pg_tup rfl (pgs_cons (pg_name (i := 1) sc_read_cut.nd rfl (by first | exact .inl rfl | exact .inr rfl)) (pgs_cons (pg_name (i := 2) sc_read_cut.nd rfl (by first | exact .inl rfl | exact .inr rfl)) (pgs_cons (pg_name (i := 3) sc_read_cut.nd rfl (by first | exact .inl rfl | exact .inr rfl)) pgs_nil))))))
    (pss_one (ps_ret (pe_tup (pa_cons (pe_dfS X1 hr (by first | decide | omega) (by rfl) (L2N.takes_of rfl rfl rfl rfl) (pa_cons (pv 1) pa_nil)) (pa_cons (pe_dfS X1 hr (by first | decide | omega) (by rfl) (L2N.takes_of rfl rfl rfl rfl) (pa_cons (pv 3) pa_nil)) pa_nil)))))), ?_⟩
  refine sq_tri (G := G) (ev_partS (b := "-") (ev_var rfl r1) ev_str (by decide +kernel) (by omega)) i (fun v1 v2 v3 G1 H1 g1 k1 k2 k3 => ?_)
  exact st_retO (G := G1) (C := CB) (W := fun c d H => E c d H) (o := rdB cutOk cutM2 z) ((evb_tup2 (evb_call1 (E := WE (fun c d _ H => E c d H)) (ev_var rfl k1) (Nat.le_trans l1 hl)) (evb_call1 (E := WE (fun c d _ H => E c d H)) (ev_var rfl k3) (Nat.le_trans l2 hl))).cast (cut_rd z)) g1.i (fun x v G' H' e g r => q x v G' H' e (g1.trans g) r) (fun e => (bad e).step g1)
theorem r_read_plan (T : Tg K mg) (B : BtX P w K mg base CB) : DfX P w K mg base 5 "read_plan" ["text"] (spRd CB (fun (z : Str) => z.length ≤ 80000) (rdB planOk planM2)) := by
  have R_BadText := B.i
  have X1 := r_read_number T B
  have X2 := r_read_cut T B
  refine T.read_plan.okX sc_read_plan len_spRd (fun cdv f A outer s H vs Q E hr h => ?_)
  obtain ⟨v, z, G, rfl, i, r1, hl, q, bad⟩ := h
  have bl := T.bl
  obtain ⟨l1, l2⟩ := part_len2 z ":" (by decide +kernel)
  have ok : planOk z = (!decide ((Txt.partition z ":").2.1 = "") && (numB (Txt.partition z ":").1 && (decide ((Txt.partition z ":").2.2 = "") || (Txt.split (Txt.partition z ":").2.2 ",").all cutOk))) := rfl
  refine ⟨_, (pss_cons (ps_asg (pe_partition (pv 0) pe_str) (pg_tupK (K := K) (n := 3) rfl (pg_tup rfl (pgs_cons (pg_name (i := 1) sc_read_plan.nd rfl (by first | exact .inl rfl | exact .inr rfl)) (pgs_cons (pg_name (i := 2) sc_read_plan.nd rfl (by first | exact .inl rfl | exact .inr rfl)) (pgs_cons (pg_name (i := 3) sc_read_plan.nd rfl (by first | exact .inl rfl | exact .inr rfl)) pgs_nil))))))
    (pss_cons (ps_if (pt_cmpR op_eq (pv 2) pe_str (nomark _))
      (pss_one (L2N.ps_raise rfl (L2N.takes_of rfl rfl rfl rfl) (pmk_mcE R_BadText hr (by first | decide | omega) (by rfl) (pa_cons pe_int pa_nil))))
      pss_nil)
    (pss_cons (ps_set (i := 4) sc_read_plan.nd rfl (by first | exact .inl rfl | exact .inr rfl) (pe_ifExp (pt_cmpR op_eq (pv 3) pe_str (nomark _)) (pe_lst pa_nil) (pe_lcX (own := [("pair", 5)]) rfl rfl (L2N.takes_of rfl rfl rfl rfl) (fun _ _ _ _ h => h) rfl sc_read_plan.nd (pi_listK (K := K) rfl (pe_split (pv 3) pe_str)) (blkOk_by (own := [("pair", 5)]) (N := N_read_plan) (sc := defScope s_read_plan) (by decide +kernel)) (fun _ _ _ _ _ => (pg_name (i := 5) sc_read_plan.nd rfl (by first | exact .inl rfl | exact .inr rfl))) (fun _ _ _ _ _ => pts_nil) (fun _ _ _ _ _ => (pe_dfB X2 hr (by first | decide | omega) (by rfl) (pa_cons (pv 5) pa_nil))))))
    (pss_one (ps_ret (pe_tup (pa_cons (pe_dfS X1 hr (by first | decide | omega) (by rfl) (L2N.takes_of rfl rfl rfl rfl) (pa_cons (pv 1) pa_nil)) (pa_cons (pe_callTy (call_tupleK (K := K) rfl) (by rfl) (bl "tuple" (by decide)) (by decide +kernel) (pa_cons (pv 4) pa_nil)) pa_nil)))))))), ?_⟩
  refine sq_tri (G := G) (ev_partS (b := ":") (ev_var rfl r1) ev_str (by decide +kernel) (by omega)) i (fun v1 v2 v3 G1 H1 g1 k1 k2 k3 => ?_)
  refine sq_ifn (G := G1) (et_test (ev_eqS (ev_var rfl k2) ev_str)) g1.i (fun hb G2 H2 g2 => ?_) (fun hb G2 H2 g2 => ?_)
  · refine rz_bad ((bad (rdB_no ?_)).step (g1.trans g2)) g2.i
    have hb : decide ((Txt.partition z ":").2.1 = "") = true := hb
    rw [ok, hb]; rfl
  have hb : decide ((Txt.partition z ":").2.1 = "") = false := hb
  have k32 := Rep.mono g2.g k3
  have hsl := PyProof.Rows.split_le (Txt.partition z ":").2.2 ","
  refine sq_setO (G := G2) (C := CB) (W := fun c d H => E c d H) (o := if decide ((Txt.partition z ":").2.2 = "") = true then some ([] : List (Int × Int)) else optL (rdB cutOk cutM2) (Txt.split (Txt.partition z ":").2.2 ",")) (evb_if (et_test (ev_eqS (ev_var rfl k32) ev_str)) (fun _ => Ev.o (ev_lst evs_nil (by decide))) (fun hb2 => ?_)) g2.i (fun cs cv G3 H3 ecs g3 rc => ?_) (fun e => ?_)
  · refine evb_lc (xs := Txt.split (Txt.partition z ":").2.2 ",") (f := rdB cutOk cutM2) (ei_list (ev_splitS (a := (Txt.partition z ":").2.2) (b := ",") (ev_var rfl k32) ev_str (by decide +kernel) (by omega))) (by omega) ?_
    intro y hy v1 G9 s9 rx
    have hyl := PyProof.Rows.part_short hy
    exact gb_name ⟨rfl, evb_call1 (E := fun _ c d H => E c d H) (ev_var rfl rx) (by omega)⟩
  · have k13 := Rep.mono (g2.g.trans g3.g) k1
    refine st_retO (G := G3) (C := CB) (W := fun c d H => E c d H) (o := (rdB numB intM (Txt.partition z ":").1).bind fun a => (some (Tup.mk cs)).map fun b => (a, b)) (evb_tup2 (evb_call1 (E := WE (fun c d _ H => E c d H)) (ev_var rfl k13) (by omega)) (Ev.o (ev_tupleL (ev_var rfl rc)))) g3.i (fun x v G' H' e g r => q x v G' H' ?_ (((g1.trans g2).trans g3).trans g) r) (fun e => (bad ?_).step ((g1.trans g2).trans g3))
    · unfold rdB at e ⊢
      rw [ok, hb]
      cases hn : numB (Txt.partition z ":").1 with
      | false => rw [hn] at e; cases e
      | true =>
        rw [hn] at e
        have e : some (intM (Txt.partition z ":").1, Tup.mk cs) = some x := e
        cases e
        rw [optL_all] at ecs
        unfold planM2
        by_cases h2 : (Txt.partition z ":").2.2 = ""
        · rw [decide_eq_true h2, if_pos rfl] at ecs
          cases ecs
          rw [decide_eq_true h2, if_pos h2]; rfl
        · rw [decide_eq_false h2, if_neg (by decide)] at ecs
          rw [decide_eq_false h2, if_neg h2]
          cases ha : (Txt.split (Txt.partition z ":").2.2 ",").all cutOk with
          | false => rw [ha] at ecs; cases ecs
          | true => rw [ha] at ecs; cases ecs; rfl
    · unfold rdB at e ⊢
      rw [ok, hb]
      cases hn : numB (Txt.partition z ":").1 with
      | false => rfl
      | true => rw [hn] at e; cases e
  · refine (bad (rdB_no ?_)).step (g1.trans g2)
    rw [ok, hb]
    rw [optL_all] at e
    by_cases h2 : (Txt.partition z ":").2.2 = ""
    · rw [decide_eq_true h2, if_pos rfl] at e
      cases e
    · rw [decide_eq_false h2, if_neg (by decide)] at e
      rw [decide_eq_false h2]
      cases ha : (Txt.split (Txt.partition z ":").2.2 ",").all cutOk with
      | false => simp
      | true => rw [ha] at e; cases e
end


open TL (tl numL)
section
variable {P : Program} {w : World} {K : Fg} {mg : Str → Option Value} {base : Heap} {CB : Addr}
theorem spRd_th {α : Type} [Rep α] {C : Addr} {p : Str → Bool} {g : Str → α} {h : α → Th} {k z : Str} {v : V} {H G : Hp} {Q : VK} {E : XK} (hh : ∀ G v x, rep G v x → rep G v (h x)) (i : Same G H) (r : rep G v z) (hl : z.length ≤ 80000)
    (ek : thOk k z = p z) (et : thgM k z = h (g z)) (q : ∀ x v' G' H', rdB (thOk k) (thgM k) z = some x → Gr M0 G H G' H' → rep G' v' x → Q v' H') (bad : rdB (thOk k) (thgM k) z = none → BadW C E G H) :
    spRd C (fun (z : Str) => z.length ≤ 80000) (rdB p g) [v] H Q E :=
  ⟨v, z, G, rfl, i, r, hl, fun x v' G' H' e gr rr => q (h x) v' G' H' (by
    unfold rdB at e ⊢
    rw [ek, et]
    cases hp : p z with
    | false => rw [hp] at e; cases e
    | true => rw [hp] at e; cases e; rfl) gr (hh _ _ _ rr), fun e => bad (by
    unfold rdB at e ⊢
    rw [ek]
    cases hp : p z with
    | false => rfl
    | true => rw [hp] at e; cases e)⟩
theorem r_read_thing (T : Tg K mg) (B : BtX P w K mg base CB) (R : ReadersW w K mg) : DfX P w K mg base 6 "read_thing" ["kind", "word"] (spRd2 CB (fun (k z : Str) => k ∈ (["name", "plan", "way", "slot", "colour", "letter"] : List Str) ∧ z.length ≤ 80000) (fun k => rdB (thOk k) (thgM k))) := by
  obtain ⟨a_READERS, m_READERS, ⟨f1, k1, m1⟩, ⟨f2, k2, m2⟩, ⟨f3, k3, m3⟩, ⟨f4, k4, m4⟩, ⟨f5, k5, m5⟩, ⟨f6, k6, m6⟩⟩ := R
  refine T.read_thing.okX sc_read_thing len_spRd2 (fun cdv f A outer s H vs Q E hr h => ?_)
  obtain ⟨v, k, v2, z, G, rfl, i, r1, r2, ⟨hk, hl⟩, q, bad⟩ := h
  cases r1; cases r2
  refine ⟨_, (pss_cons (ps_set (i := 2) sc_read_thing.nd rfl (by first | exact .inl rfl | exact .inr rfl) (pe_ix ix_kdict (pe_glob (v := .ref a_READERS) (by rfl) m_READERS rfl) (pv 0) (fun _ _ => rfl)))
    (pss_one (ps_ret (pe_callDXp (P := P) (w := w) (K := K) (mg := mg) (base := base) (k := 5) (i := 2) rfl rfl rfl rfl rfl (hr.mono (by first | decide | omega)) rfl (by first | exact Or.inl rfl | exact Or.inr (Or.inl rfl) | exact Or.inr (Or.inr rfl)) (L2N.takes_of rfl rfl rfl rfl) (pa_cons (pv 1) pa_nil))))), ?_⟩
  have fin : ∀ (f : Addr) (sp : Sp), KDct K w a_READERS k (.ref f) → HeldX P w K mg base 5 f sp → sp [.str z] H Q E → tSeq (tAsg (tOp (rIxD K w) (tC (.ref a_READERS)) (tVar 0)) (gName 2)) (tRet (tCallDX P w K mg base 5 2 (fun cls d _ H' => E cls d H') (tCons (tVar 1) tNil))) { nx := fun _ H' => Q .non H', rt := Q } (start N_read_thing [.str k, .str z]) H := fun f sp hk hh hs =>
    ⟨.str k, rfl, a_READERS, k, .ref f, rfl, rfl, hk, f, sp, rfl, hh, .str z, rfl, hs⟩
  simp only [List.mem_cons, List.not_mem_nil, or_false] at hk
  rcases hk with rfl | rfl | rfl | rfl | rfl | rfl
  · exact fin f1 _ k1 ((r_read_name T B).held m1 (by decide)) (spRd_th (h := Th.s) (fun _ _ _ r => r) i rfl hl (by unfold thOk; rw [if_pos rfl]) (by unfold thgM; rw [if_neg (by decide +kernel), if_neg (by decide +kernel)]; rfl) q bad)
  · exact fin f2 _ k2 ((r_read_plan T B).held m2 (by decide)) (spRd_th (h := Th.p) (fun _ _ _ r => r) i rfl hl (by unfold thOk; rw [if_neg (by decide +kernel), if_pos rfl]) (by unfold thgM; rw [if_pos rfl]) q bad)
  · exact fin f3 _ k3 ((r_read_way T B).held m3 (by decide)) (spRd_th (h := Th.s) (fun _ _ _ r => r) i rfl hl (by unfold thOk; rw [if_neg (by decide +kernel), if_neg (by decide +kernel), if_pos rfl]) (by unfold thgM; rw [if_neg (by decide +kernel), if_neg (by decide +kernel)]; rfl) q bad)
  · exact fin f4 _ k4 ((r_read_number T B).held m4 (by decide)) (spRd_th (h := Th.n) (fun _ _ _ r => r) i rfl hl (by unfold thOk; rw [if_neg (by decide +kernel), if_neg (by decide +kernel), if_neg (by decide +kernel), if_pos rfl]) (by unfold thgM; rw [if_neg (by decide +kernel), if_pos rfl]) q bad)
  · exact fin f5 _ k5 ((r_read_colour T B).held m5 (by decide)) (spRd_th (h := Th.s) (fun _ _ _ r => r) i rfl hl (by unfold thOk; rw [if_neg (by decide +kernel), if_neg (by decide +kernel), if_neg (by decide +kernel), if_neg (by decide +kernel), if_pos rfl]) (by unfold thgM; rw [if_neg (by decide +kernel), if_neg (by decide +kernel)]; rfl) q bad)
  · exact fin f6 _ k6 ((r_read_letter T B).held m6 (by decide)) (spRd_th (h := Th.s) (fun _ _ _ r => r) i rfl hl (by unfold thOk; rw [if_neg (by decide +kernel), if_neg (by decide +kernel), if_neg (by decide +kernel), if_neg (by decide +kernel), if_neg (by decide +kernel), if_pos rfl]) (by unfold thgM; rw [if_neg (by decide +kernel), if_neg (by decide +kernel)]; rfl) q bad)
def thingsO (ks ws : List Str) : Option (List Th) := if ks.length = ws.length ∧ ((ks.zip ws).all fun kw => thOk kw.1 kw.2) = true then some ((ks.zip ws).map fun kw => thgM kw.1 kw.2) else none
def spThingsX (C : Addr) (K : Fg) : Sp := fun vs H Q E => ∃ b v2 ks ws G, vs = [.ref b, v2] ∧ (∀ H, SqT K H b (ks.map V.str)) ∧ rep G v2 (ws : List Str) ∧ ks.length ≤ 100 ∧ (∀ k ∈ ks, k ∈ (["name", "plan", "way", "slot", "colour", "letter"] : List Str)) ∧ ws.length ≤ 90000 ∧ (∀ z ∈ ws, z.length ≤ 80000) ∧ Same G H ∧
  (∀ x v G' H', thingsO ks ws = some x → Gr M0 G H G' H' → rep G' v x → Q v H') ∧ (thingsO ks ws = none → BadW C E G H)
theorem r_read_things (T : Tg K mg) (B : BtX P w K mg base CB) (R : ReadersW w K mg) : DfX P w K mg base 7 "read_things" ["kinds", "words"] (spThingsX CB K) := by
  have R_BadText := B.i
  have X1 := r_read_thing T B R
  refine T.read_things.okX sc_read_things (fun vs H Q E h => ?_) (fun cdv f A outer s H vs Q E hr h => ?_)
  · obtain ⟨b, v2, ks, ws, G, rfl, _⟩ := h
    rfl
  obtain ⟨b, v2, ks, ws, G, rfl, hS, r2, h100, hkk, hw9, hww, i, q, bad⟩ := h
  have bl := T.bl
  refine ⟨_, (pss_cons (ps_if (pt_cmpR op_ne (pe_callB (call_lenK (K := K) rfl) (by rfl) (bl "len" (by decide)) (by decide +kernel) (pa_cons (pv 1) pa_nil)) (pe_callB (call_lenK (K := K) rfl) (by rfl) (bl "len" (by decide)) (by decide +kernel) (pa_cons (pv 0) pa_nil)) (nomark _))
      (pss_one (L2N.ps_raise rfl (L2N.takes_of rfl rfl rfl rfl) (pmk_mcE R_BadText hr (by first | decide | omega) (by rfl) (pa_cons pe_int pa_nil))))
      pss_nil)
    (pss_one (ps_ret (pe_lcX (own := [("kind", 2), ("word", 3)]) rfl rfl (L2N.takes_of rfl rfl rfl rfl) (fun _ _ _ _ h => h) rfl sc_read_things.nd (pi_zipM (K := K) rfl (by rfl) (bl "zip" (by decide)) (pa_cons (pv 0) (pa_cons (pv 1) pa_nil))) (blkOk_by (own := [("kind", 2), ("word", 3)]) (N := N_read_things) (sc := defScope s_read_things) (by decide +kernel)) (fun _ _ _ _ _ => (pg_tupK (K := K) (n := 2) rfl (pg_tup rfl (pgs_cons (pg_name (i := 2) sc_read_things.nd rfl (by first | exact .inl rfl | exact .inr rfl)) (pgs_cons (pg_name (i := 3) sc_read_things.nd rfl (by first | exact .inl rfl | exact .inr rfl)) pgs_nil))))) (fun _ _ _ _ _ => pts_nil) (fun _ _ _ _ _ => (pe_dfB X1 hr (by first | decide | omega) (by rfl) (pa_cons (pv 2) (pa_cons (pv 3) pa_nil)))))))), ?_⟩
  have lk : Ev (tCB (rLen K) (tCons (tVar 0) tNil)) (start N_read_things [.ref b, v2]) G ((ks.map V.str).length : Int) := fun H i Q q => ⟨.ref b, rfl, b, ks.map V.str, rfl, .inr (hS H), q _ G H (Gr.refl i) rfl⟩
  refine sq_ifn (G := G) (et_test (ev_neI (ev_lenL (xs := ws) (ev_var rfl r2)) lk)) i (fun hb G1 H1 g1 => ?_) (fun hb G1 H1 g1 => ?_)
  · refine rz_bad ((bad ?_).step g1) g1.i
    unfold thingsO
    rw [if_neg]
    rintro ⟨h, _⟩
    rw [List.length_map, h] at hb
    simp at hb
  · have hlen : ks.length = ws.length := by
      rw [List.length_map] at hb
      have hb : (!decide ((ws.length : Int) = (ks.length : Int))) = false := hb
      have := of_decide_eq_true ((Bool.not_eq_false' _).mp hb)
      omega
    have eo : optL (fun kw : Str × Str => rdB (thOk kw.1) (thgM kw.1) kw.2) (ks.zip ws) = thingsO ks ws := by
      have := optL_all (fun kw : Str × Str => thOk kw.1 kw.2) (fun kw => thgM kw.1 kw.2) (ks.zip ws)
      unfold thingsO
      refine Eq.trans this ?_
      by_cases h : ((ks.zip ws).all fun kw => thOk kw.1 kw.2) = true
      · rw [if_pos h, if_pos ⟨hlen, h⟩]
      · rw [if_neg h, if_neg fun z => h z.2]
    refine st_retO (G := G1) (C := CB) (W := fun c d H => E c d H) (o := thingsO ks ws) (EvBd.cast (evb_lc (xs := ks.zip ws) (f := fun kw => rdB (thOk kw.1) (thgM kw.1) kw.2) (ei_zipK (i := 0) rfl hS (ev_var rfl (Rep.mono g1.g r2))) (by rw [List.length_zip]; omega) ?_) eo) g1.i (fun x v G' H' e g r => q x v G' H' e (g1.trans g) r) (fun e => (bad e).step g1)
    intro kw hkw v1 G9 s9 rx
    have hm := List.of_mem_zip hkw
    exact gb_pair' rx fun u1 w1 ru rw' => ⟨rfl, evb_call2 (E := fun _ c d H => E c d H) (f := fun k => rdB (thOk k) (thgM k)) (ev_var rfl ru) (ev_var rfl rw') ⟨hkk _ hm.1, hww _ hm.2⟩⟩
theorem deedM_o (z : Str) : deedM z = match Txt.split z " " with
    | [] => none
    | w :: ws => match kindsOf w with
      | none => none
      | some ks => (thingsO ks ws).map (Th.s w :: ·) := by
  unfold deedM thingsO
  cases Txt.split z " " with
  | nil => rfl
  | cons w ws =>
    simp only
    cases kindsOf w with
    | none => rfl
    | some ks =>
      simp only
      by_cases h : ks.length = ws.length ∧ ((ks.zip ws).all fun kw => thOk kw.1 kw.2) = true
      · rw [if_pos h, if_pos h]; rfl
      · rw [if_neg h, if_neg h]; rfl
end
abbrev MissW (w : World) (K : Fg) (mg : Str → Option Value) : Prop := ∀ a, mg "THINGS" = some (.ref a) → ∀ z, kindsOf z = none → KMiss K w a z
theorem ev_notInKM {σ : L2.St} {G : Hp} {ta : TE} {K : Fg} {w : World} {a : Addr} {z : Str} (ha : Ev ta σ G z) (hk : KMiss K w a z) (hs : (a == sysModules) = false) : Ev (tOp (rInKD K w true) ta (tC (.ref a))) σ G true := fun H i Q q => ha H i _ fun u G1 H1 g1 k1 => ⟨a, z, rep_str k1, rfl, hs, .inr ⟨hk, q _ G1 H1 g1 rfl⟩⟩
section
variable {P : Program} {w : World} {K : Fg} {mg : Str → Option Value} {base : Heap} {CB : Addr}
theorem kinds_six0 {x : Str} {ks : List Str} (h : kindsOf x = some ks) : ∀ k ∈ ks, k ∈ (["name", "plan", "way", "slot", "colour", "letter"] : List Str) := by
  have : ∀ e ∈ kindsL, ∀ k ∈ e.2, k ∈ (["name", "plan", "way", "slot", "colour", "letter"] : List Str) := by decide +kernel
  exact this _ (kinds_mem h)
theorem r_read_deed (T : Tg K mg) (B : BtX P w K mg base CB) (R : ReadersW w K mg) (O : ThingsW w K mg) (Z : MissW w K mg) : DfX P w K mg base 8 "read_deed" ["text"] (spRd CB (fun (z : Str) => z.length ≤ 8000) (fun z => (deedM z).map Tup.mk)) := by
  have R_BadText := B.i
  have X1 := r_read_things T B R
  obtain ⟨a_THINGS, m_THINGS, hs, hkO⟩ := O
  refine T.read_deed.okX sc_read_deed len_spRd (fun cdv f A outer s H vs Q E hr h => ?_)
  obtain ⟨v, z, G, rfl, i, r1, hl, q, bad⟩ := h
  have q : ∀ (x : Tup Th) (v' : V) (G' H' : Hp), (deedM z).map Tup.mk = some x → Gr M0 G H G' H' → rep G' v' x → Q v' H' := q
  have bad : (deedM z).map Tup.mk = none → BadW CB E G H := bad
  obtain ⟨w0, ws, hsp⟩ : ∃ w0 ws, Txt.split z " " = w0 :: ws := by
    cases e : Txt.split z " " with
    | nil => exact absurd e (split_ne tl_blank (by decide) z)
    | cons a l => exact ⟨a, l, rfl⟩
  have hm : deedM z = match kindsOf w0 with
      | none => none
      | some ks => (thingsO ks ws).map (Th.s w0 :: ·) := by
    rw [deedM_o, hsp]
  have hsl := PyProof.Rows.split_le z " "
  rw [hsp, List.length_cons] at hsl
  have hwl : ∀ y ∈ ws, y.length ≤ 80000 := fun y hy => by
    have := PyProof.Rows.part_short (x := z) (y := " ") (show y ∈ Txt.split z " " by rw [hsp]; exact List.mem_cons_of_mem _ hy)
    omega
  refine ⟨_, (pss_cons (ps_asg (pe_split (pv 0) pe_str) (pg_starL (K := K) rfl rfl (pgs_cons (pg_name (i := 1) sc_read_deed.nd rfl (by first | exact .inl rfl | exact .inr rfl)) (pgs_starred (pg_name (i := 2) sc_read_deed.nd rfl (by first | exact .inl rfl | exact .inr rfl)) pgs_nil))))
    (pss_cons (ps_if (pt_cmpR (op_notInKD (K := K) (w := w) rfl rfl) (pv 1) (pe_glob (v := .ref a_THINGS) (by rfl) m_THINGS rfl) (by rfl))
      (pss_one (L2N.ps_raise rfl (L2N.takes_of rfl rfl rfl rfl) (pmk_mcE R_BadText hr (by first | decide | omega) (by rfl) (pa_cons pe_int pa_nil))))
      pss_nil)
    (pss_cons (ps_set (i := 3) sc_read_deed.nd rfl (by first | exact .inl rfl | exact .inr rfl) (pe_dfS X1 hr (by first | decide | omega) (by rfl) (L2N.takes_of rfl rfl rfl rfl) (pa_cons (pe_ix ix_kdict (pe_glob (v := .ref a_THINGS) (by rfl) m_THINGS rfl) (pv 1) (fun _ _ => rfl)) (pa_cons (pv 2) pa_nil))))
    (pss_one (ps_ret (pe_tup (pa_cons (pv 1) (pa_starK (K := K) rfl (pv 3) pa_nil)))))))), ?_⟩
  refine sq_starL (G := G) (x := w0) (xs := ws) (Ev.cast (ev_splitS (a := z) (b := " ") (ev_var rfl r1) ev_str (by decide +kernel) (by omega)) hsp) i (by omega) (fun fv p G1 H1 g1 rf rw' => ?_)
  cases hk : kindsOf w0 with
  | none =>
    rw [hk] at hm
    refine sq_ifn (G := G1) (et_test (ev_notInKM (ev_var rfl rf) (Z _ m_THINGS w0 hk) hs)) g1.i (fun _ G2 H2 g2 => ?_) (fun hb _ _ _ => by cases hb)
    exact rz_bad ((bad (by rw [hm]; rfl)).step (g1.trans g2)) g2.i
  | some ks =>
    rw [hk] at hm
    have hm : deedM z = (thingsO ks ws).map (Th.s w0 :: ·) := hm
    obtain ⟨_, _, kl, _⟩ := kinds_facts hk
    obtain ⟨b, kd, hS⟩ := hkO _ (kinds_mem hk)
    have kd : KDct K w a_THINGS w0 (.ref b) := kd
    have hS : ∀ H, SqT K H b (ks.map V.str) := hS
    refine sq_ifn (G := G1) (et_test (ev_notInKD (z := w0) (ev_var rfl rf) kd hs)) g1.i (fun hb _ _ _ => by cases hb) (fun _ G2 H2 g2 => ?_)
    have rf2 := Rep.mono g2.g rf
    have rw2 := Rep.mono g2.g rw'
    refine sq_setO (G := G2) (C := CB) (W := fun c d H => E c d H) (o := thingsO ks ws) (fun H5 i5 Q5 q5 b5 => ?_) g2.i (fun ts tv G3 H3 et g3 rt => ?_) (fun e => (bad (by rw [hm, e]; rfl)).step (g1.trans g2))
    · cases rf2
      exact ⟨_, rfl, a_THINGS, w0, .ref b, rfl, rfl, kd, .ref p, rfl, b, .ref p, ks, ws, G2, rfl, hS, rw2, by omega, kinds_six0 hk, by omega, hwl, i5, fun x v G' H' e g r => q5 x v G' H' e g r, b5⟩
    · have rf3 := Rep.mono g3.g rf2
      have htl : ts.length ≤ 10000 := by
        unfold thingsO at et
        split at et
        · cases et
          rw [List.length_map, List.length_zip]; omega
        · cases et
      refine st_ret (G := G3) (x := Tup.mk (Th.s w0 :: ts)) (ev_tupStar (x := Th.s w0) (xs := ts) (fun H i Q q => ev_var (x := w0) rfl rf3 H i Q q) (ev_var rfl rt) htl) g3.i (fun v G' H' g r => q _ v G' H' (by rw [hm, et]; rfl) (((g1.trans g2).trans g3).trans g) r)
end


open TL (tl numL)

def isWhole (d : PyData) : Bool := isTy "int" d && !isTy "bool" d
section
variable {P : Program} {w : World} {K : Fg} {mg : Str → Option Value} {base : Heap}
theorem d_whole (T : Tx K mg "_law_whole" ["_law_found"] s__law_whole) (bl : Bl mg) : Df P w K mg base 1 "_law_whole" ["_law_found"] (sp1 (fun (_ : PyData) => True) isWhole) := by
  refine T.ok sc__law_whole (fun vs H Q E h => ?_) (fun cdv f A outer s H vs Q E hr h => ?_)
  · obtain ⟨v, x, G, rfl, _⟩ := h
    rfl
  obtain ⟨v, x, G, rfl, i, r1, _, q⟩ := h
  refine ⟨_, (pss_one (ps_ret (pe_and (pe_callB (call_isiKK (K := K) rfl) (by rfl) (bl "isinstance" (by decide)) (by decide +kernel) (pa_cons (pv 0) (pa_cons (pe_bltn (v := .ty "int") (by rfl) (bl "int" (by decide)) boot_int rfl) pa_nil))) (pe_one (pe_not (pe_callB (call_isiKK (K := K) rfl) (by rfl) (bl "isinstance" (by decide)) (by decide +kernel) (pa_cons (pv 0) (pa_cons (pe_bltn (v := .ty "bool") (by rfl) (bl "bool" (by decide)) boot_bool rfl) pa_nil)))))))), ?_⟩
  refine st_ret (G := G) (ev_andV (ev_isi (d := x) (by walk_at "pf_ev") (by decide)) fun _ => ev_notV (ev_isi (d := x) (by walk_at "pf_ev") (by decide))) i (fun v G' H' g r => q v G' H' g r)
theorem an_none (n : Nat) (f : PyData) : alikeN n f .none = isNone f := by cases n <;> cases f <;> simp [alikeN, isNone]
theorem an_bool (n : Nat) (f : PyData) (b : Bool) : (isTy "bool" f && alikeN n f (.bool b)) = alikeN n f (.bool b) := by cases n <;> cases f <;> simp [alikeN, isTy, tyD]
theorem an_str (n : Nat) (f : PyData) (b : Str) : (isTy "str" f && alikeN n f (.str b)) = alikeN n f (.str b) := by cases n <;> cases f <;> simp [alikeN, isTy, tyD]
theorem an_int (n : Nat) (f : PyData) (b : Int) : (isWhole f && alikeN n f (.int b)) = alikeN n f (.int b) := by cases n <;> cases f <;> simp [alikeN, isTy, tyD, isWhole]
theorem or_nd {a : Bool} {p : Prop} [Decidable p] (ha : a = true) (h : (!a || !decide p) = true) : ¬ p := by
  subst ha
  intro hp
  rw [decide_eq_true hp] at h
  cases h
theorem or_np {a : Bool} {p : Prop} [Decidable p] (h : (!a || !decide p) = false) : p := by
  by_cases hp : p
  · exact hp
  · rw [decide_eq_false hp, Bool.not_false, Bool.or_true] at h
    cases h
theorem an_len1 {m : Nat} {fs ds : List PyData} (h : ¬ ((fs.length : Int) = ds.length)) : alikeN (m + 1) (.list fs) (.list ds) = false := by
  rw [alikeN, decide_eq_false (by omega)]; rfl
theorem an_len2 {m : Nat} {fs ds : List PyData} (h : ¬ ((fs.length : Int) = ds.length)) : alikeN (m + 1) (.tuple fs) (.tuple ds) = false := by
  rw [alikeN, decide_eq_false (by omega)]; rfl
theorem an_eq1 {m : Nat} {fs ds : List PyData} (h : fs.length = ds.length) : ((rng 0 (ds.length : Int)).map fun k => alikeN m (ix fs k) (ix ds k)).all id = alikeN (m + 1) (.list fs) (.list ds) := by
  rw [alikeN, decide_eq_true h, Bool.true_and]
theorem an_eq2 {m : Nat} {fs ds : List PyData} (h : fs.length = ds.length) : ((rng 0 (ds.length : Int)).map fun k => alikeN m (ix fs k) (ix ds k)).all id = alikeN (m + 1) (.tuple fs) (.tuple ds) := by
  rw [alikeN, decide_eq_true h, Bool.true_and]
theorem eq_bool (n : Nat) {f : PyData} {b : Bool} (h : isTy "bool" f = true) : ∀ G v u, RD G f v → RD G (.bool b) u → scal v u = true ∧ decide (v = u) = alikeN n f (.bool b) := by
  intro G v u h1 h2
  cases f with
  | bool c =>
    rw [show v = .bl c from h1, show u = .bl b from h2, v_bl_eq]
    exact ⟨rfl, by cases n <;> simp [alikeN]⟩
  | _ => simp [isTy, tyD] at h
theorem eq_str (n : Nat) {f : PyData} {b : Str} (h : isTy "str" f = true) : ∀ G v u, RD G f v → RD G (.str b) u → scal v u = true ∧ decide (v = u) = alikeN n f (.str b) := by
  intro G v u h1 h2
  cases f with
  | str c =>
    rw [show v = .str c from h1, show u = .str b from h2, v_str_eq]
    exact ⟨rfl, by cases n <;> simp [alikeN]⟩
  | _ => simp [isTy, tyD] at h
theorem eq_int (n : Nat) {f : PyData} {b : Int} (h : isWhole f = true) : ∀ G v u, RD G f v → RD G (.int b) u → scal v u = true ∧ decide (v = u) = alikeN n f (.int b) := by
  intro G v u h1 h2
  cases f with
  | int c =>
    rw [show v = .int c from h1, show u = .int b from h2, v_int_eq]
    exact ⟨rfl, by cases n <;> simp [alikeN]⟩
  | _ => simp [isTy, tyD, isWhole] at h
theorem d_alike (T : Tx K mg "_law_alike" ["_law_found", "_law_due"] s__law_alike) (TW : Tx K mg "_law_whole" ["_law_found"] s__law_whole) (bl : Bl mg) : ∀ n : Nat, Df P w K mg base (n + 2) "_law_alike" ["_law_found", "_law_due"]
    (sp2 (fun (_ d : PyData) => OkN n d) (alikeN n)) := by
  have D__law_whole := d_whole (P := P) (w := w) (base := base) TW bl
  have main : ∀ n : Nat, (∀ m, n = m + 1 → Df P w K mg base (m + 2) "_law_alike" ["_law_found", "_law_due"] (sp2 (fun (_ d : PyData) => OkN m d) (alikeN m))) →
      Df P w K mg base (n + 2) "_law_alike" ["_law_found", "_law_due"] (sp2 (fun (_ d : PyData) => OkN n d) (alikeN n)) := by
    intro n IH
    refine T.ok (k := n + 1) sc__law_alike (fun vs H Q E h => ?_) (fun cdv f A outer s H vs Q E hr h => ?_)
    · obtain ⟨v, x, v2, x2, G, rfl, _⟩ := h
      rfl
    obtain ⟨v, x, v2, x2, G, rfl, i, r1, r2, ok, q⟩ := h
    by_cases hs : isSeq x2 = true
    · obtain ⟨m, rfl⟩ : ∃ m, n = m + 1 := by
        cases n with
        | zero => rw [ok.1] at hs; cases hs
        | succ m => exact ⟨m, rfl⟩
      have D__law_alike := IH m rfl
      refine ⟨_, (pss_cons (ps_if (pt_cmpR op_isN (pv 1) pe_non (nomark _))
      (pss_one (ps_ret (pe_cmpR op_isN (pv 0) pe_non (nomark _))))
      pss_nil)
    (pss_cons (ps_if (pt_val (pe_callB (call_isiKK (K := K) rfl) (by rfl) (bl "isinstance" (by decide)) (by decide +kernel) (pa_cons (pv 1) (pa_cons (pe_bltn (v := .ty "bool") (by rfl) (bl "bool" (by decide)) boot_bool rfl) pa_nil))))
      (pss_one (ps_ret (pe_and (pe_callB (call_isiKK (K := K) rfl) (by rfl) (bl "isinstance" (by decide)) (by decide +kernel) (pa_cons (pv 0) (pa_cons (pe_bltn (v := .ty "bool") (by rfl) (bl "bool" (by decide)) boot_bool rfl) pa_nil))) (pe_one (pe_cmpR op_eq (pv 0) (pv 1) (nomark _))))))
      pss_nil)
    (pss_cons (ps_if (pt_val (pe_callB (call_isiKK (K := K) rfl) (by rfl) (bl "isinstance" (by decide)) (by decide +kernel) (pa_cons (pv 1) (pa_cons (pe_bltn (v := .ty "int") (by rfl) (bl "int" (by decide)) boot_int rfl) pa_nil))))
      (pss_one (ps_ret (pe_and (pe_df D__law_whole hr (by first | decide | omega) (by rfl) (pa_cons (pv 0) pa_nil)) (pe_one (pe_cmpR op_eq (pv 0) (pv 1) (nomark _))))))
      pss_nil)
    (pss_cons (ps_if (pt_val (pe_callB (call_isiKK (K := K) rfl) (by rfl) (bl "isinstance" (by decide)) (by decide +kernel) (pa_cons (pv 1) (pa_cons (pe_bltn (v := .ty "str") (by rfl) (bl "str" (by decide)) boot_str rfl) pa_nil))))
      (pss_one (ps_ret (pe_and (pe_callB (call_isiKK (K := K) rfl) (by rfl) (bl "isinstance" (by decide)) (by decide +kernel) (pa_cons (pv 0) (pa_cons (pe_bltn (v := .ty "str") (by rfl) (bl "str" (by decide)) boot_str rfl) pa_nil))) (pe_one (pe_cmpR op_eq (pv 0) (pv 1) (nomark _))))))
      pss_nil)
    (pss_cons (ps_if (PW.pt (pw_or (pt_cmpR op_ne (pe_callB (call_isiKK (K := K) rfl) (by rfl) (bl "isinstance" (by decide)) (by decide +kernel) (pa_cons (pv 1) (pa_cons (pe_bltn (v := .ty "list") (by rfl) (bl "list" (by decide)) boot_list rfl) pa_nil))) (pe_callB (call_isiKK (K := K) rfl) (by rfl) (bl "isinstance" (by decide)) (by decide +kernel) (pa_cons (pv 0) (pa_cons (pe_bltn (v := .ty "list") (by rfl) (bl "list" (by decide)) boot_list rfl) pa_nil))) (nomark _)) (pw_or1 (pt_cmpR op_ne (pe_callB (call_isiKK (K := K) rfl) (by rfl) (bl "isinstance" (by decide)) (by decide +kernel) (pa_cons (pv 1) (pa_cons (pe_bltn (v := .ty "tuple") (by rfl) (bl "tuple" (by decide)) boot_tuple rfl) pa_nil))) (pe_callB (call_isiKK (K := K) rfl) (by rfl) (bl "isinstance" (by decide)) (by decide +kernel) (pa_cons (pv 0) (pa_cons (pe_bltn (v := .ty "tuple") (by rfl) (bl "tuple" (by decide)) boot_tuple rfl) pa_nil))) (nomark _)))))
      (pss_one (ps_ret pe_bl))
      pss_nil)
    (pss_cons (ps_if (PW.pt (pw_or (pt_not (pt_val (pe_callB (call_isiTK (K := K) rfl) (by rfl) (bl "isinstance" (by decide)) (by decide +kernel) (pa_cons (pv 0) (pa_cons (pe_tup (pa_cons (pe_bltn (v := .ty "list") (by rfl) (bl "list" (by decide)) boot_list rfl) (pa_cons (pe_bltn (v := .ty "tuple") (by rfl) (bl "tuple" (by decide)) boot_tuple rfl) pa_nil))) pa_nil))))) (pw_or1 (pt_cmpR op_ne (pe_callB (call_lenK (K := K) rfl) (by rfl) (bl "len" (by decide)) (by decide +kernel) (pa_cons (pv 0) pa_nil)) (pe_callB (call_lenK (K := K) rfl) (by rfl) (bl "len" (by decide)) (by decide +kernel) (pa_cons (pv 1) pa_nil)) (nomark _)))))
      (pss_one (ps_ret pe_bl))
      pss_nil)
    (pss_one (ps_ret (pe_callB (cr_allK (K := K) rfl rfl) (by rfl) (bl "all" (by decide)) (by decide +kernel) (pa_cons (pe_lc (own := [("_law_at", 2)]) rfl sc__law_alike.nd (pi_range1 (by rfl) (bl "range" (by decide)) (pa_cons (pe_callB (call_lenK (K := K) rfl) (by rfl) (bl "len" (by decide)) (by decide +kernel) (pa_cons (pv 1) pa_nil)) pa_nil)) (blkOk_by (own := [("_law_at", 2)]) (N := N__law_alike) (sc := defScope s__law_alike) (by decide +kernel)) (fun _ _ _ _ _ => (pg_name (i := 2) sc__law_alike.nd rfl (by first | exact .inl rfl | exact .inr rfl))) (fun _ _ _ _ _ => pts_nil) (fun _ _ _ _ _ => (pe_df D__law_alike hr (by first | decide | omega) (by rfl) (pa_cons (pe_ix (ix_seqK (K := K) rfl) (pv 0) (pv 2) (fun _ _ => rfl)) (pa_cons (pe_ix (ix_seqK (K := K) rfl) (pv 1) (pv 2) (fun _ _ => rfl)) pa_nil))))) pa_nil)))))))))), ?_⟩
      have no : ∀ {A : Prop}, (isNone x2 = true ∨ isTy "bool" x2 = true ∨ isTy "int" x2 = true ∨ isTy "str" x2 = true) → A := by
        intro A h
        exfalso
        cases x2 <;> simp [isTy, tyD, isSeq, isNone] at h hs
      refine sq_ifn (G := G) (et_test (ev_isN (d := x2) (by walk_at "pf_ev"))) i (fun hb _ _ _ => no (.inl hb)) (fun _ G1 H1 g1 => ?_)
      refine sq_ifn (G := G1) (et_B (ev_isi (d := x2) (by walk_at "pf_ev") (by decide))) g1.i (fun hb _ _ _ => no (.inr (.inl hb))) (fun _ G2 H2 g2 => ?_)
      refine sq_ifn (G := G2) (et_B (ev_isi (d := x2) (by walk_at "pf_ev") (by decide))) g2.i (fun hb _ _ _ => no (.inr (.inr (.inl hb)))) (fun _ G3 H3 g3 => ?_)
      refine sq_ifn (G := G3) (et_B (ev_isi (d := x2) (by walk_at "pf_ev") (by decide))) g3.i (fun hb _ _ _ => no (.inr (.inr (.inr hb)))) (fun _ G4 H4 g4 => ?_)
      have g14 := ((g1.trans g2).trans g3).trans g4
      refine sq_ifn (G := G4) (et_or (et_test (ev_neB (ev_isi (d := x2) (by walk_at "pf_ev") (by decide)) (ev_isi (d := x) (by walk_at "pf_ev") (by decide)))) (fun _ => et_test (ev_neB (ev_isi (d := x2) (by walk_at "pf_ev") (by decide)) (ev_isi (d := x) (by walk_at "pf_ev") (by decide))))) g4.i (fun hb G' H' g => ?_) (fun hb5 G5 H5 g5 => ?_)
      · refine st_ret (G := G') ev_bl g.i (fun v G2 H2 g2 r => q v G2 H2 ((g14.trans g).trans g2) ?_)
        have e : alikeN (m + 1) x x2 = false := by
          cases x2 <;> cases x <;> simp [isTy, tyD, isSeq, alikeN] at hb hs ⊢
        rw [e]; exact r
      have g15 := g14.trans g5
      have hk2 : (∃ fs ds, x = .list fs ∧ x2 = .list ds) ∨ (∃ fs ds, x = .tuple fs ∧ x2 = .tuple ds) := by
        cases x2 <;> cases x <;> simp [isTy, tyD, isSeq] at hb5 hs ⊢
      have hk : isSeq x = true := by
        rcases hk2 with ⟨fs, ds, rfl, rfl⟩ | ⟨fs, ds, rfl, rfl⟩ <;> rfl
      refine sq_ifn (G := G5) (et_or (et_not (et_B (ev_isiT (d := x) (by walk_at "pf_ev") (by decide) (by decide)))) (fun _ => et_test (ev_neI (ev_lenD (d := x) (by walk_at "pf_ev") hk) (ev_lenD (d := x2) (by walk_at "pf_ev") hs)))) g5.i (fun hb G' H' g => ?_) (fun hb6 G6 H6 g6 => ?_)
      · refine st_ret (G := G') ev_bl g.i (fun v G2 H2 g2 r => q v G2 H2 ((g15.trans g).trans g2) ?_)
        have e : alikeN (m + 1) x x2 = false := by
          rcases hk2 with ⟨fs, ds, rfl, rfl⟩ | ⟨fs, ds, rfl, rfl⟩
          · exact an_len1 (or_nd (by simp [isTy, tyD]) hb)
          · exact an_len2 (or_nd (by simp [isTy, tyD]) hb)
        rw [e]; exact r
      have hl : (itemsD x).length = (itemsD x2).length := by
        rcases hk2 with ⟨fs, ds, rfl, rfl⟩ | ⟨fs, ds, rfl, rfl⟩
        · have z : ((fs.length : Int) = ds.length) := or_np hb6
          exact Int.ofNat.inj z
        · have z : ((fs.length : Int) = ds.length) := or_np hb6
          exact Int.ofNat.inj z
      have e : ((rng 0 ((itemsD x2).length : Int)).map fun k => alikeN m (ix (itemsD x) k) (ix (itemsD x2) k)).all id = alikeN (m + 1) x x2 := by
        rcases hk2 with ⟨fs, ds, rfl, rfl⟩ | ⟨fs, ds, rfl, rfl⟩
        · exact an_eq1 hl
        · exact an_eq2 hl
      have okl := ok.2.1
      refine st_ret (G := G6) ((ev_all (ev_lc (f := fun k => alikeN m (ix (itemsD x) k) (ix (itemsD x2) k)) (ei_r1 (ev_lenD (d := x2) (by walk_at "pf_ev") hs) (by omega)) (by rw [rng_len]; omega) ?_)).cast e) g6.i (fun v G2 H2 g2 r => q v G2 H2 ((g15.trans g6).trans g2) r)
      intro c hc v4 G4' s4 r4
      rw [rng_mem] at hc
      refine gb_name ⟨rfl, ?_⟩
      refine ev_call2 (x := ix (itemsD x) c) (x2 := ix (itemsD x2) c) (ev_ixD (d := x) ?_ ?_ hk (by omega)) (ev_ixD (d := x2) ?_ ?_ hs (by omega)) ?_
      all_goals try walk_at "pf_ev"
      have hc2 : c.toNat < (itemsD x2).length := by omega
      have ec : ix (itemsD x2) c = (itemsD x2)[c.toNat] := by unfold ix; rw [List.getElem?_eq_getElem hc2]; rfl
      rw [ec]
      exact ok.2.2 _ (List.getElem_mem hc2)
    · have hs : isSeq x2 = false := by simpa using hs
      refine ⟨_, (pss_cons (ps_if (pt_cmpR op_isN (pv 1) pe_non (nomark _))
      (pss_one (ps_ret (pe_cmpR op_isN (pv 0) pe_non (nomark _))))
      pss_nil)
    (pss_cons (ps_if (pt_val (pe_callB (call_isiKK (K := K) rfl) (by rfl) (bl "isinstance" (by decide)) (by decide +kernel) (pa_cons (pv 1) (pa_cons (pe_bltn (v := .ty "bool") (by rfl) (bl "bool" (by decide)) boot_bool rfl) pa_nil))))
      (pss_one (ps_ret (pe_and (pe_callB (call_isiKK (K := K) rfl) (by rfl) (bl "isinstance" (by decide)) (by decide +kernel) (pa_cons (pv 0) (pa_cons (pe_bltn (v := .ty "bool") (by rfl) (bl "bool" (by decide)) boot_bool rfl) pa_nil))) (pe_one (pe_cmpR op_eq (pv 0) (pv 1) (nomark _))))))
      pss_nil)
    (pss_cons (ps_if (pt_val (pe_callB (call_isiKK (K := K) rfl) (by rfl) (bl "isinstance" (by decide)) (by decide +kernel) (pa_cons (pv 1) (pa_cons (pe_bltn (v := .ty "int") (by rfl) (bl "int" (by decide)) boot_int rfl) pa_nil))))
      (pss_one (ps_ret (pe_and (pe_df D__law_whole hr (by first | decide | omega) (by rfl) (pa_cons (pv 0) pa_nil)) (pe_one (pe_cmpR op_eq (pv 0) (pv 1) (nomark _))))))
      pss_nil)
    (pss_cons (ps_if (pt_val (pe_callB (call_isiKK (K := K) rfl) (by rfl) (bl "isinstance" (by decide)) (by decide +kernel) (pa_cons (pv 1) (pa_cons (pe_bltn (v := .ty "str") (by rfl) (bl "str" (by decide)) boot_str rfl) pa_nil))))
      (pss_one (ps_ret (pe_and (pe_callB (call_isiKK (K := K) rfl) (by rfl) (bl "isinstance" (by decide)) (by decide +kernel) (pa_cons (pv 0) (pa_cons (pe_bltn (v := .ty "str") (by rfl) (bl "str" (by decide)) boot_str rfl) pa_nil))) (pe_one (pe_cmpR op_eq (pv 0) (pv 1) (nomark _))))))
      pss_nil)
    pss_never)))), ?_⟩
      refine sq_ifn (G := G) (et_test (ev_isN (d := x2) (by walk_at "pf_ev"))) i (fun hb G' H' g => ?_) (fun hb G1 H1 g1 => ?_)
      · have e : x2 = .none := by cases x2 <;> first | rfl | cases hb
        subst e
        refine st_ret (G := G') (ev_isN (d := x) (by walk_at "pf_ev")) g.i (fun v G2 H2 g2 r => q v G2 H2 (g.trans g2) (by rw [an_none]; exact r))
      refine sq_ifn (G := G1) (et_B (ev_isi (d := x2) (by walk_at "pf_ev") (by decide))) g1.i (fun hb G' H' g => ?_) (fun hb2 G2 H2 g2 => ?_)
      · obtain ⟨b, rfl⟩ : ∃ b, x2 = .bool b := by cases x2 <;> first | exact ⟨_, rfl⟩ | simp [isTy, tyD] at hb
        refine st_ret (G := G') ((ev_andV (ev_isi (d := x) (by walk_at "pf_ev") (by decide)) (fun h => ev_eqD (d := x) (e := .bool b) (by walk_at "pf_ev") (by walk_at "pf_ev") _ (eq_bool n h))).cast (an_bool n x b)) g.i (fun v G2 H2 g2 r => q v G2 H2 ((g1.trans g).trans g2) r)
      have g12 := g1.trans g2
      refine sq_ifn (G := G2) (et_B (ev_isi (d := x2) (by walk_at "pf_ev") (by decide))) g2.i (fun hb G' H' g => ?_) (fun hb3 G3 H3 g3 => ?_)
      · obtain ⟨b, rfl⟩ : ∃ b, x2 = .int b := by cases x2 <;> first | exact ⟨_, rfl⟩ | simp [isTy, tyD] at hb hb2
        refine st_ret (G := G') ((ev_andV (ev_call1 (x := x) (by walk_at "pf_ev") trivial) (fun h => ev_eqD (d := x) (e := .int b) (by walk_at "pf_ev") (by walk_at "pf_ev") _ (eq_int n h))).cast (an_int n x b)) g.i (fun v G2 H2 g2 r => q v G2 H2 ((g12.trans g).trans g2) r)
      have g13 := g12.trans g3
      refine sq_ifn (G := G3) (et_B (ev_isi (d := x2) (by walk_at "pf_ev") (by decide))) g3.i (fun hb G' H' g => ?_) (fun hb4 G4 H4 g4 => ?_)
      · obtain ⟨b, rfl⟩ : ∃ b, x2 = .str b := by cases x2 <;> first | exact ⟨_, rfl⟩ | simp [isTy, tyD] at hb hb2
        refine st_ret (G := G') ((ev_andV (ev_isi (d := x) (by walk_at "pf_ev") (by decide)) (fun h => ev_eqD (d := x) (e := .str b) (by walk_at "pf_ev") (by walk_at "pf_ev") _ (eq_str n h))).cast (an_str n x b)) g.i (fun v G2 H2 g2 r => q v G2 H2 ((g13.trans g).trans g2) r)
      · exfalso
        have okd : isDict x2 = false := by cases n <;> first | exact ok.2 | exact ok.1
        cases x2 <;> simp [isTy, tyD, isSeq, isNone, isDict] at hb hb2 hb3 hb4 hs okd
  intro n
  induction n with
  | zero => exact main 0 fun m h => by cases h
  | succ n ih => exact main (n + 1) fun m h => by cases h; exact ih
end


section
variable {P : Program} {w : World} {K : Fg} {mg : Str → Option Value} {base : Heap}
theorem d_pull (T : Tx K mg "_law_pull" ["_law_bag_here", "_law_many"] s__law_pull) (bl : Bl mg) : Df P w K mg base 1 "_law_pull" ["_law_bag_here", "_law_many"] spPull := by
  refine T.ok sc__law_pull (fun vs H Q E h => ?_) (fun cdv f A outer s H vs Q E hr h => ?_)
  · obtain ⟨b, many, G, rfl, _⟩ := h
    rfl
  obtain ⟨b, many, G, rfl, i, ⟨nb, cv, c1, c2, c3, cells, eb, rc, p1, p2, p3, p4⟩, hm, hl, q⟩ := h
  refine ⟨_, (pss_cons (ps_if (pt_cmpR op_lt (pe_ix (ix_listK (K := K) rfl) (pv 0) pe_int (fun _ _ => rfl)) pe_int (nomark _))
      (pss_cons (ps_augS (pv 0) pe_int (get_listK (K := K) rfl) pe_int ip_add set_list)
      (pss_cons (ps_set (i := 2) sc__law_pull.nd rfl (by first | exact .inl rfl | exact .inr rfl) (pe_ix (ix_listK (K := K) rfl) (pv 0) pe_int (fun _ _ => rfl)))
      (C8.pss_cut (ps_if (pt_cmpR op_le (pe_ix (ix_listK (K := K) rfl) (pv 0) pe_int (fun _ _ => rfl)) (pe_callB (call_lenK (K := K) rfl) (by rfl) (bl "len" (by decide)) (by decide +kernel) (pa_cons (pe_ix (ix_listK (K := K) rfl) (pv 0) pe_int (fun _ _ => rfl)) pa_nil)) (nomark _))
        (pss_cons (ps_set (i := 2) sc__law_pull.nd rfl (by first | exact .inl rfl | exact .inr rfl) (pe_ix (ix_listK (K := K) rfl) (pe_ix (ix_listK (K := K) rfl) (pv 0) pe_int (fun _ _ => rfl)) (pe_op op_sub (pe_ix (ix_listK (K := K) rfl) (pv 0) pe_int (fun _ _ => rfl)) pe_int) (fun _ _ => rfl)))
        (pss_one (ps_if (pt_cmpR op_ge (pv 2) (pe_op op_pow pe_int pe_int) (nomark _))
          (pss_cons (ps_asg (pe_op op_fdivW (pv 2) (pv 1)) (pg_sub (pv 0) pe_int set_list))
          (pss_one (ps_ret (pe_op op_mod (pv 2) (pv 1)))))
          pss_nil)))
        pss_nil)
      (pss_cons (ps_set (i := 3) sc__law_pull.nd rfl (by first | exact .inl rfl | exact .inr rfl) (pe_op op_mod (pe_op op_add (pe_op op_add (pv 2) (pe_op op_mul (pe_ix (ix_listK (K := K) rfl) (pv 0) pe_int (fun _ _ => rfl)) pe_int)) (pe_op op_mul (pe_ix (ix_listK (K := K) rfl) (pv 0) pe_int (fun _ _ => rfl)) pe_int)) pe_int))
      (pss_cons (ps_set (i := 3) sc__law_pull.nd rfl (by first | exact .inl rfl | exact .inr rfl) (pe_op op_mod (pe_op op_add (pe_op op_mul (pv 3) (pv 3)) pe_int) pe_int))
      (pss_one (ps_ret (pe_op op_mod (pe_op op_fdivW (pe_op op_mod (pe_op op_add (pe_op op_mul (pv 3) (pv 3)) (pe_ix (ix_listK (K := K) rfl) (pv 0) pe_int (fun _ _ => rfl))) pe_int) pe_int) (pv 1)))))))))
      pss_nil)
    (pss_cons (ps_set (i := 4) sc__law_pull.nd rfl (by first | exact .inl rfl | exact .inr rfl) (pe_op op_mod (pe_ix (ix_listK (K := K) rfl) (pv 0) pe_int (fun _ _ => rfl)) (pv 1)))
    (pss_cons (ps_asg (pe_op op_fdivW (pe_ix (ix_listK (K := K) rfl) (pv 0) pe_int (fun _ _ => rfl)) (pv 1)) (pg_sub (pv 0) pe_int set_list))
    (pss_one (ps_ret (pv 4)))))), ?_⟩
  have cd : CDivW 0 many := ⟨hm, hl⟩
  have c19 : CDivW 0 19 := ⟨by decide, by decide⟩
  have ia : Same (upd G b (.lst [cv, .int c1, .int c2, .int c3])) H := same_still i eb
  have sG : ∀ o, Same G (upd G b o) := fun o => same_new nb
  refine sq_ifF (G := G) (et_test (ev_lt (ev_at (i := 0) (n := 2) rfl upd_same rfl rfl) ev_int)) ia i (fun hb H1 g1 s1 => ?_) (fun hb H1 g1 s1 => ?_)
  · -- the next cell
    refine sq_up (i := 0) (n := 1) (a := c1) (k := 1) rfl (s1 _ _ eb) rfl ?_
    have i0 : Same G (upd H1 b (.lst [cv, .int (c1 + 1), .int c2, .int c3])) := same_mut g1.i nb
    have e0 : (upd H1 b (.lst [cv, .int (c1 + 1), .int c2, .int c3])) b = some (.lst [cv, .int (c1 + 1), .int c2, .int c3]) := upd_same
    have gb0 : Gr (Mb b) G H G (upd H1 b (.lst [cv, .int (c1 + 1), .int c2, .int c3])) := gr_bag (gr_b0 g1) nb
    show tSeq _ _ _ _ (upd H1 b (.lst [cv, .int (c1 + 1), .int c2, .int c3]))
    generalize upd H1 b (.lst [cv, .int (c1 + 1), .int c2, .int c3]) = Ha at i0 e0 gb0
    have ea : ∀ {H : Hp}, Same G H → H b = some (.lst [cv, .int (c1 + 1), .int c2, .int c3]) → Same (upd G b (.lst [cv, .int (c1 + 1), .int c2, .int c3])) H := fun i e => same_still i e
    refine sq_setF (G := G) (ev_at (x := c1 + 1) (i := 0) (n := 1) rfl (upd_same (H := G)) rfl rfl) (ea i0 e0) i0 (fun v H2 g2 s2 r2 => ?_)
    cases r2
    have e2 := s2 _ _ e0
    refine sq_cut (fun σ' H' => ∃ seed : Int, 0 ≤ seed ∧ σ' = [some (.ref b), some (.int many), some (.int seed), none, none] ∧ Same H2 H') ?_ ?_
    · refine st_ifF (G := G) (et_test (ev_le (ev_at (i := 0) (n := 1) rfl (upd_same (H := G)) rfl rfl) (ev_lenL (ev_at (x := cells) (i := 0) (n := 0) rfl (upd_same (H := G)) rfl (Rep.mono (sG _) rc))))) (ea g2.i e2) g2.i (fun hc H3 g3 s3 => ?_) (fun hc H3 g3 s3 => ?_)
      · have hc : c1 + 1 ≤ cells.length := of_decide_eq_true hc
        have e3 := s3 _ _ e2
        refine sq_setF (G := G) (ev_ixL (xs := cells) (ev_at (i := 0) (n := 0) rfl (upd_same (H := G)) rfl (Rep.mono (sG _) rc)) (ev_sub (ev_at (i := 0) (n := 1) rfl (upd_same (H := G)) rfl rfl) ev_int) (by omega)) (ea g3.i e3) g3.i (fun v H4 g4 s4 r4 => ?_)
        cases r4
        have hx : 0 ≤ ix cells (c1 + 1 - 1) := by
          unfold ix
          rw [List.getElem?_eq_getElem (show (c1 + 1 - 1).toNat < cells.length by omega)]
          exact p4 _ (List.getElem_mem _)
        generalize ix cells (c1 + 1 - 1) = seed at hx
        have e4 := s4 _ _ e3
        refine st_ifF (G := G) (et_test (ev_ge (ev_var rfl rfl) (ev_pow ev_int ev_int ⟨by decide, by decide, by decide⟩))) g4.i g4.i (fun hd H5 g5 s5 => ?_) (fun hd H5 g5 s5 => ?_)
        · have e5 := s5 _ _ e4
          refine sq_put (G := G) (i := 0) (n := 2) rfl e5 (by show 2 < 4; decide) (ev_fdivW (i := seed) (ev_var rfl rfl) (ev_var rfl rfl) ⟨hm, hl⟩) g5.i g5.i nb (fun v H6 s6 i6 r6 => ?_)
          cases r6
          refine st_retF (G := G) (ev_mod (i := seed) (ev_var rfl rfl) (ev_var rfl rfl) hm) i6 i6 (fun v H7 g7 s7 r7 => ?_)
          cases r7
          refine q _ H7 (Int.emod_nonneg _ (by omega)) (Int.emod_lt_of_pos _ hm) ?_ ⟨nb, cv, c1 + 1, seed / many, c3, cells, s7 _ _ upd_same, rc, by omega, Int.ediv_nonneg hx (by omega), p3, p4⟩
          exact gr_bt (gr_bag (gr_bt gb0 ⟨Same.refl G, i0.trans (s2.trans (s3.trans (s4.trans (s5.trans s6)))), SB.of (s2.trans (s3.trans (s4.trans (s5.trans s6)))), fun _ _ e => .inl e⟩ nb) nb) (gr_b0 g7) nb
        · exact ⟨seed, hx, rfl, s3.trans (s4.trans s5)⟩
      · exact ⟨c1 + 1, by omega, rfl, s3⟩
    · rintro σ' H3 ⟨seed, hs0, rfl, s3⟩
      have e3 := s3 _ _ e2
      have i3 : Same G H3 := g2.i.trans s3
      refine sq_setF (G := G) (ev_mod (ev_add (ev_add (i := seed) (ev_var rfl rfl) (ev_mul (ev_at (x := c3) (i := 0) (n := 3) rfl (upd_same (H := G)) rfl rfl) ev_int (.inr ⟨by decide, by decide⟩))) (ev_mul (ev_at (x := c1 + 1) (i := 0) (n := 1) rfl (upd_same (H := G)) rfl rfl) ev_int (.inr ⟨by decide, by decide⟩))) ev_int (by decide)) (ea i3 e3) i3 (fun v H4 g4 s4 r4 => ?_)
      cases r4
      have b1 : ∀ z : Int, 0 ≤ z % 2147483629 ∧ z % 2147483629 < 2147483629 := fun z => ⟨Int.emod_nonneg _ (by decide), Int.emod_lt_of_pos _ (by decide)⟩
      have b1 := b1 (seed + c3 * 31 + (c1 + 1) * 69061)
      generalize (seed + c3 * 31 + (c1 + 1) * 69061) % 2147483629 = bl1 at b1
      refine sq_setF (G := G) (ev_mod (ev_add (ev_mul (i := bl1) (j := bl1) (ev_var rfl rfl) (ev_var rfl rfl) (.inr ⟨by omega, by omega⟩)) ev_int) ev_int (by decide)) g4.i g4.i (fun v H5 g5 s5 r5 => ?_)
      cases r5
      have b2 : ∀ z : Int, 0 ≤ z % 2147483587 ∧ z % 2147483587 < 2147483587 := fun z => ⟨Int.emod_nonneg _ (by decide), Int.emod_lt_of_pos _ (by decide)⟩
      have b2 := b2 (bl1 * bl1 + 40961)
      generalize (bl1 * bl1 + 40961) % 2147483587 = bl2 at b2
      have e5 := s5 _ _ (s4 _ _ e3)
      refine st_retF (G := G) (ev_mod (ev_fdivW (ev_mod (ev_add (ev_mul (i := bl2) (j := bl2) (ev_var rfl rfl) (ev_var rfl rfl) (.inr ⟨by omega, by omega⟩)) (ev_at (x := c1 + 1) (i := 0) (n := 1) rfl (upd_same (H := G)) rfl rfl)) ev_int (by decide)) ev_int ⟨by decide, by decide⟩) (ev_var rfl rfl) hm) (ea g5.i e5) g5.i (fun v H6 g6 s6 r6 => ?_)
      cases r6
      refine q _ H6 (Int.emod_nonneg _ (by omega)) (Int.emod_lt_of_pos _ hm) ?_ ⟨nb, cv, c1 + 1, c2, c3, cells, s6 _ _ e5, rc, by omega, p2, p3, p4⟩
      exact gr_bt gb0 ⟨Same.refl G, i0.trans (s2.trans (s3.trans (s4.trans (s5.trans s6)))), SB.of (s2.trans (s3.trans (s4.trans (s5.trans s6)))), fun _ _ e => .inl e⟩ nb
  · -- of the rest
    have hb2 : ¬ c2 < 2 := of_decide_eq_false hb
    show tSeq _ _ _ _ _
    have e1 := s1 _ _ eb
    refine sq_setF (G := G) (ev_mod (ev_at (i := 0) (n := 2) rfl (upd_same (H := G)) rfl rfl) (ev_var rfl rfl) hm) (same_still g1.i e1) g1.i (fun v H2 g2 s2 r2 => ?_)
    cases r2
    have e2 := s2 _ _ e1
    refine sq_put (G := G) (i := 0) (n := 2) rfl e2 (by show 2 < 4; decide) (ev_fdivW (ev_at (i := 0) (n := 2) rfl (upd_same (H := G)) rfl rfl) (ev_var rfl rfl) ⟨hm, hl⟩) (same_still g2.i e2) g2.i nb (fun v H3 s3 i3 r3 => ?_)
    cases r3
    refine st_ret (G := G) (x := c2 % many) (ev_var rfl rfl) i3 (fun v G4 H4 g4 r4 => ?_)
    cases r4
    have gb : Gr (Mb b) G H G (upd H3 b (.lst [cv, .int c1, .int (c2 / many), .int c3])) := gr_bag ⟨Same.refl G, i.trans (s1.trans (s2.trans s3)), SB.of (s1.trans (s2.trans s3)), fun _ _ e => .inl e⟩ nb
    have g4' : Gr (Mb b) G (upd H3 b (.lst [cv, .int c1, .int (c2 / many), .int c3])) G H4 := ⟨Same.refl G, g4.g.trans g4.i, SB.of g4.same, fun _ _ e => .inl e⟩
    refine q _ H4 (Int.emod_nonneg _ (by omega)) (Int.emod_lt_of_pos _ hm) (gr_bt gb g4' nb) ⟨nb, cv, c1, c2 / many, c3, cells, g4.same _ _ upd_same, rc, p1, Int.ediv_nonneg p2 (by omega), p3, p4⟩
theorem d_bag (T : Tx K mg "_law_bag" ["_law_script"] s__law_bag) (bl : Bl mg) : Df P w K mg base 1 "_law_bag" ["_law_script"] (spBag K) := by
  refine T.ok sc__law_bag (fun vs H Q E h => ?_) (fun cdv f A outer s H vs Q E hr h => ?_)
  · obtain ⟨a, ns, G, rfl, _⟩ := h
    rfl
  obtain ⟨a, ns, G, rfl, i, hq, hl, q⟩ := h
  refine ⟨_, (pss_cons (ps_setLc (i := 1) (own := [("_law_one", 2)]) rfl sc__law_bag.nd rfl rfl (sw_true rfl rfl rfl (by decide +kernel)) (pi_listK (K := K) rfl (pe_slice (sl_listK (K := K) rfl) (pv 0) po_none (po_some pe_int))) (blkOk_by (own := [("_law_one", 2)]) (N := N__law_bag) (sc := defScope s__law_bag) (by decide +kernel)) (fun _ _ _ _ _ => (pg_name (i := 2) sc__law_bag.nd rfl (by first | exact .inl rfl | exact .inr rfl))) (fun _ _ _ _ _ => pts_nil) (fun _ _ _ _ _ => (pe_callB call_abs (by rfl) (bl "abs" (by decide)) (by decide +kernel) (pa_cons (pv 2) pa_nil))))
    (pss_cons (ps_set (i := 3) sc__law_bag.nd rfl (by first | exact .inl rfl | exact .inr rfl) (pe_op op_add pe_int (pe_callB (call_lenK (K := K) rfl) (by rfl) (bl "len" (by decide)) (by decide +kernel) (pa_cons (pv 1) pa_nil))))
    (pss_cons (ps_for PassesOwn.never rfl (pi_listK (K := K) rfl (pe_slice (sl_listK (K := K) rfl) (pv 0) po_none (po_some pe_int))) (pg_name (i := 2) sc__law_bag.nd rfl (by first | exact .inl rfl | exact .inr rfl))
      (pss_one (ps_set (i := 3) sc__law_bag.nd rfl (by first | exact .inl rfl | exact .inr rfl) (pe_op op_mod (pe_op op_add (pe_op op_add (pe_op op_mul (pv 3) pe_int) (pe_callB call_abs (by rfl) (bl "abs" (by decide)) (by decide +kernel) (pa_cons (pv 2) pa_nil))) (pe_op op_mul pe_int (pe_callTy call_int1 (by rfl) (bl "int" (by decide)) (by decide +kernel) (pa_cons (pe_cmpR op_lt (pv 2) pe_int (nomark _)) pa_nil)))) pe_int))))
    (pss_one (ps_ret (pe_lst (pa_cons (pv 1) (pa_cons pe_int (pa_cons pe_int (pa_cons (pv 3) pa_nil)))))))))), ?_⟩
  refine sq_set (G := G) (ev_lc (f := fun (n : Int) => if n < 0 then -n else n) (ei_list (ev_script rfl hq hl)) (by omega) ?_) i (fun cv G1 H1 g1 r1 => ?_)
  · intro n hn v G1 s1 r1
    exact gb_name ⟨rfl, ev_abs (ev_var rfl r1)⟩
  refine sq_set (G := G1) (x := 1 + ((ns.map fun (n : Int) => if n < 0 then -n else n).length : Int)) (ev_add ev_int (ev_lenL (ev_var rfl r1))) g1.i (fun v G2 H2 g2 r2 => ?_)
  cases r2
  have g12 := g1.trans g2
  refine sq_for (G := G2) (xs := ns) (fun k σ G' H' => ∃ o salt, σ = [some (.ref a), some cv, o, some (.int salt)] ∧ 0 ≤ salt ∧ Gr M0 G H G' H' ∧ rep G' cv (ns.map fun (n : Int) => if n < 0 then -n else n)) (ei_list (ev_script rfl ((g1.g.trans g2.g).seq hq) hl)) g2.i ?_ ?_ ?_
  · intro G3 H3 g3
    exact ⟨none, _, rfl, by omega, g12.trans g3, Rep.mono (g2.g.trans g3.g) r1⟩
  · intro k n v σ' G3 H3 G4 H4 hk e1 e2 hP g4 r4
    obtain ⟨o, salt, rfl, h0, gr, rc⟩ := hP
    cases r4
    refine gn ?_
    refine st_set (G := G4) (ev_mod (ev_add (ev_add (ev_mul (i := salt) (ev_var rfl rfl) ev_int (.inr ⟨by decide, by decide⟩)) (ev_abs (i := n) (ev_var rfl rfl))) (ev_mul ev_int (ev_intB (ev_lt (i := n) (ev_var rfl rfl) ev_int)) (.inl ⟨by decide, by decide⟩))) ev_int (by decide)) g4.i (fun v G5 H5 g5 r5 => ?_)
    cases r5
    exact ⟨G5, g4.g.trans g5.g, g5.i, _, _, rfl, Int.emod_nonneg _ (by decide), (gr.trans g4).trans g5, Rep.mono (g4.g.trans g5.g) rc⟩
  · intro σ' G3 H3 e1 e2 hP
    obtain ⟨o, salt, rfl, h0, gr, rc⟩ := hP
    refine ⟨cv, rfl, .int salt, rfl, (by show 4 ≤ sizeLine; decide), fun p np => ?_⟩
    have nG : G3 p = none := up_none e2 np
    refine q p G3 _ (gr.mut (.inl (up_none gr.same np)) nG) (up_none gr.same np) ⟨nG, cv, 0, 0, salt, _, upd_same, rc, by decide, by decide, h0, fun x hx => ?_⟩
    obtain ⟨n, _, rfl⟩ := List.mem_map.mp hx
    show 0 ≤ if n < 0 then -n else n
    split <;> omega
end


section
variable {P : Program} {w : World} {K : Fg} {mg : Str → Option Value} {base : Heap}
theorem d_pair (T : Tx K mg "_law_pair" ["_law_one", "_law_other"] s__law_pair) (bl : Bl mg) : Df P w K mg base 1 "_law_pair" ["_law_one", "_law_other"] (sp2 (fun (_ _ : Int) => True) lawPair) := by
  refine T.ok sc__law_pair (fun vs H Q E h => ?_) (fun cdv f A outer s H vs Q E hr h => ?_)
  · obtain ⟨v, x, v2, x2, G, rfl, _⟩ := h
    rfl
  obtain ⟨v, x, v2, x2, G, rfl, i, r1, r2, _, q⟩ := h
  refine ⟨_, (pss_one (ps_ret (pe_tup (pa_cons (pe_callB (call_min2 rfl) (by rfl) (bl "min" (by decide)) (by decide +kernel) (pa_cons (pv 0) (pa_cons (pv 1) pa_nil))) (pa_cons (pe_callB (call_max2 rfl) (by rfl) (bl "max" (by decide)) (by decide +kernel) (pa_cons (pv 0) (pa_cons (pv 1) pa_nil))) pa_nil))))), ?_⟩
  exact st_retC (y := lawPair x x2) (G := G) (by walk_at "pf_ev") i (by rfl) (fun v G' H' g r => q v G' H' g r)
end


abbrev Mbp (b p : Addr) : Addr → Prop := fun a => a = b ∨ a = p
def spCut (n : Nat) : Sp := fun vs H Q _ => ∃ (b : Addr) (s e : Int) (p : Addr) (G : Hp) (xs : List (Int × Int)), vs = [.ref b, .int s, .int e, .ref p] ∧ Same G H ∧ Bag G H b ∧ Ml G H p xs ∧ b ≠ p ∧ s < e ∧ e - s ≤ n ∧ e - s ≤ 1000 ∧ (xs.length : Int) + 2 * (e - s) ≤ 10000 ∧
  ∀ A G' H', CutT s e A → Gr (Mbp b p) G H G' H' → Bag G' H' b → Ml G' H' p (xs ++ A) → Q (.ref p) H'
theorem gr_tbp {b p : Addr} {G H G1 H1 G2 H2 : Hp} (x : Gr (Mbp b p) G H G1 H1) (y : Gr (Mbp b p) G1 H1 G2 H2) (nb : G2 b = none) (np : G2 p = none) : Gr (Mbp b p) G H G2 H2 :=
  x.trans y fun a e => .inl (by rcases e with rfl | rfl <;> assumption)
theorem gr_wb {b p : Addr} {G H G1 H1 : Hp} (x : Gr (Mb b) G H G1 H1) : Gr (Mbp b p) G H G1 H1 := ⟨x.g, x.i, fun a o m e => x.h a o (fun z => m (.inl z)) e, x.n⟩
theorem log_small {n : Int} (h1 : 0 < n) (h2 : n ≤ 1000) : n.natAbs.log2 < 9000 := by
  have h0 : n.natAbs ≠ 0 := by omega
  have : n.natAbs < 2 ^ 10 := by omega
  exact Nat.lt_of_lt_of_le ((Nat.log2_lt h0).mpr this) (by decide)
theorem Ml.bag {G H H' : Hp} {b p : Addr} {xs : List (Int × Int)} (m : Ml G H p xs) (g : Gr (Mb b) G H G H') (ne : b ≠ p) : Ml G H' p xs := m.step g fun z => ne z.symm
section
variable {P : Program} {w : World} {K : Fg} {mg : Str → Option Value} {base : Heap}
theorem d_cut_arc (T : Tx K mg "_law_cut_arc" ["_law_bag_here", "_law_start", "_law_end", "_law_found"] s__law_cut_arc) (TP : Tx K mg "_law_pull" ["_law_bag_here", "_law_many"] s__law_pull) (bl : Bl mg) :
    ∀ n : Nat, Df P w K mg base (n + 1) "_law_cut_arc" ["_law_bag_here", "_law_start", "_law_end", "_law_found"] (spCut n) := by
  have D__law_pull := d_pull (P := P) (w := w) (base := base) TP bl
  intro n
  induction n with
  | zero =>
    obtain ⟨f, fd, F, b, m⟩ := T.ex
    have no : ∀ vs H Q E, ¬ spCut 0 vs H Q E := fun vs H Q E h => by
      obtain ⟨b, s, e, p, G, xs, _, _, _, _, _, h1, h2, _⟩ := h
      omega
    exact ⟨f, fd, ⟨fun vs H Q E h => absurd h (no vs H Q E), fun A outer s H args us vs Q E _ _ _ _ h => absurd h (no vs H Q E)⟩, b, F.kp, m⟩
  | succ n ih =>
    have D__law_cut_arc := ih
    refine T.ok (k := n + 1) sc__law_cut_arc (fun vs H Q E h => ?_) (fun cdv f A outer s H vs Q E hr h => ?_)
    · obtain ⟨b, s, e, p, G, xs, rfl, _⟩ := h
      rfl
    obtain ⟨b, s0, e, p, G, xs, rfl, i, bg, ml, nbp, hse, hn, h1000, hlen, q⟩ := h
    refine ⟨_, (C8.pss_cut (ps_if (pt_cmpR op_gt (pe_op op_sub (pv 2) (pv 1)) pe_int (nomark _))
      (pss_cons (ps_set (i := 4) sc__law_cut_arc.nd rfl (by first | exact .inl rfl | exact .inr rfl) (pe_op op_sub (pe_op op_sub (pv 2) (pv 1)) pe_int))
      (pss_cons (ps_set (i := 5) sc__law_cut_arc.nd rfl (by first | exact .inl rfl | exact .inr rfl) (pe_df D__law_pull hr (by first | decide | omega) (by rfl) (pa_cons (pv 0) (pa_cons pe_int pa_nil))))
      (pss_cons (ps_set (i := 6) sc__law_cut_arc.nd rfl (by first | exact .inl rfl | exact .inr rfl) (pe_op op_add (pe_op op_add (pv 1) pe_int) (pe_ix (ix_listK (K := K) rfl) (pe_lst (pa_cons (pe_df D__law_pull hr (by first | decide | omega) (by rfl) (pa_cons (pv 0) (pa_cons (pv 4) pa_nil))) (pa_cons pe_int (pa_cons (pe_op op_sub (pv 4) pe_int) (pa_cons (pe_op op_fdiv (pv 4) pe_int) (pa_cons (pe_df D__law_pull hr (by first | decide | omega) (by rfl) (pa_cons (pv 0) (pa_cons (pv 4) pa_nil))) pa_nil)))))) (pv 5) (fun _ _ => rfl))))
      (pss_cons (ps_expr (pe_bm PySem.F.plainAttrs_list PySem.F.slot_list_append PySem.F.type_list_append mt_append (pv 3) (pa_cons (pe_tup (pa_cons (pv 1) (pa_cons (pv 6) pa_nil))) pa_nil)))
      (pss_cons (ps_expr (pe_bm PySem.F.plainAttrs_list PySem.F.slot_list_append PySem.F.type_list_append mt_append (pv 3) (pa_cons (pe_tup (pa_cons (pv 6) (pa_cons (pv 2) pa_nil))) pa_nil)))
      (pss_cons (ps_expr (pe_df D__law_cut_arc hr (by first | decide | omega) (by rfl) (pa_cons (pv 0) (pa_cons (pv 1) (pa_cons (pv 6) (pa_cons (pv 3) pa_nil))))))
      (pss_one (ps_expr (pe_df D__law_cut_arc hr (by first | decide | omega) (by rfl) (pa_cons (pv 0) (pa_cons (pv 6) (pa_cons (pv 2) (pa_cons (pv 3) pa_nil)))))))))))))
      pss_nil)
    (pss_one (ps_ret (pv 3)))), ?_⟩
    refine sq_cut (fun σ' H' => ∃ A G', σ'[3]? = some (some (.ref p)) ∧ CutT s0 e A ∧ Gr (Mbp b p) G H G' H' ∧ Bag G' H' b ∧ Ml G' H' p (xs ++ A)) ?_ ?_
    · refine st_if (G := G) (b := decide (1 < e - s0)) (by walk_at "pf_ev") i (fun hb G1 H1 g1 => ?_) (fun hb G1 H1 g1 => ?_)
      · have hb : 1 < e - s0 := of_decide_eq_true hb
        refine sq_set (G := G1) (x := e - s0 - 1) (by walk_at "pf_ev") g1.i (fun v G2 H2 g2 r2 => ?_)
        cases r2
        have g12 := g1.trans g2
        have bg2 := bg.step0 g12
        have ml2 := ml.step0 g12
        refine sq_pull (b := b) (many := 5) rfl g2.i bg2 ev_int (by decide) (by decide) (fun way H3 a1 a2 g3 bg3 => ?_)
        have ml3 := ml2.bag g3 nbp
        have hw0 : 0 < e - s0 - 1 := by omega
        have hw1 := log_small hw0 (by omega)
        refine ⟨.int s0, rfl, s0, 1, rfl, rfl, ?_⟩
        refine rd_pull (E := E0) (b := b) (many := e - s0 - 1) (i := 0) (tm := tVar 4) rfl g3.i bg3 (ev_var rfl rfl) hw0 hw1 (fun r1 H4 b1 b2 g4 bg4 => ?_)
        refine ⟨.int (e - s0 - 1), rfl, e - s0 - 1, 1, rfl, rfl, ?_⟩
        refine ⟨.int (e - s0 - 1), rfl, e - s0 - 1, 2, rfl, rfl, ⟨by decide, by decide⟩, ?_⟩
        refine rd_pull (E := E0) (b := b) (many := e - s0 - 1) (i := 0) (tm := tVar 4) rfl g4.i bg4 (ev_var rfl rfl) hw0 hw1 (fun r2 H5 b3 b4 g5 bg5 => ?_)
        refine ⟨by show 5 ≤ sizeLine; decide, fun lq nq => ?_⟩
        have hne : b ≠ lq := by
          obtain ⟨_, _, _, _, _, _, eb, _⟩ := bg5
          exact ne_of_none eb nq
        have ml5 := (ml3.bag g4 nbp).bag g5 nbp
        have hnp : p ≠ lq := by
          obtain ⟨_, vs, ep, _⟩ := ml5
          exact ne_of_none ep nq
        obtain ⟨z, hz, hz0, hz1⟩ : ∃ z : Int, atI [V.int r1, .int 0, .int (e - s0 - 1 - 1), .int ((e - s0 - 1) / 2), .int r2] way = some (.int z) ∧ 0 ≤ z ∧ z < e - s0 - 1 := by
          have hw : way = 0 ∨ way = 1 ∨ way = 2 ∨ way = 3 ∨ way = 4 := by omega
          rcases hw with rfl | rfl | rfl | rfl | rfl
          · exact ⟨r1, rfl, b1, b2⟩
          · exact ⟨0, rfl, by omega, by omega⟩
          · exact ⟨e - s0 - 1 - 1, rfl, by omega, by omega⟩
          · exact ⟨(e - s0 - 1) / 2, rfl, by omega, by omega⟩
          · exact ⟨r2, rfl, b3, b4⟩
        refine ⟨.int way, rfl, lq, _, way, .int z, rfl, rfl, .inl (.inl upd_same), hz, s0 + 1, z, rfl, rfl, ?_⟩
        have i5 : Same G2 (upd H5 lq (.lst [V.int r1, .int 0, .int (e - s0 - 1 - 1), .int ((e - s0 - 1) / 2), .int r2])) := g5.i.trans (same_new nq)
        have bg6 := bg5.other (o := .lst [V.int r1, .int 0, .int (e - s0 - 1 - 1), .int ((e - s0 - 1) / 2), .int r2]) hne
        have ml6 := ml5.other (o := .lst [V.int r1, .int 0, .int (e - s0 - 1 - 1), .int ((e - s0 - 1) / 2), .int r2]) hnp
        have gr6 : Gr (Mbp b p) G H G2 (upd H5 lq (.lst [V.int r1, .int 0, .int (e - s0 - 1 - 1), .int ((e - s0 - 1) / 2), .int r2])) := by
          have x1 := gr_tbp (gr_tbp (gr_tbp g12.wk (gr_wb (p := p) g3) bg2.1 ml2.1) (gr_wb g4) bg2.1 ml2.1) (gr_wb g5) bg2.1 ml2.1
          exact ⟨x1.g, i5, x1.h.trans (SB.of (same_new nq)), x1.n⟩
        generalize upd H5 lq (.lst [V.int r1, .int 0, .int (e - s0 - 1 - 1), .int ((e - s0 - 1) / 2), .int r2]) = H6 at i5 bg6 ml6 gr6
        obtain ⟨m, hm⟩ : ∃ m, m = s0 + 1 + z := ⟨_, rfl⟩
        refine gn (i := 6) (v := .int (s0 + 1 + z)) ?_
        rw [← hm]
        have hm1 : s0 < m := by omega
        have hm2 : m < e := by omega
        -- two pairs are put down
        refine sq_append (G := G2) (i := 3) (p := p) (x := (s0, m)) rfl ml6 (by walk_at "pf_ev") i5 (by omega) (fun G7 H7 o7 g7 ml7 s7 => ?_)
        have bg7 := (bg6.step0 g7).other (o := o7) nbp
        have gr7 : Gr (Mbp b p) G H G7 (upd H7 p o7) := (gr_tbp gr6 g7.wk bg7.1 ml7.1).mut (.inr (.inr rfl)) ml7.1
        refine sq_append (G := G7) (i := 3) (p := p) (x := (m, e)) rfl ml7 (by walk_at "pf_ev") s7 (by rw [List.length_append]; show xs.length + 1 < 100000; omega) (fun G8 H8 o8 g8 ml8 s8 => ?_)
        have bg8 := (bg7.step0 g8).other (o := o8) nbp
        have gr8 : Gr (Mbp b p) G H G8 (upd H8 p o8) := (gr_tbp gr7 g8.wk bg8.1 ml8.1).mut (.inr (.inr rfl)) ml8.1
        -- the first arc, the second arc
        refine ⟨.ref b, rfl, .int s0, rfl, .int m, rfl, .ref p, rfl, b, s0, m, p, G8, (xs ++ [(s0, m)]) ++ [(m, e)], rfl, s8, bg8, ml8, nbp, hm1, by omega, by omega, by simp only [List.length_append, List.length_singleton]; omega, fun A1 G9 H9 c9 g9 bg9 ml9 => ?_⟩
        have gr9 := gr_tbp gr8 g9 bg9.1 ml9.1
        have hA1 := c9.len
        refine ⟨.ref b, rfl, .int m, rfl, .int e, rfl, .ref p, rfl, b, m, e, p, G9, ((xs ++ [(s0, m)]) ++ [(m, e)]) ++ A1, rfl, g9.i, bg9, ml9, nbp, hm2, by omega, by omega, by simp only [List.length_append, List.length_singleton]; omega, fun A2 G10 H10 c10 g10 bg10 ml10 => ?_⟩
        refine ⟨(s0, m) :: (m, e) :: (A1 ++ A2), G10, rfl, .node hm1 hm2 c9 c10, gr_tbp gr9 g10 bg10.1 ml10.1, bg10, ?_⟩
        have ea : xs ++ ((s0, m) :: (m, e) :: (A1 ++ A2)) = xs ++ [(s0, m)] ++ [(m, e)] ++ A1 ++ A2 := by simp
        rw [ea]
        exact ml10
      · have hb : ¬ 1 < e - s0 := of_decide_eq_false hb
        exact ⟨[], G1, rfl, .leaf (by omega), g1.wk, bg.step0 g1, by rw [List.append_nil]; exact ml.step0 g1⟩
    · rintro σ' H' ⟨A, G', hv, hc, g, bg', ml'⟩
      exact ⟨.ref p, hv, q A G' H' hc g bg' ml'⟩
def spDrawn : Sp := fun vs H Q _ => ∃ (b : Addr) (n : Int) (G : Hp), vs = [.ref b, .int n] ∧ Same G H ∧ Bag G H b ∧ 3 ≤ n ∧ n ≤ 40 ∧ ∀ A v G' H', CutT 1 n A → Gr (Mb b) G H G' H' → Bag G' H' b → rep G' v (planOf n A) → Q v H'
def spPlan : Sp := fun vs H Q _ => ∃ (b : Addr) (most : Int) (G : Hp), vs = [.ref b, .int most] ∧ Same G H ∧ Bag G H b ∧ 3 ≤ most ∧ most ≤ 40 ∧ ∀ n A v G' H', 3 ≤ n → n ≤ most → CutT 1 n A → Gr (Mb b) G H G' H' → Bag G' H' b → rep G' v (planOf n A) → Q v H'
theorem gr_bpt {b : Addr} {G H G1 H1 G2 H2 : Hp} (x : Gr (Mb b) G H G1 H1) (y : Gr (Mb b) G1 H1 G2 H2) (nb : G2 b = none) : Gr (Mb b) G H G2 H2 := x.trans y fun a e => .inl (by cases e; exact nb)
theorem d_drawn (T : Tx K mg "_law_drawn_plan" ["_law_bag_here", "_law_faces"] s__law_drawn_plan) (TA : Tx K mg "_law_cut_arc" ["_law_bag_here", "_law_start", "_law_end", "_law_found"] s__law_cut_arc) (TP : Tx K mg "_law_pull" ["_law_bag_here", "_law_many"] s__law_pull)
    (TQ : Tx K mg "_law_pair" ["_law_one", "_law_other"] s__law_pair) (bl : Bl mg) : Df P w K mg base 42 "_law_drawn_plan" ["_law_bag_here", "_law_faces"] spDrawn := by
  have D__law_cut_arc := d_cut_arc (P := P) (w := w) (base := base) TA TP bl 40
  have D__law_pair := d_pair (P := P) (w := w) (base := base) TQ bl
  refine T.ok sc__law_drawn_plan (fun vs H Q E h => ?_) (fun cdv f A outer s H vs Q E hr h => ?_)
  · obtain ⟨b, n, G, rfl, _⟩ := h
    rfl
  obtain ⟨b, n, G, rfl, i, bg, h3, h40, q⟩ := h
  refine ⟨_, (pss_cons (ps_setLc (i := 2) (own := [("_law_low", 3), ("_law_high", 4)]) rfl sc__law_drawn_plan.nd rfl rfl (sw_true rfl rfl rfl (by decide +kernel)) (pi_listK (K := K) rfl (pe_df D__law_cut_arc hr (by first | decide | omega) (by rfl) (pa_cons (pv 0) (pa_cons pe_int (pa_cons (pv 1) (pa_cons (pe_lst pa_nil) pa_nil)))))) (blkOk_by (own := [("_law_low", 3), ("_law_high", 4)]) (N := N__law_drawn_plan) (sc := defScope s__law_drawn_plan) (by decide +kernel)) (fun _ _ _ _ _ => (pg_tupK (K := K) (n := 2) rfl (pg_tup rfl (pgs_cons (pg_name (i := 3) sc__law_drawn_plan.nd rfl (by first | exact .inl rfl | exact .inr rfl)) (pgs_cons (pg_name (i := 4) sc__law_drawn_plan.nd rfl (by first | exact .inl rfl | exact .inr rfl)) pgs_nil))))) (fun _ _ _ _ _ => pts_one (pt_cmpR op_gt (pe_op op_sub (pv 4) (pv 3)) pe_int (nomark _))) (fun _ _ _ _ _ => (pe_tup (pa_cons (pv 3) (pa_cons (pv 4) pa_nil)))))
    (pss_one (ps_ret (pe_tup (pa_cons (pv 1) (pa_cons (pe_callTy (call_tupleK (K := K) rfl) (by rfl) (bl "tuple" (by decide)) (by decide +kernel) (pa_cons (pe_callB (cr_sortedPOK (K := K) rfl) (by rfl) (bl "sorted" (by decide)) (by decide +kernel) (pa_cons (pe_lc (own := [("_law_low", 3), ("_law_high", 4)]) rfl sc__law_drawn_plan.nd (pi_listK (K := K) rfl (pv 2)) (blkOk_by (own := [("_law_low", 3), ("_law_high", 4)]) (N := N__law_drawn_plan) (sc := defScope s__law_drawn_plan) (by decide +kernel)) (fun _ _ _ _ _ => (pg_tupK (K := K) (n := 2) rfl (pg_tup rfl (pgs_cons (pg_name (i := 3) sc__law_drawn_plan.nd rfl (by first | exact .inl rfl | exact .inr rfl)) (pgs_cons (pg_name (i := 4) sc__law_drawn_plan.nd rfl (by first | exact .inl rfl | exact .inr rfl)) pgs_nil))))) (fun _ _ _ _ _ => pts_nil) (fun _ _ _ _ _ => (pe_df D__law_pair hr (by first | decide | omega) (by rfl) (pa_cons (pv 3) (pa_cons (pe_op op_mod (pv 4) (pv 1)) pa_nil))))) pa_nil)) pa_nil)) pa_nil)))))), ?_⟩
  refine sq_lcw ?_
  refine ⟨.ref b, rfl, .int n, rfl, (by show 0 ≤ sizeLine; decide), fun p np => ?_⟩
  have nG := up_none i np
  have nbp : b ≠ p := by
    obtain ⟨_, _, _, _, _, _, eb, _⟩ := bg
    exact ne_of_none eb np
  refine ⟨b, 1, n, p, G, [], rfl, same_mut i nG, bg.other nbp, ⟨nG, [], upd_same, .nil⟩, nbp, by omega, by omega, by omega, by show (0 : Int) + 2 * (n - 1) ≤ 10000; omega, fun A1 G1 H1 hc g1 bg1 ml1 => ?_⟩
  refine ⟨p, rfl, ml1.sq, ?_⟩
  rw [List.nil_append] at ml1
  have hA := hc.len
  obtain ⟨n1, vs1, e1, pa1⟩ := ml1
  have sG : Same G1 (upd G1 p (.lst vs1)) := same_new n1
  have i1 : Same (upd G1 p (.lst vs1)) H1 := same_still g1.i e1
  have gr1 : Gr (Mb b) G H (upd G1 p (.lst vs1)) H1 := ⟨g1.g.trans sG, i1, fun a o m e => by
      have ne : a ≠ p := ne_of_none e np
      exact g1.h a o (fun z => by rcases z with z | z; exact m z; exact ne z) (by rw [upd_ne ne]; exact e), fun a o e => by
      by_cases h : a = p
      · subst h; rw [upd_same] at e; cases e; exact .inr ⟨.inl np, fun ps z => by cases z⟩
      · rw [upd_ne h] at e
        rcases g1.n a o e with z | ⟨z | ⟨vs, hv, z⟩, nt⟩
        · exact .inl z
        · rw [upd_ne h] at z; exact .inr ⟨.inl z, nt⟩
        · rw [upd_ne h] at z; exact .inr ⟨.inr ⟨vs, hv, z⟩, nt⟩⟩
  have bg1' : Bag (upd G1 p (.lst vs1)) H1 b := bg1.up sG (by rw [upd_ne nbp]; exact bg1.1)
  refine lc_rest (p := fun lh : Int × Int => decide (1 < lh.2 - lh.1)) (f := fun lh : Int × Int => (lh.1, lh.2)) (itok_list (xs := A1) upd_same (paired_mono sG pa1)) i1 (by omega) ?_ (fun v2 G2 H2 g2 r2 => ?_)
  · intro lh hlh v G2 s2 r2
    exact gb_pair' r2 fun u w ru rw => ⟨rfl, et_test (ev_gt (ev_sub (ev_var rfl rw) (ev_var rfl ru)) ev_int), fun _ => ev_tup2 (ev_var rfl ru) (ev_var rfl rw)⟩
  · have e2 : (A1.filter fun lh => decide (1 < lh.2 - lh.1)).map (fun lh : Int × Int => (lh.1, lh.2)) = A1.filter fun lh => decide (1 < lh.2 - lh.1) := List.map_id _
    rw [e2] at r2
    refine st_retC (y := planOf n A1) (G := G2) (ev_tup2 (x := n) (ev_var rfl rfl) (ev_tupleL (ev_sortedP (ev_lc (f := fun lh : Int × Int => lawPair lh.1 (lh.2 % n)) (ei_list (ev_var rfl r2)) ?_ ?_)))) g2.i (by rfl) (fun v G3 H3 g3 r3 => ?_)
    · exact Nat.le_trans (List.length_filter_le _ _) (by omega)
    · intro lh hlh v G3 s3 r3
      exact gb_pair' r3 fun u w ru rw => ⟨rfl, ev_call2 (ev_var rfl ru) (ev_mod (ev_var rfl rw) (ev_var rfl rfl) (by omega)) trivial⟩
    · have g23 := g2.trans g3
      have b3 := bg1'.step0 g23
      exact q A1 v G3 H3 hc (gr_bpt gr1 g23.wk b3.1) b3 r3
theorem d_plan (T : Tx K mg "_law_plan" ["_law_bag_here", "_law_most"] s__law_plan) (TD : Tx K mg "_law_drawn_plan" ["_law_bag_here", "_law_faces"] s__law_drawn_plan) (TA : Tx K mg "_law_cut_arc" ["_law_bag_here", "_law_start", "_law_end", "_law_found"] s__law_cut_arc) (TP : Tx K mg "_law_pull" ["_law_bag_here", "_law_many"] s__law_pull)
    (TQ : Tx K mg "_law_pair" ["_law_one", "_law_other"] s__law_pair) (bl : Bl mg) : Df P w K mg base 43 "_law_plan" ["_law_bag_here", "_law_most"] spPlan := by
  have D__law_drawn_plan := d_drawn (P := P) (w := w) (base := base) TD TA TP TQ bl
  have D__law_pull := d_pull (P := P) (w := w) (base := base) TP bl
  refine T.ok sc__law_plan (fun vs H Q E h => ?_) (fun cdv f A outer s H vs Q E hr h => ?_)
  · obtain ⟨b, n, G, rfl, _⟩ := h
    rfl
  obtain ⟨b, most, G, rfl, i, bg, h3, h40, q⟩ := h
  refine ⟨_, (pss_cons (ps_set (i := 2) sc__law_plan.nd rfl (by first | exact .inl rfl | exact .inr rfl) (pe_op op_add pe_int (pe_df D__law_pull hr (by first | decide | omega) (by rfl) (pa_cons (pv 0) (pa_cons (pe_op op_sub (pv 1) pe_int) pa_nil)))))
    (pss_one (ps_ret (pe_df D__law_drawn_plan hr (by first | decide | omega) (by rfl) (pa_cons (pv 0) (pa_cons (pv 2) pa_nil)))))), ?_⟩
  refine sq_pullAdd (b := b) (many := most - 2) rfl i bg (ev_sub (ev_var rfl rfl) ev_int) (by omega) (log_small (by omega) (by omega)) (fun r H1 a1 a2 g1 bg1 => ?_)
  refine ⟨.ref b, rfl, .int (3 + r), rfl, b, 3 + r, G, rfl, g1.i, bg1, by omega, by omega, fun A v G2 H2 hc g2 bg2 r2 => ?_⟩
  exact q (3 + r) A v G2 H2 (by omega) (by omega) hc (gr_bpt g1 g2 bg2.1) bg2 r2
end

section
variable {σ : L2.St} {G H : Hp} {K : Fg} {Q : VK}
/-- [a, b, c][_law_pull(bag, n)], n things of whole numbers -/
theorem rd_menu {tr : TA} {ms : List Int} {i : Nat} {b : Addr} {n : Int} (hm : EvAs tr σ G ms) (hv : σ[i]? = some (some (.ref b))) (s : Same G H) (bg : Bag G H b) (hn : (ms.length : Int) = n) (h0 : 0 < n) (hb : n ≤ 1000)
    (k : ∀ z H', z ∈ ms → Gr (Mb b) G H G H' → Bag G H' b → Q (.int z) H') : tOp (rIxL K) (tLst tr) (tCall spPull [] E0 (tCons (tVar i) (tCons (tC (.int n)) tNil))) σ H Q :=
  hm H s _ fun vs G1 H1 g1 pa => ⟨by rw [paired_len pa]; exact sl_small (by omega), fun lq nq => by
    have s1 : Same G (upd H1 lq (.lst vs)) := (g1.g.trans g1.i).trans (same_new nq)
    have bg1 : Bag G H1 b := by
      obtain ⟨n0, cv, c1, c2, c3, cells, eb, r⟩ := bg
      exact ⟨n0, cv, c1, c2, c3, cells, g1.same _ _ eb, r⟩
    have hne : b ≠ lq := by
      obtain ⟨_, _, _, _, _, _, eb, _⟩ := bg1
      exact ne_of_none eb nq
    have hl0 := log_small h0 hb
    refine rd_pull (E := E0) (b := b) (many := n) (i := i) (tm := tC (.int n)) hv s1 (bg1.other hne) ev_int h0 hl0 (fun r H2 a1 a2 g2 bg2 => ?_)
    have e2 := g2.h lq _ (fun z => hne z.symm) upd_same
    have hr : r.toNat < ms.length := by omega
    obtain ⟨v, ev, rv⟩ := paired_get pa (List.getElem?_eq_getElem hr)
    have ev2 : atI vs r = some v := by
      have e : r = ((r.toNat : Nat) : Int) := by omega
      rw [e]; exact atI_nat ev
    refine ⟨lq, vs, r, v, rfl, rfl, .inl (.inl e2), ev2, ?_⟩
    rw [rep_int rv]
    refine k _ H2 (List.getElem_mem hr) ?_ bg2
    exact gr_bt (⟨Same.refl G, s1, SB.of (g1.same.trans (same_new nq)), fun _ _ e => .inl e⟩) g2 bg.1⟩
end
section
variable {P : Program} {w : World} {K : Fg} {mg : Str → Option Value} {base : Heap}
theorem q__law_bag (T : Tg K mg) : Df P w K mg base 1 "_law_bag" ["_law_script"] (spBag K) := d_bag T._law_bag T.bl
theorem q__law_pull (T : Tg K mg) : Df P w K mg base 1 "_law_pull" ["_law_bag_here", "_law_many"] spPull := d_pull T._law_pull T.bl
theorem q__law_plan (T : Tg K mg) : Df P w K mg base 43 "_law_plan" ["_law_bag_here", "_law_most"] spPlan := d_plan T._law_plan T._law_drawn_plan T._law_cut_arc T._law_pull T._law_pair T.bl
end

def smT : Th → Prop
  | .s x => x.length ≤ 1000
  | .n i => smN i
  | .p p => smP p
section
variable {σ : L2.St} {G H : Hp} {K : Fg} {Q : VK}
/-- [a, b, c][_law_pull(bag, n)], n flat things -/
theorem rd_pick {α : Type} [Rep α] [Flat α] {tr : TA} {ms : List α} {i : Nat} {b : Addr} {n : Int} (hm : EvAs tr σ G ms) (hv : σ[i]? = some (some (.ref b))) (s : Same G H) (bg : Bag G H b) (hn : (ms.length : Int) = n) (h0 : 0 < n) (hb : n ≤ 1000)
    (k : ∀ z v H', z ∈ ms → Gr (Mb b) G H G H' → Bag G H' b → rep G v z → Q v H') : tOp (rIxL K) (tLst tr) (tCall spPull [] E0 (tCons (tVar i) (tCons (tC (.int n)) tNil))) σ H Q :=
  hm H s _ fun vs G1 H1 g1 pa => ⟨by rw [paired_len pa]; exact sl_small (by omega), fun lq nq => by
    have s1 : Same G (upd H1 lq (.lst vs)) := (g1.g.trans g1.i).trans (same_new nq)
    have bg1 : Bag G H1 b := by
      obtain ⟨n0, cv, c1, c2, c3, cells, eb, r⟩ := bg
      exact ⟨n0, cv, c1, c2, c3, cells, g1.same _ _ eb, r⟩
    have hne : b ≠ lq := by
      obtain ⟨_, _, _, _, _, _, eb, _⟩ := bg1
      exact ne_of_none eb nq
    have hl0 := log_small h0 hb
    refine rd_pull (E := E0) (b := b) (many := n) (i := i) (tm := tC (.int n)) hv s1 (bg1.other hne) ev_int h0 hl0 (fun r H2 a1 a2 g2 bg2 => ?_)
    have e2 := g2.h lq _ (fun z => hne z.symm) upd_same
    have hr : r.toNat < ms.length := by omega
    obtain ⟨v, ev, rv⟩ := paired_get pa (List.getElem?_eq_getElem hr)
    have ev2 : atI vs r = some v := by
      have e : r = ((r.toNat : Nat) : Int) := by omega
      rw [e]; exact atI_nat ev
    refine ⟨lq, vs, r, v, rfl, rfl, .inl (.inl e2), ev2, ?_⟩
    refine k _ v H2 (List.getElem_mem hr) ?_ bg2 (Flat.any rv)
    exact gr_bt (⟨Same.refl G, s1, SB.of (g1.same.trans (same_new nq)), fun _ _ e => .inl e⟩) g2 bg.1⟩
theorem sq_any {te : TE} {i : Nat} {u : TS} {D : Ends} (h : te σ H fun v H1 => u D (σ.set i (some v)) H1) : tSeq (tAsg te (gName i)) u D σ H := h
theorem ev_inT2 {ta tb : TE} {x : Str} {ys : Tup Str} (ha : Ev ta σ G x) (hb : Ev tb σ G ys) : Ev (tOp (rIn K false) ta tb) σ G (decide (x ∈ ys.l)) :=
  ev2 ha hb fun v u G' _ k1 k2 H i Q q => by
    cases k1
    obtain ⟨a, vs, rfl, h2, h3⟩ := k2
    rw [paired_strs h3] at h2
    exact ⟨a, _, rfl, .inr (.inl (.inl (i _ _ h2))), rfl, strs_flat _, q _ G' H (Gr.refl i) (by rw [inV_strs]; rfl)⟩
end
abbrev wordsS : Str := "fold drop pinch unpinch over about paint mark wash unfold refold"
def wordsL : List Str := ["fold", "drop", "pinch", "unpinch", "over", "about", "paint", "mark", "wash", "unfold", "refold"]
theorem words_of : Txt.split wordsS " " = wordsL := by
  have e : Txt.join " " wordsL = wordsS := TL.ext_tl (by rw [tl_txj]; decide +kernel)
  rw [← e]
  exact TL.split_join tl_blank (by decide +kernel) (by decide) (by decide +kernel)
theorem gtr {b : Addr} {G H G1 H1 G2 H2 : Hp} (x : Gr (Mb b) G H G1 H1) (y : Gr (Mb b) G1 H1 G2 H2) (bg : Bag G2 H2 b) : Gr (Mb b) G H G2 H2 := x.trans y fun a e => .inl (by cases e; exact bg.1)
theorem low_at {n : Int} (h0 : 0 ≤ n) (h1 : n < 26) : ∃ c, lowB c = true ∧ atI lowsS.cps.toList n = some c := by
  have hl : lowsS.cps.toList.length = 26 := by rw [lows_eq]; rfl
  obtain ⟨c, hc⟩ : ∃ c, lowsS.cps.toList[n.toNat]? = some c := ⟨_, List.getElem?_eq_getElem (by omega)⟩
  refine ⟨c, decide_eq_true (List.mem_of_getElem? hc), ?_⟩
  have e : n = ((n.toNat : Nat) : Int) := by omega
  rw [e]; exact atI_nat hc
theorem plan_sm {p : Plan} (h : isPlanM p = true) : smP p := by
  obtain ⟨f3, f40, fl, fc, _⟩ := plan_facts h
  refine ⟨⟨by omega, by omega⟩, fun c hc => ?_, by omega⟩
  have := fc c hc
  exact ⟨⟨by omega, by omega⟩, ⟨by omega, by omega⟩⟩
theorem name_tx {l : List Nat} (h1 : 1 ≤ l.length) (h8 : l.length ≤ 8) (h : ∀ c ∈ l, lowB c = true) : nameB (tx l) = true := by
  unfold nameB
  rw [tx_len, decide_eq_false (by omega), decide_eq_false (by omega)]
  exact List.all_eq_true.mpr h
theorem let_one {c : Nat} (h : lowB c = true) : letB (⟨#[c]⟩ : Str) = true := by
  unfold letB
  have e : (⟨#[c]⟩ : Str).length = 1 := rfl
  rw [e]
  show (true && [c].all lowB) = true
  simp [h]
def spDeed : Sp := fun vs H Q _ => ∃ (b : Addr) (G : Hp), vs = [.ref b] ∧ Same G H ∧ Bag G H b ∧ ∀ (d : List Th) (v : V) (G' H' : Hp), GoodD d → (∀ t ∈ d, smT t) → Gr (Mb b) G H G' H' → Bag G' H' b → rep G' v (Tup.mk d) → Q v H'
theorem name_sm {x : Str} (h : nameB x = true) : smT (.s x) := by have := (name_facts h).1; show x.length ≤ 1000; omega
section
variable {P : Program} {w : World} {K : Fg} {mg : Str → Option Value} {base : Heap}
theorem q__law_any_deed (T : Tg K mg) : Df P w K mg base 45 "_law_any_deed" ["_law_bag_here"] spDeed := by
  refine T._law_any_deed.ok sc__law_any_deed (fun vs H Q E h => ?_) (fun cdv f A outer s H vs Q E hr h => ?_)
  · obtain ⟨b, G, rfl, _⟩ := h
    rfl
  obtain ⟨b, G, rfl, i, bg, q⟩ := h
  have bl := T.bl
  refine ⟨_, (pss_cons (ps_set (i := 1) sc__law_any_deed.nd rfl (by first | exact .inl rfl | exact .inr rfl) (pe_split pe_str pe_str))
    (pss_cons (ps_set (i := 2) sc__law_any_deed.nd rfl (by first | exact .inl rfl | exact .inr rfl) (pe_ix (ix_listK (K := K) rfl) (pv 1) (pe_df (q__law_pull T) hr (by first | decide | omega) (by rfl) (pa_cons (pv 0) (pa_cons pe_int pa_nil))) (fun _ _ => rfl)))
    (pss_cons (ps_set (i := 3) sc__law_any_deed.nd rfl (by first | exact .inl rfl | exact .inr rfl) pe_str)
    (pss_cons (ps_for PassesOwn.never rfl (pi_range1 (by rfl) (bl "range" (by decide)) (pa_cons (pe_op op_add pe_int (pe_df (q__law_pull T) hr (by first | decide | omega) (by rfl) (pa_cons (pv 0) (pa_cons pe_int pa_nil)))) pa_nil)) (pg_name (i := 4) sc__law_any_deed.nd rfl (by first | exact .inl rfl | exact .inr rfl))
      (pss_one (ps_set (i := 3) sc__law_any_deed.nd rfl (by first | exact .inl rfl | exact .inr rfl) (pe_op op_add_str (pv 3) (pe_ix ix_str pe_str (pe_df (q__law_pull T) hr (by first | decide | omega) (by rfl) (pa_cons (pv 0) (pa_cons pe_int pa_nil))) (fun _ _ => rfl))))))
    (pss_cons (ps_if (pt_cmpR op_in_seq (pv 2) (pe_tup (pa_cons pe_str (pa_cons pe_str pa_nil))) (by rfl))
      (pss_cons (ps_set (i := 5) sc__law_any_deed.nd rfl (by first | exact .inl rfl | exact .inr rfl) (pe_df (q__law_plan T) hr (by first | decide | omega) (by rfl) (pa_cons (pv 0) (pa_cons (pe_ix (ix_listK (K := K) rfl) (pe_lst (pa_cons pe_int (pa_cons pe_int (pa_cons pe_int pa_nil)))) (pe_df (q__law_pull T) hr (by first | decide | omega) (by rfl) (pa_cons (pv 0) (pa_cons pe_int pa_nil))) (fun _ _ => rfl)) pa_nil))))
      (C8.pss_cut (ps_if (pt_cmpR op_eq (pe_df (q__law_pull T) hr (by first | decide | omega) (by rfl) (pa_cons (pv 0) (pa_cons pe_int pa_nil))) pe_int (nomark _))
        (pss_cons (ps_setLc (i := 6) (own := [("_law_k", 4)]) rfl sc__law_any_deed.nd rfl rfl (sw_true rfl rfl rfl (by decide +kernel)) (pi_range1 (by rfl) (bl "range" (by decide)) (pa_cons pe_int pa_nil)) (blkOk_by (own := [("_law_k", 4)]) (N := N__law_any_deed) (sc := defScope s__law_any_deed) (by decide +kernel)) (fun _ _ _ _ _ => (pg_name (i := 4) sc__law_any_deed.nd rfl (by first | exact .inl rfl | exact .inr rfl))) (fun _ _ _ _ _ => pts_nil) (fun _ _ _ _ _ => (pe_tup (pa_cons (pe_df (q__law_pull T) hr (by first | decide | omega) (by rfl) (pa_cons (pv 0) (pa_cons pe_int pa_nil))) (pa_cons (pe_df (q__law_pull T) hr (by first | decide | omega) (by rfl) (pa_cons (pv 0) (pa_cons pe_int pa_nil))) pa_nil)))))
        (pss_one (ps_set (i := 5) sc__law_any_deed.nd rfl (by first | exact .inl rfl | exact .inr rfl) (pe_tup (pa_cons (pe_df (q__law_pull T) hr (by first | decide | omega) (by rfl) (pa_cons (pv 0) (pa_cons pe_int pa_nil))) (pa_cons (pe_callTy (call_tupleK (K := K) rfl) (by rfl) (bl "tuple" (by decide)) (by decide +kernel) (pa_cons (pv 6) pa_nil)) pa_nil))))))
        pss_nil)
      (pss_one (ps_ret (pe_tup (pa_cons (pv 2) (pa_cons (pv 3) (pa_cons (pv 5) pa_nil))))))))
      pss_nil)
    (pss_cons (ps_if (pt_cmpR op_in_seq (pv 2) (pe_tup (pa_cons pe_str (pa_cons pe_str pa_nil))) (by rfl))
      (pss_one (ps_ret (pe_tup (pa_cons (pv 2) (pa_cons (pv 3) (pa_cons (pe_ix (ix_listK (K := K) rfl) (pe_lst (pa_cons pe_str (pa_cons pe_str pa_nil))) (pe_df (q__law_pull T) hr (by first | decide | omega) (by rfl) (pa_cons (pv 0) (pa_cons pe_int pa_nil))) (fun _ _ => rfl)) pa_nil))))))
      pss_nil)
    (pss_cons (ps_set (i := 7) sc__law_any_deed.nd rfl (by first | exact .inl rfl | exact .inr rfl) (pe_ix (ix_listK (K := K) rfl) (pe_lst (pa_cons (pe_df (q__law_pull T) hr (by first | decide | omega) (by rfl) (pa_cons (pv 0) (pa_cons pe_int pa_nil))) (pa_cons (pe_df (q__law_pull T) hr (by first | decide | omega) (by rfl) (pa_cons (pv 0) (pa_cons pe_int pa_nil))) pa_nil))) (pe_df (q__law_pull T) hr (by first | decide | omega) (by rfl) (pa_cons (pv 0) (pa_cons pe_int pa_nil))) (fun _ _ => rfl)))
    (pss_cons (ps_if (pt_cmpR op_eq (pv 2) pe_str (nomark _))
      (pss_one (ps_ret (pe_tup (pa_cons (pv 2) (pa_cons (pv 3) (pa_cons (pv 7) (pa_cons (pe_ix (ix_listK (K := K) rfl) (pe_lst (pa_cons pe_str (pa_cons pe_str (pa_cons pe_str pa_nil)))) (pe_df (q__law_pull T) hr (by first | decide | omega) (by rfl) (pa_cons (pv 0) (pa_cons pe_int pa_nil))) (fun _ _ => rfl)) pa_nil)))))))
      pss_nil)
    (pss_cons (ps_if (pt_cmpR op_eq (pv 2) pe_str (nomark _))
      (pss_one (ps_ret (pe_tup (pa_cons (pv 2) (pa_cons (pv 3) (pa_cons (pv 7) (pa_cons (pe_ix ix_str pe_str (pe_df (q__law_pull T) hr (by first | decide | omega) (by rfl) (pa_cons (pv 0) (pa_cons pe_int pa_nil))) (fun _ _ => rfl)) pa_nil)))))))
      pss_nil)
    (pss_one (ps_ret (pe_ifExp (pt_cmpR op_eq (pv 2) pe_str (nomark _)) (pe_tup (pa_cons (pv 2) (pa_cons (pv 3) (pa_cons (pv 7) pa_nil)))) (pe_tup (pa_cons (pv 2) (pa_cons (pv 3) pa_nil))))))))))))))), ?_⟩
  refine sq_set (G := G) (x := wordsL) (Ev.cast (ev_splitS ev_str ev_str (by decide +kernel) (by decide +kernel)) words_of) i (fun wv G1 H1 g1 rw1 => ?_)
  have bg1 := bg.step0 g1
  have t1 : Gr (Mb b) G H G1 H1 := g1.wk
  refine ⟨wv, rfl, ?_⟩
  refine rd_pull (E := E0) (b := b) (many := 11) (i := 0) (tm := tC (.int 11)) rfl g1.i bg1 ev_int (by decide) (by decide) (fun r H2 r0 r11 g2 bg2 => ?_)
  have t2 := gtr t1 g2 bg2
  obtain ⟨pa, vs, rfl, e1, pr⟩ := rw1
  have hwl : wordsL.length = 11 := rfl
  obtain ⟨w0, hw0⟩ : ∃ w0, wordsL[r.toNat]? = some w0 := ⟨_, List.getElem?_eq_getElem (by omega)⟩
  obtain ⟨v0, ev0, rv0⟩ := paired_get pr hw0
  cases rv0
  have ev2 : atI vs r = some (.str w0) := by
    have e : r = ((r.toNat : Nat) : Int) := by omega
    rw [e]; exact atI_nat ev0
  refine ⟨pa, vs, r, _, rfl, rfl, .inl (.inl (g2.i _ _ e1)), ev2, ?_⟩
  refine gn (i := 2) (v := .str w0) ?_
  have hm : w0 ∈ wordsL := List.mem_of_getElem? hw0
  have e0 : (("" : Str)) = tx [] := by decide +kernel
  refine sq_set (G := G1) (x := tx []) (Ev.cast ev_str e0) g2.i (fun nv G3 H3 g3 rn => ?_)
  have rn : nv = .str (tx []) := rn
  subst rn
  have bg3 := bg2.step0 g3
  have t3 := gtr t2 g3.wk bg3
  refine rd_pull (E := E0) (b := b) (many := 8) (i := 0) (tm := tC (.int 8)) rfl g3.i bg3 ev_int (by decide) (by decide) (fun r8 H4 p0 p8 g4 bg4 => ?_)
  have t4 := gtr t3 g4 bg4
  refine ⟨1, r8, rfl, rfl, 1 + r8, rfl, by omega, by omega, ?_⟩
  refine st_for (wi := fun _ H R => R (Itr 0 (1 + r8).toNat) H) (G := G3) (xs := rng 0 (1 + r8)) (fun k σ G' H' => Gr (Mb b) G H G' H' ∧ Bag G' H' b ∧ ∃ (l : List Nat) (a4 : Option V), l.length = k ∧ (∀ c ∈ l, lowB c = true) ∧ σ = [some (.ref b), some (.ref pa), some (.str w0), some (.str (tx l)), a4, none, none, none]) (fun H i R k => k _ G3 H (Gr.refl i) (it_rng (by omega))) g4.i ?_ ?_ ?_
  · intro G5 H5 g5
    have b5 := bg4.step0 g5
    exact ⟨gtr t4 g5.wk b5, b5, [], none, rfl, (fun c h => by cases h), rfl⟩
  · intro k n0 v σ' G5 H5 G6 H6 hk e3 e4 hP g6 r6
    obtain ⟨t5, b5, l, a4, hl, hlow, rfl⟩ := hP
    have b6 := b5.step0 g6
    have t6 := gtr t5 g6.wk b6
    have hk8 : k < (rng 0 (1 + r8)).length := (List.getElem?_eq_some_iff.mp hk).1
    rw [rng_len] at hk8
    refine gn ?_
    refine ⟨_, rfl, ?_⟩
    refine rd_pull (E := E0) (b := b) (many := 26) (i := 0) (tm := tC (.int 26)) rfl g6.i b6 ev_int (by decide) (by decide) (fun rc H7 c0 c26 g7 b7 => ?_)
    have t7 := gtr t6 g7 b7
    obtain ⟨c, hc1, hc2⟩ := low_at c0 c26
    refine ⟨_, rc, c, rfl, rfl, by decide +kernel, hc2, tx l, ⟨#[c]⟩, rfl, rfl, by rw [tx_len, hl]; exact sl_small (by show k + 1 ≤ 100000; omega), ?_⟩
    refine ⟨G6, g6.g, g7.i, t7, b7, l ++ [c], _, by rw [List.length_append, hl]; rfl, fun d hd => ?_, by rw [← tx_add]; rfl⟩
    rcases List.mem_append.mp hd with z | z
    · exact hlow d z
    · rw [List.mem_singleton.mp z]; exact hc1
  intro σ' G5 H5 e3 e4 hP
  obtain ⟨t5, b5, l, a4, hl, hlow, rfl⟩ := hP
  rw [rng_len] at hl
  have hname := name_tx (l := l) (by omega) (by omega) hlow
  generalize tx l = nm at hname
  have nsm := name_sm hname
  have wsm : smT (.s w0) := by
    have : ∀ x ∈ wordsL, x.length ≤ 1000 := by decide +kernel
    exact this w0 hm
  have fin : ∀ {d : List Th} {v : V} {G' H' : Hp}, GoodD d → (∀ t ∈ d, smT t) → Gr (Mb b) G H G' H' → Bag G' H' b → rep G' v (Tup.mk d) → Q v H' := fun {d v G' H'} a1 a2 a3 a4 a5 => q d v G' H' a1 a2 a3 a4 a5
  have evt : ∀ {σ : L2.St} {G : Hp} {te : TE} {x : Str}, Ev te σ G x → Ev te σ G (Th.s x) := fun h H i Q q => h H i Q q
  have evn : ∀ {σ : L2.St} {G : Hp} {te : TE} {x : Int}, Ev te σ G x → Ev te σ G (Th.n x) := fun h H i Q q => h H i Q q
  have evp : ∀ {σ : L2.St} {G : Hp} {te : TE} {x : Plan}, Ev te σ G x → Ev te σ G (Th.p x) := fun h H i Q q => h H i Q q
  refine sq_ifn (G := G5) (et_test (ev_inT2 (x := w0) (ys := Tup.mk ["fold", "refold"]) (ev_var rfl rfl) (ev_tupn (evs_cons ev_str (evs_cons ev_str evs_nil)) (by show 2 ≤ 100000; decide)))) e4 (fun hb G6 H6 g6 => ?_) (fun hb G6 H6 g6 => ?_)
  · have hw : w0 ∈ (["fold", "refold"] : List Str) := of_decide_eq_true hb
    have hk : kindsOf w0 = some (["name", "plan"] : List Str) := by
      have : ∀ x ∈ (["fold", "refold"] : List Str), kindsOf x = some (["name", "plan"] : List Str) := by decide +kernel
      exact this w0 hw
    have b6 := b5.step0 g6
    have t6 := gtr t5 g6.wk b6
    refine ⟨.ref b, rfl, ?_⟩
    refine rd_menu (ms := [6, 12, 40]) (b := b) (i := 0) (n := 3) (by walk_at "pf_ev") rfl g6.i b6 rfl (by decide) (by decide) (fun z H7 hz g7 b7 => ?_)
    have hz : z = 6 ∨ z = 12 ∨ z = 40 := by simpa using hz
    have t7 := gtr t6 g7 b7
    refine ⟨b, z, G6, rfl, g7.i, b7, by omega, by omega, fun n A pv G8 H8 n3 nm2 hc g8 b8 r8 => ?_⟩
    have hp : isPlanM (planOf n A) = true := drawn_is_plan hc n3 (by omega)
    have hsm := plan_sm hp
    generalize planOf n A = pl at r8 hsm
    refine gn (i := 5) (v := pv) ?_
    have t8 := gtr t7 g8 b8
    have s8 : ∃ (a4' a6' a7' : Option V), True := ⟨none, none, none, trivial⟩
    refine sq_cut (fun σ' H' => ∃ (G' : Hp) (pv : V) (pl : Plan) (a6 : Option V), σ' = [some (.ref b), some (.ref pa), some (.str w0), some (.str nm), a4, some pv, a6, none] ∧ Gr (Mb b) G H G' H' ∧ Bag G' H' b ∧ rep G' pv pl ∧ smP pl) ?_ ?_
    · refine rd_pull (E := E0) (b := b) (many := 4) (i := 0) (tm := tC (.int 4)) rfl g8.i b8 ev_int (by decide) (by decide) (fun r4 H9 q0 q4 g9 b9 => ?_)
      have t9 := gtr t8 g9 b9
      refine ⟨rfl, _, rfl, ?_⟩
      refine ite2 (fun hb => ?_) (fun hb => ?_)
      · refine sq_any ?_
        refine lc_bag (β := Int × Int) (R := fun c => smN c.1 ∧ smN c.2) (b := b) (G := G8) (xs := rng 0 2) (ei_r1 ev_int (by decide)) g9.i b9 (by decide) ?_ (fun ys sv G10 H10 hR hyl g10 b10 r10 => ?_)
        · intro x hx v G11 s11 rx
          refine gb_name ⟨rfl, fun H11 Q' i11 b11 k11 => ?_⟩
          refine rd_pull (E := E0) (b := b) (many := 10000) (i := 0) (tm := tC (.int 10000)) rfl i11 b11 ev_int (by decide) (by decide) (fun x1 H12 x10 x11 g12 b12 => ?_)
          refine rd_pull (E := E0) (b := b) (many := 50) (i := 0) (tm := tC (.int 50)) rfl g12.i b12 ev_int (by decide) (by decide) (fun x2 H13 x20 x21 g13 b13 => ?_)
          refine ⟨by show 2 ≤ sizeLine; decide, fun p np => ?_⟩
          have gn2 := gr_new (o := .tup [.int x1, .int x2]) g13.i np
          have b14 := b13.step0 gn2
          exact k11 (x1, x2) _ _ _ ⟨⟨x10, by omega⟩, ⟨x20, by omega⟩⟩ (gtr (gtr g12 g13 b13) gn2.wk b14) b14 ⟨p, _, _, rfl, upd_same, rfl, rfl⟩
        · have t10 := gtr t9 g10 b10
          refine rd_pull (E := E0) (b := b) (many := 10000) (i := 0) (tm := tC (.int 10000)) rfl g10.i b10 ev_int (by decide) (by decide) (fun x1 H12 x10 x11 g12 b12 => ?_)
          have t12 := gtr t10 g12 b12
          refine (ev_tupleL (K := K) (xs := ys) (ev_var (i := 6) rfl r10)) H12 g12.i _ (fun tv G13 H13 g13 r13 => ?_)
          have b13 := b12.step0 g13
          have t13 := gtr t12 g13.wk b13
          refine ⟨by show 2 ≤ sizeLine; decide, fun p np => ?_⟩
          have gn2 := gr_new (o := .tup [.int x1, tv]) g13.i np
          have b14 := b13.step0 gn2
          exact ⟨_, .ref p, (x1, Tup.mk ys), _, rfl, gtr t13 gn2.wk b14, b14, ⟨p, _, _, rfl, upd_same, rfl, Rep.mono gn2.g r13⟩, ⟨⟨x10, by omega⟩, fun c hc => hR c hc, by show ys.length ≤ 40; rw [hyl]; decide⟩⟩
      · exact ⟨G8, pv, pl, none, rfl, t9, b9, r8, hsm⟩
    rintro σ' H9 ⟨G9, pv, pl, a6, rfl, t9, b9, r9, hsm⟩
    refine st_ret (G := G9) (x := Tup.mk [Th.s w0, Th.s nm, Th.p pl]) (ev_tupn (evs_cons (evt (ev_var rfl rfl)) (evs_cons (evt (ev_var rfl rfl)) (evs_cons (evp (ev_var rfl r9)) evs_nil))) (by show 3 ≤ 100000; decide)) t9.i (fun v G10 H10 g10 r10 => ?_)
    have b10 := b9.step0 g10
    exact fin ⟨w0, _, _, rfl, hk, .cons (.name hname) (.cons (.plan hsm) .nil)⟩ (fun t ht => by
      rcases List.mem_cons.mp ht with rfl | ht
      · exact wsm
      rcases List.mem_cons.mp ht with rfl | ht
      · exact nsm
      rw [List.mem_singleton.mp ht]; exact hsm) (gtr t9 g10.wk b10) b10 r10
  have hw1 : w0 ∉ (["fold", "refold"] : List Str) := of_decide_eq_false hb
  have b6 := b5.step0 g6
  have t6 := gtr t5 g6.wk b6
  refine sq_ifn (G := G6) (et_test (ev_inT2 (x := w0) (ys := Tup.mk ["pinch", "unpinch"]) (ev_var rfl rfl) (ev_tupn (evs_cons ev_str (evs_cons ev_str evs_nil)) (by show 2 ≤ 100000; decide)))) g6.i (fun hb G7 H7 g7 => ?_) (fun hb G7 H7 g7 => ?_)
  · have hw : w0 ∈ (["pinch", "unpinch"] : List Str) := of_decide_eq_true hb
    have hk : kindsOf w0 = some (["name", "way"] : List Str) := by
      have : ∀ x ∈ (["pinch", "unpinch"] : List Str), kindsOf x = some (["name", "way"] : List Str) := by decide +kernel
      exact this w0 hw
    have b7 := b6.step0 g7
    have t7 := gtr t6 g7.wk b7
    refine ⟨.str w0, rfl, .str nm, rfl, ?_⟩
    refine rd_pick (α := Str) (ms := waysL) (b := b) (i := 0) (n := 2) (evs_cons ev_str (evs_cons ev_str evs_nil)) rfl g7.i b7 rfl (by decide) (by decide) (fun z v H8 hz g8 b8 r8 => ?_)
    cases r8
    have t8 := gtr t7 g8 b8
    refine ⟨by show 3 ≤ sizeLine; decide, fun p np => ?_⟩
    have gn2 := gr_new (o := .tup [.str w0, .str nm, .str z]) g8.i np
    have b9 := b8.step0 gn2
    refine fin (d := [Th.s w0, Th.s nm, Th.s z]) ⟨w0, _, _, rfl, hk, .cons (.name hname) (.cons (.way hz) .nil)⟩ (fun t ht => ?_) (gtr t8 gn2.wk b9) b9 ⟨p, _, rfl, upd_same, .cons rfl (.cons rfl (.cons rfl .nil))⟩
    rcases List.mem_cons.mp ht with rfl | ht
    · exact wsm
    rcases List.mem_cons.mp ht with rfl | ht
    · exact nsm
    rw [List.mem_singleton.mp ht]
    have : ∀ x ∈ waysL, x.length ≤ 1000 := by decide +kernel
    exact this z hz
  have hw2 : w0 ∉ (["pinch", "unpinch"] : List Str) := of_decide_eq_false hb
  have b7 := b6.step0 g7
  have t7 := gtr t6 g7.wk b7
  -- the slot
  refine rd_pull (E := E0) (b := b) (many := 6) (i := 0) (tm := tC (.int 6)) rfl g7.i b7 ev_int (by decide) (by decide) (fun x1 H8 x10 x11 g8 b8 => ?_)
  have t8 := gtr t7 g8 b8
  refine rd_pull (E := E0) (b := b) (many := 10000) (i := 0) (tm := tC (.int 10000)) rfl g8.i b8 ev_int (by decide) (by decide) (fun x2 H9 x20 x21 g9 b9 => ?_)
  have t9 := gtr t8 g9 b9
  refine ⟨by show 2 ≤ sizeLine; decide, fun lq nq => ?_⟩
  have gq := gr_new (o := .lst [.int x1, .int x2]) g9.i nq
  have bq := b9.step0 gq
  have tq := gtr t9 gq.wk bq
  refine rd_pull (E := E0) (b := b) (many := 2) (i := 0) (tm := tC (.int 2)) rfl gq.i bq ev_int (by decide) (by decide) (fun x3 H10 x30 x31 g10 b10 => ?_)
  have t10 := gtr tq g10 b10
  obtain ⟨sl, hsl, hsa⟩ : ∃ sl : Int, smN sl ∧ atI [V.int x1, V.int x2] x3 = some (.int sl) := by
    rcases (show x3 = 0 ∨ x3 = 1 by omega) with rfl | rfl
    · exact ⟨x1, ⟨x10, by omega⟩, rfl⟩
    · exact ⟨x2, ⟨x20, by omega⟩, rfl⟩
  refine ⟨lq, _, x3, _, rfl, rfl, .inl (.inl (g10.i _ _ upd_same)), hsa, ?_⟩
  refine gn (i := 7) (v := .int sl) ?_
  generalize upd G7 lq (.lst [.int x1, .int x2]) = GA at t10 b10 g10
  refine sq_ifn (G := GA) (et_test (ev_eqS (i := w0) (ev_var rfl rfl) ev_str)) t10.i (fun hb G11 H11 g11 => ?_) (fun hb G11 H11 g11 => ?_)
  · have hw : w0 = "paint" := of_decide_eq_true hb
    have hk : kindsOf w0 = some (["name", "slot", "colour"] : List Str) := by rw [hw]; decide +kernel
    have b11 := b10.step0 g11
    have t11 := gtr t10 g11.wk b11
    refine ⟨.str w0, rfl, .str nm, rfl, .int sl, rfl, ?_⟩
    refine rd_pick (α := Str) (ms := coloursL) (b := b) (i := 0) (n := 3) (evs_cons ev_str (evs_cons ev_str (evs_cons ev_str evs_nil))) rfl g11.i b11 rfl (by decide) (by decide) (fun z v H12 hz g12 b12 r12 => ?_)
    cases r12
    have t12 := gtr t11 g12 b12
    refine ⟨by show 4 ≤ sizeLine; decide, fun p np => ?_⟩
    have gn2 := gr_new (o := .tup [.str w0, .str nm, .int sl, .str z]) g12.i np
    have b13 := b12.step0 gn2
    refine fin (d := [Th.s w0, Th.s nm, Th.n sl, Th.s z]) ⟨w0, _, _, rfl, hk, .cons (.name hname) (.cons (.slot hsl) (.cons (.colour hz) .nil))⟩ (fun t ht => ?_) (gtr t12 gn2.wk b13) b13 ⟨p, _, rfl, upd_same, .cons rfl (.cons rfl (.cons rfl (.cons rfl .nil)))⟩
    rcases List.mem_cons.mp ht with rfl | ht
    · exact wsm
    rcases List.mem_cons.mp ht with rfl | ht
    · exact nsm
    rcases List.mem_cons.mp ht with rfl | ht
    · exact hsl
    rw [List.mem_singleton.mp ht]
    have : ∀ x ∈ coloursL, x.length ≤ 1000 := by decide +kernel
    exact this z hz
  have hw3 : w0 ≠ "paint" := of_decide_eq_false hb
  have b11 := b10.step0 g11
  have t11 := gtr t10 g11.wk b11
  refine sq_ifn (G := G11) (et_test (ev_eqS (i := w0) (ev_var rfl rfl) ev_str)) g11.i (fun hb G12 H12 g12 => ?_) (fun hb G12 H12 g12 => ?_)
  · have hw : w0 = "mark" := of_decide_eq_true hb
    have hk : kindsOf w0 = some (["name", "slot", "letter"] : List Str) := by rw [hw]; decide +kernel
    have b12 := b11.step0 g12
    have t12 := gtr t11 g12.wk b12
    refine ⟨.str w0, rfl, .str nm, rfl, .int sl, rfl, ?_⟩
    refine rd_pull (E := E0) (b := b) (many := 26) (i := 0) (tm := tC (.int 26)) rfl g12.i b12 ev_int (by decide) (by decide) (fun rc H13 c0 c26 g13 b13 => ?_)
    have t13 := gtr t12 g13 b13
    obtain ⟨c, hc1, hc2⟩ := low_at c0 c26
    refine ⟨_, rc, c, rfl, rfl, by decide +kernel, hc2, by show 4 ≤ sizeLine; decide, fun p np => ?_⟩
    have gn2 := gr_new (o := .tup [.str w0, .str nm, .int sl, .str ⟨#[c]⟩]) g13.i np
    have b14 := b13.step0 gn2
    refine fin (d := [Th.s w0, Th.s nm, Th.n sl, Th.s ⟨#[c]⟩]) ⟨w0, _, _, rfl, hk, .cons (.name hname) (.cons (.slot hsl) (.cons (.letter (let_one hc1)) .nil))⟩ (fun t ht => ?_) (gtr t13 gn2.wk b14) b14 ⟨p, _, rfl, upd_same, .cons rfl (.cons rfl (.cons rfl (.cons rfl .nil)))⟩
    rcases List.mem_cons.mp ht with rfl | ht
    · exact wsm
    rcases List.mem_cons.mp ht with rfl | ht
    · exact nsm
    rcases List.mem_cons.mp ht with rfl | ht
    · exact hsl
    rw [List.mem_singleton.mp ht]
    show (1 : Nat) ≤ 1000
    decide
  have hw4 : w0 ≠ "mark" := of_decide_eq_false hb
  have b12 := b11.step0 g12
  have t12 := gtr t11 g12.wk b12
  have hlast : (w0 = "wash" ∧ kindsOf w0 = some (["name", "slot"] : List Str)) ∨ (w0 ≠ "wash" ∧ kindsOf w0 = some (["name"] : List Str)) := by
    have : ∀ x ∈ wordsL, x ∉ (["fold", "refold"] : List Str) → x ∉ (["pinch", "unpinch"] : List Str) → x ≠ "paint" → x ≠ "mark" → (x = "wash" ∧ kindsOf x = some (["name", "slot"] : List Str)) ∨ (x ≠ "wash" ∧ kindsOf x = some (["name"] : List Str)) := by decide +kernel
    exact this w0 hm hw1 hw2 hw3 hw4
  rcases hlast with ⟨hw, hk⟩ | ⟨hw, hk⟩
  · refine st_ret (G := G12) (x := Tup.mk [Th.s w0, Th.s nm, Th.n sl]) (Ev.cast (ev_if (b := true) (x := Tup.mk [Th.s w0, Th.s nm, Th.n sl]) (y := Tup.mk [Th.s w0, Th.s nm]) (et_test (Ev.cast (ev_eqS (i := w0) (ev_var rfl rfl) ev_str) (decide_eq_true hw))) (fun _ => ev_tupn (evs_cons (evt (ev_var rfl rfl)) (evs_cons (evt (ev_var rfl rfl)) (evs_cons (evn (ev_var rfl rfl)) evs_nil))) (by show 3 ≤ 100000; decide)) (fun h => by cases h)) (if_pos rfl)) g12.i (fun v G13 H13 g13 r13 => ?_)
    have b13 := b12.step0 g13
    refine fin ⟨w0, _, _, rfl, hk, .cons (.name hname) (.cons (.slot hsl) .nil)⟩ (fun t ht => ?_) (gtr t12 g13.wk b13) b13 r13
    rcases List.mem_cons.mp ht with rfl | ht
    · exact wsm
    rcases List.mem_cons.mp ht with rfl | ht
    · exact nsm
    rw [List.mem_singleton.mp ht]; exact hsl
  · refine st_ret (G := G12) (x := Tup.mk [Th.s w0, Th.s nm]) (Ev.cast (ev_if (b := false) (x := Tup.mk [Th.s w0, Th.s nm, Th.n sl]) (y := Tup.mk [Th.s w0, Th.s nm]) (et_test (Ev.cast (ev_eqS (i := w0) (ev_var rfl rfl) ev_str) (decide_eq_false hw))) (fun h => by cases h) (fun _ => ev_tupn (evs_cons (evt (ev_var rfl rfl)) (evs_cons (evt (ev_var rfl rfl)) evs_nil)) (by show 2 ≤ 100000; decide))) (if_neg (by decide))) g12.i (fun v G13 H13 g13 r13 => ?_)
    have b13 := b12.step0 g13
    refine fin ⟨w0, _, _, rfl, hk, .cons (.name hname) .nil⟩ (fun t ht => ?_) (gtr t12 g13.wk b13) b13 r13
    rcases List.mem_cons.mp ht with rfl | ht
    · exact wsm
    rw [List.mem_singleton.mp ht]; exact nsm
end


open TL (tl numL)
section
variable {P : Program} {w : World} {K : Fg} {mg : Str → Option Value} {base : Heap}
theorem q__law_good_name (T : Tg K mg) : Df P w K mg base 1 "_law_good_name" ["_law_name"] (sp1 (fun (z : Str) => z.length ≤ 90000) nameB) := by
  refine T._law_good_name.ok sc__law_good_name (fun vs H Q E h => ?_) (fun cdv f A outer s H vs Q E hr h => ?_)
  · obtain ⟨v, x, G, rfl, _⟩ := h
    rfl
  obtain ⟨v, z, G, rfl, i, r1, hl, q⟩ := h
  cases r1
  have bl := T.bl
  refine ⟨_, (pss_one (ps_ret (pe_and (pe_chain op_le op_le pe_int (pe_callB call_len_str (by rfl) (bl "len" (by decide)) (by decide +kernel) (pa_cons (pv 0) pa_nil)) pe_int) (pe_one (pe_callB (cr_allK (K := K) rfl rfl) (by rfl) (bl "all" (by decide)) (by decide +kernel) (pa_cons (pe_lc (own := [("_law_sign", 1)]) rfl sc__law_good_name.nd (pi_str (pv 0)) (blkOk_by (own := [("_law_sign", 1)]) (N := N__law_good_name) (sc := defScope s__law_good_name) (by decide +kernel)) (fun _ _ _ _ _ => (pg_name (i := 1) sc__law_good_name.nd rfl (by first | exact .inl rfl | exact .inr rfl))) (fun _ _ _ _ _ => pts_nil) (fun _ _ _ _ _ => (pe_cmpR op_inC (pv 1) pe_str (by rfl)))) pa_nil)))))), ?_⟩
  refine st_ret (G := G) (x := nameB z) (Ev.cast (ev_andV (a := decide ((1 : Int) ≤ (z.length : Int)) && decide ((z.length : Int) ≤ 8)) (b := z.cps.toList.all lowB) (ev_chain (a := decide ((1 : Int) ≤ (z.length : Int))) (b := decide ((z.length : Int) ≤ 8)) ev_int (ev_lenS (ev_var (x := z) rfl rfl) (by omega)) (fun _ => ev_int) r_le r_le) (fun _ => Ev.cast (ev_all (ev_lc (xs := z.cps.toList.map fun c => (⟨#[c]⟩ : Str)) (f := fun y => y.cps.toList.all lowB) (ei_str (ev_var (x := z) rfl rfl)) (by rw [List.length_map, ← TL.len_tl]; omega) ?_)) (sig_all _ _))) ?_) i (fun v G' H' g r => q v G' H' g r)
  · intro y hy v1 G9 s9 rx
    obtain ⟨c, _, rfl⟩ := List.mem_map.mp hy
    exact gb_name ⟨rfl, Ev.cast (ev_inC (c := c) (ev_var rfl rx) ev_str) (by simp [lowB])⟩
  · have e1 : decide ((1 : Int) ≤ (z.length : Int)) = !decide (z.length < 1) := by
      by_cases h : z.length < 1
      · rw [decide_eq_true h, decide_eq_false (by omega)]; rfl
      · rw [decide_eq_false h, decide_eq_true (by omega)]; rfl
    have e2 : decide ((z.length : Int) ≤ 8) = !decide (8 < z.length) := by
      by_cases h : 8 < z.length
      · rw [decide_eq_true h, decide_eq_false (by omega)]; rfl
      · rw [decide_eq_false h, decide_eq_true (by omega)]; rfl
    rw [e1, e2, ← Bool.not_or]
    rfl
theorem q__law_digits (T : Tg K mg) : Df P w K mg base 1 "_law_digits" ["_law_word"] (sp1 (fun (z : Str) => z.length ≤ 90000) (fun z => Opt.mk (digO z))) := by
  refine T._law_digits.ok sc__law_digits (fun vs H Q E h => ?_) (fun cdv f A outer s H vs Q E hr h => ?_)
  · obtain ⟨v, x, G, rfl, _⟩ := h
    rfl
  obtain ⟨v, z, G, rfl, i, r1, hl, q⟩ := h
  cases r1
  have bl := T.bl
  refine ⟨_, (pss_cons (ps_if (PW.pt (pw_or (pt_not (pt_chain op_le op_le pe_int (pe_callB call_len_str (by rfl) (bl "len" (by decide)) (by decide +kernel) (pa_cons (pv 0) pa_nil)) pe_int)) (pw_or1 (pt_not (pt_val (pe_callB (cr_allK (K := K) rfl rfl) (by rfl) (bl "all" (by decide)) (by decide +kernel) (pa_cons (pe_lc (own := [("_law_sign", 1)]) rfl sc__law_digits.nd (pi_str (pv 0)) (blkOk_by (own := [("_law_sign", 1)]) (N := N__law_digits) (sc := defScope s__law_digits) (by decide +kernel)) (fun _ _ _ _ _ => (pg_name (i := 1) sc__law_digits.nd rfl (by first | exact .inl rfl | exact .inr rfl))) (fun _ _ _ _ _ => pts_nil) (fun _ _ _ _ _ => (pe_cmpR op_inC (pv 1) pe_str (by rfl)))) pa_nil)))))))
      (pss_one (ps_ret pe_non))
      pss_nil)
    (pss_cons (ps_if (PW.pt (pw_and (pt_cmpR op_ne (pv 0) pe_str (nomark _)) (pw_and1 (pt_cmpR op_eq (pe_ix ix_str (pv 0) pe_int (fun _ _ => rfl)) pe_str (nomark _)))))
      (pss_one (ps_ret pe_non))
      pss_nil)
    (pss_one (ps_ret (pe_callTy call_int_str (by rfl) (bl "int" (by decide)) (by decide +kernel) (pa_cons (pv 0) pa_nil)))))), ?_⟩
  have e1 : decide ((1 : Int) ≤ (z.length : Int)) = !decide (z.length < 1) := by
    by_cases h : z.length < 1
    · rw [decide_eq_true h, decide_eq_false (by omega)]; rfl
    · rw [decide_eq_false h, decide_eq_true (by omega)]; rfl
  have e2 : decide ((z.length : Int) ≤ 4) = !decide (4 < z.length) := by
    by_cases h : 4 < z.length
    · rw [decide_eq_true h, decide_eq_false (by omega)]; rfl
    · rw [decide_eq_false h, decide_eq_true (by omega)]; rfl
  have ec : (decide ((1 : Int) ≤ (z.length : Int)) && decide ((z.length : Int) ≤ 4)) = !(decide (z.length < 1) || decide (4 < z.length)) := by rw [e1, e2, ← Bool.not_or]
  refine sq_ifn (G := G) (b := !(!(decide (z.length < 1) || decide (4 < z.length))) || !(z.cps.toList.all figB)) (et_or (et_not (et_test (Ev.cast (ev_chain (a := decide ((1 : Int) ≤ (z.length : Int))) (b := decide ((z.length : Int) ≤ 4)) ev_int (ev_lenS (ev_var (x := z) rfl rfl) (by omega)) (fun _ => ev_int) r_le r_le) ec))) (fun _ => et_not (et_B (Ev.cast (ev_all (ev_lc (xs := z.cps.toList.map fun c => (⟨#[c]⟩ : Str)) (f := fun y => y.cps.toList.all figB) (ei_str (ev_var (x := z) rfl rfl)) (by rw [List.length_map, ← TL.len_tl]; omega) ?_)) (sig_all _ _))))) i (fun hb G1 H1 g1 => ?_) (fun hb G1 H1 g1 => ?_)
  · intro y hy v1 G9 s9 rx
    obtain ⟨c, _, rfl⟩ := List.mem_map.mp hy
    exact gb_name ⟨rfl, Ev.cast (ev_inC (c := c) (ev_var rfl rx) ev_str) (by simp [figB])⟩
  · have hn : numB z = false := by
      unfold numB
      cases ha : (decide (z.length < 1) || decide (4 < z.length)) with
      | true => rfl
      | false =>
        rw [ha] at hb
        cases hf : z.cps.toList.all figB with
        | false => rfl
        | true => rw [hf] at hb; cases hb
    refine st_ret (G := G1) (x := Opt.mk (digO z)) (Ev.cast ev_oNone ?_) g1.i (fun v G' H' g r => q v G' H' (g1.trans g) r)
    unfold digO
    rw [hn]; rfl
  · have hb1 : (decide (z.length < 1) || decide (4 < z.length)) = false := by
      cases ha : (decide (z.length < 1) || decide (4 < z.length)) with
      | false => rfl
      | true => rw [ha] at hb; cases hb
    have hb2 : z.cps.toList.all figB = true := by
      cases ha : z.cps.toList.all figB with
      | true => rfl
      | false => rw [ha, Bool.not_false, Bool.or_true] at hb; cases hb
    have hlen : 1 ≤ z.length ∧ z.length ≤ 4 := by
      simp only [Bool.or_eq_false_iff, decide_eq_false_iff_not] at hb1
      omega
    obtain ⟨c, hc⟩ : ∃ c, z.cps.toList[0]? = some c := ⟨_, List.getElem?_eq_getElem (by rw [← TL.len_tl]; omega)⟩
    have e0 : (("0" : Str)) = ⟨#[48]⟩ := by decide +kernel
    have e3 : decide ((⟨#[c]⟩ : Str) = "0") = decide (some c = some 48) := decide_eq_decide.mpr ⟨fun z => by rw [e0] at z; injection z with z; simp at z; rw [z], fun z => by rw [e0, Option.some.inj z]⟩
    refine sq_ifn (G := G1) (b := !decide (z = "0") && decide (some c = some 48)) (et_and (et_test (ev_neS (ev_var (x := z) rfl rfl) ev_str)) (fun _ => et_test (Ev.cast (ev_eqS (ev_ixS (c := c) (n := 0) (ev_var (x := z) rfl rfl) ev_int (by omega) (atI_nat hc)) ev_str) e3))) g1.i (fun hb3 G2 H2 g2 => ?_) (fun hb3 G2 H2 g2 => ?_)
    · have hn : numB z = false := by
        unfold numB
        rw [hb1, hb2, hc]
        rw [Bool.and_eq_true, Bool.not_eq_true'] at hb3
        rw [hb3.1, hb3.2]; rfl
      refine st_ret (G := G2) (x := Opt.mk (digO z)) (Ev.cast ev_oNone ?_) g2.i (fun v G' H' g r => q v G' H' ((g1.trans g2).trans g) r)
      unfold digO
      rw [hn]; rfl
    · have hn : numB z = true := by
        unfold numB
        rw [hb1, hb2, hc]
        cases h1 : decide (z = "0") with
        | true => rfl
        | false =>
          rw [h1] at hb3
          cases h2 : decide (some c = some 48) with
          | false => rfl
          | true => rw [h2] at hb3; cases hb3
      obtain ⟨n1, n2⟩ := numB_some hn
      refine st_ret (G := G2) (x := Opt.mk (digO z)) (Ev.cast (Ev.opt (ev_intS (ev_var (x := z) rfl rfl) n1 (by omega))) ?_) g2.i (fun v G' H' g r => q v G' H' ((g1.trans g2).trans g) r)
      unfold digO
      rw [hn]; rfl
theorem q__law_plan_read (T : Tg K mg) : Df P w K mg base 2 "_law_plan_read" ["_law_word"] (sp1 (fun (z : Str) => z.length ≤ 20000) (fun z => Opt.mk (planL z))) := by
  have D1 := q__law_digits (P := P) (w := w) (base := base) T
  refine T._law_plan_read.ok sc__law_plan_read (fun vs H Q E h => ?_) (fun cdv f A outer s H vs Q E hr h => ?_)
  · obtain ⟨v, x, G, rfl, _⟩ := h
    rfl
  obtain ⟨v, z, G, rfl, i, r1, hl, q⟩ := h
  have bl := T.bl
  refine ⟨_, (pss_cons (ps_set (i := 1) sc__law_plan_read.nd rfl (by first | exact .inl rfl | exact .inr rfl) (pe_split (pv 0) pe_str))
    (pss_cons (ps_if (PW.pt (pw_or (pt_cmpR op_ne (pe_callB (call_lenK (K := K) rfl) (by rfl) (bl "len" (by decide)) (by decide +kernel) (pa_cons (pv 1) pa_nil)) pe_int (nomark _)) (pw_or1 (pt_cmpR op_isN (pe_df D1 hr (by first | decide | omega) (by rfl) (pa_cons (pe_ix (ix_listK (K := K) rfl) (pv 1) pe_int (fun _ _ => rfl)) pa_nil)) pe_non (nomark _)))))
      (pss_one (ps_ret pe_non))
      pss_nil)
    (pss_cons (ps_set (i := 2) sc__law_plan_read.nd rfl (by first | exact .inl rfl | exact .inr rfl) (pe_lst pa_nil))
    (pss_cons (ps_for PassesOwn.never rfl (pi_listK (K := K) rfl (pe_split (pe_ix (ix_listK (K := K) rfl) (pv 1) pe_int (fun _ _ => rfl)) pe_str)) (pg_name (i := 3) sc__law_plan_read.nd rfl (by first | exact .inl rfl | exact .inr rfl))
      (pss_cons (ps_setLc (i := 4) (own := [("_law_half", 5)]) rfl sc__law_plan_read.nd rfl rfl (sw_true rfl rfl rfl (by decide +kernel)) (pi_listK (K := K) rfl (pe_split (pv 3) pe_str)) (blkOk_by (own := [("_law_half", 5)]) (N := N__law_plan_read) (sc := defScope s__law_plan_read) (by decide +kernel)) (fun _ _ _ _ _ => (pg_name (i := 5) sc__law_plan_read.nd rfl (by first | exact .inl rfl | exact .inr rfl))) (fun _ _ _ _ _ => pts_nil) (fun _ _ _ _ _ => (pe_df D1 hr (by first | decide | omega) (by rfl) (pa_cons (pv 5) pa_nil))))
      (pss_one (ps_if (PW.pt (pw_or (pt_cmpR op_ne (pv 3) pe_str (nomark _)) (pw_or1 (pt_cmpR op_ne (pe_ix (ix_listK (K := K) rfl) (pv 1) pe_int (fun _ _ => rfl)) pe_str (nomark _)))))
        (pss_cons (ps_if (PW.pt (pw_or (pt_cmpR op_ne (pe_callB (call_lenK (K := K) rfl) (by rfl) (bl "len" (by decide)) (by decide +kernel) (pa_cons (pv 4) pa_nil)) pe_int (nomark _)) (pw_or1 (pt_cmpR op_in_seq pe_non (pv 4) (by rfl)))))
          (pss_one (ps_ret pe_non))
          pss_nil)
        (pss_one (ps_expr (pe_bm PySem.F.plainAttrs_list PySem.F.slot_list_append PySem.F.type_list_append mt_append (pv 2) (pa_cons (pe_callTy (call_tupleK (K := K) rfl) (by rfl) (bl "tuple" (by decide)) (by decide +kernel) (pa_cons (pv 4) pa_nil)) pa_nil)))))
        pss_nil))))
    (pss_one (ps_ret (pe_tup (pa_cons (pe_df D1 hr (by first | decide | omega) (by rfl) (pa_cons (pe_ix (ix_listK (K := K) rfl) (pv 1) pe_int (fun _ _ => rfl)) pa_nil)) (pa_cons (pe_callTy (call_tupleK (K := K) rfl) (by rfl) (bl "tuple" (by decide)) (by decide +kernel) (pa_cons (pv 2) pa_nil)) pa_nil))))))))), ?_⟩
  have hsl := PyProof.Rows.split_le z ":"
  refine sq_set (G := G) (x := Txt.split z ":") (ev_splitS (a := z) (b := ":") (ev_var rfl r1) ev_str (by decide +kernel) (by omega)) i (fun hv G1 H1 g1 rh => ?_)
  by_cases h2 : (Txt.split z ":").length = 2
  · obtain ⟨a, b, hab⟩ := len_two h2
    have hla := PyProof.Rows.part_short (x := z) (y := ":") (show a ∈ Txt.split z ":" by rw [hab]; simp)
    have hlb := PyProof.Rows.part_short (x := z) (y := ":") (show b ∈ Txt.split z ":" by rw [hab]; simp)
    rw [hab] at rh
    have iA : ∀ {G' : Hp} {a2 a3 a4 a5 : Option V}, rep G' hv [a, b] → Ev (tOp (rIxL K) (tVar 1) (tC (.int 0))) [some v, some hv, a2, a3, a4, a5] G' a := fun r => Ev.cast (ev_ixL (xs := [a, b]) (i := 0) (ev_var rfl r) ev_int ⟨by decide, by show (0 : Int) < 2; decide⟩) rfl
    have iB : ∀ {G' : Hp} {a2 a3 a4 a5 : Option V}, rep G' hv [a, b] → Ev (tOp (rIxL K) (tVar 1) (tC (.int 1))) [some v, some hv, a2, a3, a4, a5] G' b := fun r => Ev.cast (ev_ixL (xs := [a, b]) (i := 1) (ev_var rfl r) ev_int ⟨by decide, by show (1 : Int) < 2; decide⟩) rfl
    have pl : planL z = if numB a = true then (if b = "" then some (intM a, ⟨[]⟩) else if (Txt.split b ",").all cutOk = true then some (intM a, ⟨(Txt.split b ",").map cutM2⟩) else none) else none := by
      unfold planL
      rw [hab]
    refine sq_ifn (G := G1) (b := false || (digO a).isNone) (et_or (a := false) (et_test (Ev.cast (ev_neI (ev_lenL (xs := [a, b]) (ev_var rfl rh)) ev_int) (by rfl))) (fun _ => et_test (ev_isO (x := Opt.mk (digO a)) int_nn (ev_call1 (f := fun z => Opt.mk (digO z)) (iA rh) (by omega))))) g1.i (fun hb G2 H2 g2 => ?_) (fun hb G2 H2 g2 => ?_)
    · refine st_ret (G := G2) (x := Opt.mk (planL z)) (Ev.cast ev_oNone ?_) g2.i (fun v G' H' g r => q v G' H' ((g1.trans g2).trans g) r)
      rw [pl]
      unfold digO at hb
      cases hn : numB a with
      | false => rfl
      | true => rw [hn] at hb; cases hb
    have hn : numB a = true := by
      unfold digO at hb
      cases hn : numB a with
      | true => rfl
      | false => rw [hn] at hb; cases hb
    rw [hn, if_pos rfl] at pl
    have rh2 := Rep.mono g2.g rh
    have g02 := g1.trans g2
    refine sq_newlist (α := Int × Int) (G := G2) (xs := []) evs_nil g2.i (by show 0 ≤ 100000; decide) (fun p G3 H3 o g3 np ml s3 => ?_)
    have npH := up_none g02.same (up_none g3.same np)
    have g03 : Gr M0 G H G3 (upd H3 p o) := (g02.trans g3).mut (.inl npH) ml.1
    generalize upd H3 p o = H4 at ml s3 g03
    have hsl2 := PyProof.Rows.split_le b ","
    have rh3 := Rep.mono g3.g rh2
    have emp : b = "" → ∀ y ∈ Txt.split b ",", y = "" := fun hb0 y hy => by
      have h1 := PyProof.Rows.part_short hy
      rw [hb0] at h1
      have h3 : (("" : Str)).length = 0 := by decide +kernel
      rw [h3] at h1
      rw [TL.len_tl] at h1
      refine TL.ext_tl ?_
      rw [List.length_eq_zero_iff.mp (Nat.le_zero.mp h1)]
      decide +kernel
    refine sq_for (G := G3) (xs := Txt.split b ",") (fun k σ G' H' => Gr M0 G H G' H' ∧ Same G3 G' ∧ (b ≠ "" → ((Txt.split b ",").take k).all cutOk = true) ∧ Ml G' H' p (if b = "" then [] else ((Txt.split b ",").take k).map cutM2) ∧ ∃ a3 a4 a5, σ = [some v, some hv, some (.ref p), a3, a4, a5]) (ei_list (ev_splitS (a := b) (b := ",") (iB rh3) ev_str (by decide +kernel) (by omega))) s3 ?_ ?_ ?_
    · intro G5 H5 g5
      refine ⟨g03.trans g5, g5.g, fun _ => rfl, ?_, _, _, _, rfl⟩
      have := ml.step0 g5
      by_cases hb0 : b = ""
      · rw [if_pos hb0]; exact this
      · rw [if_neg hb0]; exact this
    · intro k y tv σ' G5 H5 G6 H6 hk e1 e2 hP g6 r6
      obtain ⟨gr5, s35, hall, ml5, a3, a4, a5, rfl⟩ := hP
      have hy := List.mem_of_getElem? hk
      have hyl := PyProof.Rows.part_short hy
      have hkl := (List.getElem?_eq_some_iff.mp hk).1
      have hsy := PyProof.Rows.split_le y "-"
      refine gn ?_
      refine sq_set (G := G6) (x := (Txt.split y "-").map fun h => Opt.mk (digO h)) (ev_lc (xs := Txt.split y "-") (f := fun h => Opt.mk (digO h)) (ei_list (ev_splitS (a := y) (b := "-") (ev_var rfl r6) ev_str (by decide +kernel) (by omega))) (by omega) ?_) g6.i (fun cv G7 H7 g7 r7 => ?_)
      · intro h hh v1 G9 s9 rx
        have hhl := PyProof.Rows.part_short hh
        exact gb_name ⟨rfl, ev_call1 (f := fun z => Opt.mk (digO z)) (ev_var rfl rx) (by omega)⟩
      have r67 := Rep.mono g7.g r6
      have rh7 := Rep.mono (s35.trans (g6.g.trans g7.g)) rh3
      have gr7 := gr5.trans (g6.trans g7)
      have eo : ((Txt.split y "-").map fun h => Opt.mk (digO h)).map (·.o) = (Txt.split y "-").map digO := by rw [List.map_map]; rfl
      obtain ⟨cl1, cl2⟩ := cut_law y
      refine st_if (G := G7) (b := !decide (y = "") || !decide (b = "")) (et_or (et_test (ev_neS (ev_var rfl r67) ev_str)) (fun _ => et_test (ev_neS (iB rh7) ev_str))) g7.i (fun hb1 G8 H8 g8 => ?_) (fun hb1 G8 H8 g8 => ?_)
      · have hb0 : b ≠ "" := fun hb0 => by
          rw [emp hb0 y hy, hb0] at hb1
          exact absurd hb1 (by decide +kernel)
        have r78 := Rep.mono g8.g r7
        refine sq_ifn (G := G8) (b := !cutOk y) (EvT.cast (et_or (a := !decide (((Txt.split y "-").map digO).length = 2)) (b := decide (none ∈ (Txt.split y "-").map digO)) (et_test (Ev.cast (ev_neI (ev_lenL (xs := (Txt.split y "-").map fun h => Opt.mk (digO h)) (ev_var rfl r78)) ev_int) ?_)) (fun _ => et_test (Ev.cast (ev_inNone (xs := (Txt.split y "-").map fun h => Opt.mk (digO h)) (ev_var rfl r78)) (by rw [eo])))) ?_) g8.i (fun hb2 G9 H9 g9 => ?_) (fun hb2 G9 H9 g9 => ?_)
        · congr 1
          rw [List.length_map, List.length_map]
          exact decide_eq_decide.mpr (by omega)
        · rw [← cl1]
          unfold cutL
          rw [Bool.not_and, Bool.not_not]
        · refine st_ret (G := G9) (x := Opt.mk (planL z)) (Ev.cast ev_oNone ?_) g9.i (fun v G' H' g r => q v G' H' (((gr7.trans g8).trans g9).trans g) r)
          rw [pl, if_neg hb0, if_neg]
          intro ha
          have := List.all_eq_true.mp ha y hy
          rw [this] at hb2; cases hb2
        · have hc : cutOk y = true := by simpa using hb2
          refine st_append (G := G9) (i := 2) (p := p) (x := cutM2 y) rfl ((((ml5.step0 g6).step0 g7).step0 g8).step0 g9) (ev_tupOO (a := (cutM2 y).1) (b := (cutM2 y).2) (xs := (Txt.split y "-").map fun h => Opt.mk (digO h)) ?_ (ev_tupleL (ev_var rfl (Rep.mono g9.g r78)))) g9.i ?_ (fun G10 H10 o10 g10 ml10 s10 => ?_)
          · have := congrArg (List.map Opt.mk) (cl2 hc)
            rw [List.map_map] at this
            exact this
          · rw [if_neg hb0, List.length_map, List.length_take]; omega
          · refine ⟨G10, ((g6.g.trans g7.g).trans (g8.g.trans g9.g)).trans g10.g, s10, (((gr7.trans g8).trans g9).trans g10).mut (.inl npH) ml10.1, s35.trans (((g6.g.trans g7.g).trans (g8.g.trans g9.g)).trans g10.g), fun _ => ?_, ?_, _, _, _, rfl⟩
            · rw [List.take_add_one, hk, List.all_append, hall hb0]
              simp [hc]
            · rw [if_neg hb0] at ml10 ⊢
              rw [List.take_add_one, hk, List.map_append]
              exact ml10
      · have hb0 : b = "" := by
          cases h : decide (b = "") with
          | true => exact of_decide_eq_true h
          | false => rw [h, Bool.not_false, Bool.or_true] at hb1; cases hb1
        refine ⟨G8, (g6.g.trans g7.g).trans g8.g, g8.i, gr7.trans g8, s35.trans ((g6.g.trans g7.g).trans g8.g), fun h => absurd hb0 h, ?_, _, _, _, rfl⟩
        rw [if_pos hb0] at ml5 ⊢
        exact ((ml5.step0 g6).step0 g7).step0 g8
    · intro σ' G5 H5 e1 e2 hP
      obtain ⟨gr5, s35, hall, ml5, a3, a4, a5, rfl⟩ := hP
      rw [List.take_length] at hall ml5
      obtain ⟨G6, g6, r6, s6⟩ := ml5.frz gr5 npH
      have rh6 := Rep.mono (s35.trans s6) rh3
      have ed : Ev (tCall (sp1 (fun (z : Str) => z.length ≤ 90000) (fun z => Opt.mk (digO z))) [] E0 (tCons (tOp (rIxL K) (tVar 1) (tC (.int 0))) tNil)) [some v, some hv, some (.ref p), a3, a4, a5] G6 (intM a) := Ev.unopt (Ev.cast (ev_call1 (f := fun z => Opt.mk (digO z)) (iA rh6) (by omega)) (by unfold digO; rw [hn]; rfl))
      refine st_ret (G := G6) (x := Opt.mk (planL z)) (Ev.cast (Ev.opt (ev_tup2 ed (ev_tupleL (ev_var rfl r6)))) ?_) g6.i (fun v G' H' g r => q v G' H' (g6.trans g) r)
      rw [pl]
      by_cases hb0 : b = ""
      · rw [if_pos hb0, if_pos hb0]
      · rw [if_neg hb0, if_neg hb0, if_pos (hall hb0)]
  · refine sq_ifn (G := G1) (b := true) (EvT.cast (et_or (a := true) (b := false) (et_test (Ev.cast (ev_neI (ev_lenL (xs := Txt.split z ":") (ev_var rfl rh)) ev_int) ?_)) (fun hb => by cases hb)) rfl) g1.i (fun hb G2 H2 g2 => ?_) (fun hb _ _ _ => by cases hb)
    · rw [decide_eq_false (by omega)]; rfl
    refine st_ret (G := G2) (x := Opt.mk (planL z)) (Ev.cast ev_oNone ?_) g2.i (fun v G' H' g r => q v G' H' ((g1.trans g2).trans g) r)
    unfold planL
    split
    · next e => rw [e] at h2; exact absurd rfl h2
    · rfl
end
def sgC (k : Str) : Nat := if k = "name" then 110 else if k = "plan" then 112 else if k = "way" then 119 else if k = "slot" then 115 else if k = "colour" then 99 else 108
def sgS (ks : List Str) : Str := ⟨(ks.map sgC).toArray⟩
def formsA : List (Str × Str) := [("fold", "np"), ("drop", "n"), ("pinch", "nw"), ("unpinch", "nw"), ("over", "n"), ("about", "n")]
def formsB : List (Str × Str) := [("paint", "nsc"), ("mark", "nsl"), ("wash", "ns"), ("unfold", "n"), ("refold", "np")]
def formsL : List (Str × Str) := kindsL.map fun e => (e.1, sgS e.2)
theorem forms1 : mergeL [] formsA = formsA := by decide +kernel
theorem forms2 : mergeL formsA (mergeL [] formsB) = formsL := by decide +kernel
theorem look_forms (x : Str) : look formsL x = (kindsOf x).map sgS := by
  unfold look formsL kindsOf
  rw [List.find?_map]
  show Option.map _ (Option.map _ (kindsL.find? fun e => decide (e.1 = x))) = _
  cases kindsL.find? fun e => decide (e.1 = x) <;> rfl
def kinds6 : List Str := ["name", "plan", "way", "slot", "colour", "letter"]
theorem kinds_six {x : Str} {ks : List Str} (h : kindsOf x = some ks) : ∀ k ∈ ks, k ∈ kinds6 := by
  have : ∀ e ∈ kindsL, ∀ k ∈ e.2, k ∈ kinds6 := by decide +kernel
  exact this _ (kinds_mem h)
theorem sig_sgS (ks : List Str) : sigs (sgS ks) = ks.map fun k => (⟨#[sgC k]⟩ : Str) := by
  unfold sigs sgS
  show ((ks.map sgC).toArray.toList).map _ = _
  rw [List.toList_toArray, List.map_map]
  rfl
def goodL (x : Str) : List (Str × Bool) := [("n", nameB x), ("w", decide (x ∈ waysL)), ("c", decide (x ∈ coloursL))]
theorem good1 (x : Str) : mergeL [] (goodL x) = goodL x := rfl
theorem good2 (x : Str) (b : Bool) : put (goodL x) "l" b = goodL x ++ [((("l" : Str)), b)] := by
  unfold put
  have h1 : ¬ (("n" : Str) = "l") := by decide +kernel
  have h2 : ¬ (("w" : Str) = "l") := by decide +kernel
  have h3 : ¬ (("c" : Str) = "l") := by decide +kernel
  rw [if_neg]
  unfold goodL
  simp only [List.any_cons, List.any_nil, decide_eq_false h1, decide_eq_false h2, decide_eq_false h3]
  exact fun h => nomatch h
/-- what the dict says of a sign -/
theorem good_get (x : Str) (b : Bool) : ∀ k ∈ kinds6, (look (goodL x ++ [((("l" : Str)), b)]) (⟨#[sgC k]⟩ : Str)).getD false = if k = "name" then nameB x else if k = "way" then decide (x ∈ waysL) else if k = "colour" then decide (x ∈ coloursL) else if k = "letter" then b else false := by
  have hn : (("n" : Str)) = ⟨#[110]⟩ := by decide +kernel
  have hw : (("w" : Str)) = ⟨#[119]⟩ := by decide +kernel
  have hc : (("c" : Str)) = ⟨#[99]⟩ := by decide +kernel
  have hl : (("l" : Str)) = ⟨#[108]⟩ := by decide +kernel
  intro k hk
  unfold goodL look
  rw [hn, hw, hc, hl]
  generalize nameB x = b1
  generalize decide (x ∈ waysL) = b2
  generalize decide (x ∈ coloursL) = b3
  simp only [kinds6, List.mem_cons, List.not_mem_nil, or_false] at hk
  rcases hk with rfl | rfl | rfl | rfl | rfl | rfl <;> revert b b1 b2 b3 <;> decide +kernel
def goodB (k x : Str) : Bool := if k = "name" then nameB x else if k = "way" then decide (x ∈ waysL) else if k = "colour" then decide (x ∈ coloursL) else if k = "letter" then letB x else false
def good3 (k x : Str) : Option Th := if goodB k x = true then some (.s x) else none
def thing2 (k x : Str) : Option Th := if k = "plan" then (planL x).map Th.p else if k = "slot" then (digO x).map Th.n else good3 k x
theorem sg_s : ∀ k ∈ kinds6, decide ((⟨#[sgC k]⟩ : Str) = "s") = decide (k = "slot") := by decide +kernel
theorem sg_p : ∀ k ∈ kinds6, decide ((⟨#[sgC k]⟩ : Str) = "p") = decide (k = "plan") := by decide +kernel
theorem thing_o (k : Str) (h : k ∈ kinds6) (x : Str) : thing2 k x = rdB (thOk k) (thgM k) x := by
  have n1 : ¬ (("name" : Str) = "plan") := by decide +kernel
  have n2 : ¬ (("name" : Str) = "slot") := by decide +kernel
  have w1 : ¬ (("way" : Str) = "plan") := by decide +kernel
  have w2 : ¬ (("way" : Str) = "slot") := by decide +kernel
  have w3 : ¬ (("way" : Str) = "name") := by decide +kernel
  have c1 : ¬ (("colour" : Str) = "plan") := by decide +kernel
  have c2 : ¬ (("colour" : Str) = "slot") := by decide +kernel
  have c3 : ¬ (("colour" : Str) = "name") := by decide +kernel
  have c4 : ¬ (("colour" : Str) = "way") := by decide +kernel
  have l1 : ¬ (("letter" : Str) = "plan") := by decide +kernel
  have l2 : ¬ (("letter" : Str) = "slot") := by decide +kernel
  have l3 : ¬ (("letter" : Str) = "name") := by decide +kernel
  have l4 : ¬ (("letter" : Str) = "way") := by decide +kernel
  have l5 : ¬ (("letter" : Str) = "colour") := by decide +kernel
  have p1 : ¬ (("plan" : Str) = "name") := by decide +kernel
  have s1 : ¬ (("slot" : Str) = "plan") := by decide +kernel
  have s2 : ¬ (("slot" : Str) = "name") := by decide +kernel
  have s3 : ¬ (("slot" : Str) = "way") := by decide +kernel
  simp only [kinds6, List.mem_cons, List.not_mem_nil, or_false] at h
  rcases h with rfl | rfl | rfl | rfl | rfl | rfl
  · unfold thing2 good3 goodB rdB thOk thgM
    rw [if_neg n1, if_neg n2, if_pos rfl, if_pos rfl, if_neg n1, if_neg n2]
  · unfold thing2 rdB thOk thgM
    rw [if_pos rfl, if_neg p1, if_pos rfl, if_pos rfl, ← plan_law x]
    cases planOk x <;> rfl
  · unfold thing2 good3 goodB rdB thOk thgM
    rw [if_neg w1, if_neg w2, if_neg w3, if_pos rfl, if_neg w3, if_neg w1, if_pos rfl, if_neg w1, if_neg w2]
  · unfold thing2 rdB thOk thgM
    rw [if_neg s1, if_pos rfl, if_neg s2, if_neg s1, if_neg s3, if_pos rfl, if_neg s1, if_pos rfl]
    unfold digO
    cases numB x <;> rfl
  · unfold thing2 good3 goodB rdB thOk thgM
    rw [if_neg c1, if_neg c2, if_neg c3, if_neg c4, if_pos rfl, if_neg c3, if_neg c1, if_neg c4, if_neg c2, if_neg c1, if_neg c2]
  · unfold thing2 good3 goodB rdB thOk thgM
    rw [if_neg l1, if_neg l2, if_neg l3, if_neg l4, if_neg l5, if_pos rfl, if_neg l3, if_neg l1, if_neg l4, if_neg l2, if_neg l1, if_neg l2]
theorem let_good (x : Str) : (decide ((x.length : Int) = 1) && nameB x) = letB x := by
  unfold nameB letB
  by_cases h : x.length = 1
  · rw [decide_eq_true (show (x.length : Int) = 1 by omega), decide_eq_true h, h]; rfl
  · rw [decide_eq_false (show ¬ (x.length : Int) = 1 by omega), decide_eq_false h]; rfl
theorem ei_zipL {σ : L2.St} {G : Hp} {ta tb : TE} {K : Fg} {ys : List Str} {y : Str} (ha : Ev ta σ G ys) (hb : Ev tb σ G y) : EvI (iZipL K (tCons ta (tCons tb tNil))) σ G (ys.zip (sigs y)) := fun H i R q =>
  eih_zipL (ha.at i) (fun G1 H1 g1 => (hb.mono g1.g).at g1.i) R q
theorem th_nn (G : Hp) (v : V) (y : Th) (r : rep G v y) : v ≠ .non := by
  cases y with
  | s x => rw [show v = .str x from r]; exact fun h => nomatch h
  | n x => rw [show v = .int x from r]; exact fun h => nomatch h
  | p x =>
    obtain ⟨a, _, _, rfl, _⟩ := (show rep G v (x : Plan) from r)
    exact fun h => nomatch h
section
variable {P : Program} {w : World} {K : Fg} {mg : Str → Option Value} {base : Heap}
theorem q__law_read (T : Tg K mg) : Df P w K mg base 3 "_law_read" ["_law_text"] (sp1 (fun (z : Str) => z.length ≤ 20000) (fun z => Opt.mk ((deedM z).map Tup.mk))) := by
  have D1 := q__law_digits (P := P) (w := w) (base := base) T
  have D2 := q__law_good_name (P := P) (w := w) (base := base) T
  have D3 := q__law_plan_read (P := P) (w := w) (base := base) T
  refine T._law_read.ok sc__law_read (fun vs H Q E h => ?_) (fun cdv f A outer s H vs Q E hr h => ?_)
  · obtain ⟨v, x, G, rfl, _⟩ := h
    rfl
  obtain ⟨v, z, G, rfl, i, r1, hl, q⟩ := h
  have bl := T.bl
  refine ⟨_, (pss_cons (ps_set (i := 1) sc__law_read.nd rfl (by first | exact .inl rfl | exact .inr rfl) (pe_disp (pps_cons pe_str pe_str (pps_cons pe_str pe_str (pps_cons pe_str pe_str (pps_cons pe_str pe_str (pps_cons pe_str pe_str (pps_cons pe_str pe_str pps_nil)))))) (by rfl) (by rfl) (fun z => by cases z) (by decide)))
    (pss_cons (ps_expr (pe_bm PySem.F.plainAttrs_dict PySem.F.slot_dict_update PySem.F.type_dict_update mtd_update (pv 1) (pa_cons (pe_disp (pps_cons pe_str pe_str (pps_cons pe_str pe_str (pps_cons pe_str pe_str (pps_cons pe_str pe_str (pps_cons pe_str pe_str pps_nil))))) (by rfl) (by rfl) (fun z => by cases z) (by decide)) pa_nil)))
    (pss_cons (ps_set (i := 2) sc__law_read.nd rfl (by first | exact .inl rfl | exact .inr rfl) (pe_split (pv 0) pe_str))
    (pss_cons (ps_if (PW.pt (pw_or (pt_cmp (pc_dnotin (hu_of hr) (pe_ix (ix_listK (K := K) rfl) (pv 2) pe_int (fun _ _ => rfl)) (pv 1)) (by rfl)) (pw_or1 (pt_cmpR op_ne (pe_callB (call_lenK (K := K) rfl) (by rfl) (bl "len" (by decide)) (by decide +kernel) (pa_cons (pv 2) pa_nil)) (pe_op op_add pe_int (pe_callB call_len_str (by rfl) (bl "len" (by decide)) (by decide +kernel) (pa_cons (pe_dget (hu_of hr) (pv 1) (pe_ix (ix_listK (K := K) rfl) (pv 2) pe_int (fun _ _ => rfl)) (fun _ _ => rfl)) pa_nil))) (nomark _)))))
      (pss_one (ps_ret pe_non))
      pss_nil)
    (pss_cons (ps_set (i := 3) sc__law_read.nd rfl (by first | exact .inl rfl | exact .inr rfl) (pe_lst (pa_cons (pe_ix (ix_listK (K := K) rfl) (pv 2) pe_int (fun _ _ => rfl)) pa_nil)))
    (pss_cons (ps_for PassesOwn.never rfl (pi_zipL (K := K) rfl (by rfl) (bl "zip" (by decide)) (pa_cons (pe_slice (sl_listK (K := K) rfl) (pv 2) (po_some pe_int) po_none) (pa_cons (pe_dget (hu_of hr) (pv 1) (pe_ix (ix_listK (K := K) rfl) (pv 2) pe_int (fun _ _ => rfl)) (fun _ _ => rfl)) pa_nil))) (pg_tupK (K := K) (n := 2) rfl (pg_tup rfl (pgs_cons (pg_name (i := 4) sc__law_read.nd rfl (by first | exact .inl rfl | exact .inr rfl)) (pgs_cons (pg_name (i := 5) sc__law_read.nd rfl (by first | exact .inl rfl | exact .inr rfl)) pgs_nil))))
      (pss_cons (ps_set (i := 6) sc__law_read.nd rfl (by first | exact .inl rfl | exact .inr rfl) (pe_disp (pps_cons pe_str (pe_df D2 hr (by first | decide | omega) (by rfl) (pa_cons (pv 4) pa_nil)) (pps_cons pe_str (pe_cmpR op_in_seq (pv 4) (pe_tup (pa_cons pe_str (pa_cons pe_str pa_nil))) (by rfl)) (pps_cons pe_str (pe_cmpR op_in_seq (pv 4) (pe_tup (pa_cons pe_str (pa_cons pe_str (pa_cons pe_str pa_nil)))) (by rfl)) pps_nil))) (by rfl) (by rfl) (fun z => by cases z) (by decide)))
      (pss_cons (ps_dput (hu_of hr) (pv 6) pe_str (pe_and (pe_cmpR op_eq (pe_callB call_len_str (by rfl) (bl "len" (by decide)) (by decide +kernel) (pa_cons (pv 4) pa_nil)) pe_int (nomark _)) (pe_one (pe_df D2 hr (by first | decide | omega) (by rfl) (pa_cons (pv 4) pa_nil)))) rfl)
      (pss_cons (ps_set (i := 7) sc__law_read.nd rfl (by first | exact .inl rfl | exact .inr rfl) (pe_ifExp (pt_val (pe_dget2 (hu_of hr) (pv 6) (pv 5) pe_bl ⟨rfl, rfl, rfl, rfl⟩)) (pv 4) pe_non))
      (C8.pss_cut (ps_if (pt_cmpR op_eq (pv 5) pe_str (nomark _))
        (pss_one (ps_set (i := 7) sc__law_read.nd rfl (by first | exact .inl rfl | exact .inr rfl) (pe_df D1 hr (by first | decide | omega) (by rfl) (pa_cons (pv 4) pa_nil))))
        pss_nil)
      (C8.pss_cut (ps_if (pt_cmpR op_eq (pv 5) pe_str (nomark _))
        (pss_one (ps_set (i := 7) sc__law_read.nd rfl (by first | exact .inl rfl | exact .inr rfl) (pe_df D3 hr (by first | decide | omega) (by rfl) (pa_cons (pv 4) pa_nil))))
        pss_nil)
      (pss_cons (ps_if (pt_cmpR op_isN (pv 7) pe_non (nomark _))
        (pss_one (ps_ret pe_non))
        pss_nil)
      (pss_one (ps_expr (pe_bm PySem.F.plainAttrs_list PySem.F.slot_list_append PySem.F.type_list_append mt_append (pv 3) (pa_cons (pv 7) pa_nil)))))))))))
    (pss_one (ps_ret (pe_callTy (call_tupleK (K := K) rfl) (by rfl) (bl "tuple" (by decide)) (by decide +kernel) (pa_cons (pv 3) pa_nil)))))))))), ?_⟩
  obtain ⟨w0, ws, hsp⟩ : ∃ w0 ws, Txt.split z " " = w0 :: ws := by
    cases e : Txt.split z " " with
    | nil => exact absurd e (split_ne tl_blank (by decide) z)
    | cons a l => exact ⟨a, l, rfl⟩
  have hm : deedM z = match kindsOf w0 with
      | none => none
      | some ks => (thingsO ks ws).map (Th.s w0 :: ·) := by
    first
    | (rw [deedM_o, hsp]; done)
    | (rw [deedM_o, hsp]; rfl)
  have hsl := PyProof.Rows.split_le z " "
  rw [hsp, List.length_cons] at hsl
  have hwl : ∀ y ∈ ws, y.length ≤ 20000 := fun y hy => by
    have := PyProof.Rows.part_short (x := z) (y := " ") (show y ∈ Txt.split z " " by rw [hsp]; exact List.mem_cons_of_mem _ hy)
    omega
  refine sq_disp (κ := Str) (α := Str) (G := G) (l := formsA) (eps_cons ev_str ev_str (eps_cons ev_str ev_str (eps_cons ev_str ev_str (eps_cons ev_str ev_str (eps_cons ev_str ev_str (eps_cons ev_str ev_str eps_nil)))))) i (by decide) (fun d G1 H1 o1 g1 nd md1 s1 => ?_)
  have gr1 : Gr M0 G H G1 (upd H1 d o1) := g1.mut (.inl nd) md1.1
  rw [forms1] at md1
  generalize upd H1 d o1 = HA at md1 s1 gr1
  refine sq_upd (G := G1) (ml := formsB) rfl md1 s1 (eps_cons ev_str ev_str (eps_cons ev_str ev_str (eps_cons ev_str ev_str (eps_cons ev_str ev_str (eps_cons ev_str ev_str eps_nil))))) (by decide) (by decide +kernel) (fun G2 H2 o2 g2 md2 s2 => ?_)
  have gr2 : Gr M0 G H G2 (upd H2 d o2) := (gr1.trans g2).mut (.inl nd) md2.1
  rw [forms2] at md2
  generalize upd H2 d o2 = HB at md2 s2 gr2
  obtain ⟨G3, g3, rf, s23⟩ := md2.frz gr2 nd
  refine sq_set (G := G3) (x := w0 :: ws) (Ev.cast (ev_splitS (a := z) (b := " ") (ev_var rfl (Rep.mono g3.g r1)) ev_str (by decide +kernel) (by omega)) hsp) g3.i (fun wv G4 H4 g4 rw4 => ?_)
  have g04 := g3.trans g4
  have rf4 := Rep.mono g4.g rf
  have i0 : ∀ {G' : Hp} {a3 a4 a5 a6 a7 : Option V}, rep G' wv (w0 :: ws) → Ev (tOp (rIxL K) (tVar 2) (tC (.int 0))) [some v, some (.ref d), some wv, a3, a4, a5, a6, a7] G' w0 := fun r => Ev.cast (ev_ixL (xs := w0 :: ws) (i := 0) (ev_var rfl r) ev_int ⟨by decide, by rw [List.length_cons]; omega⟩) rfl
  cases hk : kindsOf w0 with
  | none =>
    rw [hk] at hm
    refine sq_ifn (G := G4) (b := true) (EvT.cast (et_or (a := true) (b := false) (et_B (Ev.cast (ev_knotin (d := Dck.mk formsL) (i0 rw4) (ev_var rfl rf4)) (by rw [look_forms, hk]; rfl))) (fun hb => by cases hb)) rfl) g4.i (fun hb G5 H5 g5 => ?_) (fun hb _ _ _ => by cases hb)
    refine st_ret (G := G5) (x := Opt.mk ((deedM z).map Tup.mk)) (Ev.cast ev_oNone ?_) g5.i (fun v G' H' g r => q v G' H' ((g04.trans g5).trans g) r)
    rw [hm]; rfl
  | some ks =>
    rw [hk] at hm
    have hm : deedM z = (thingsO ks ws).map (Th.s w0 :: ·) := hm
    have hlk : look formsL w0 = some (sgS ks) := by rw [look_forms, hk]; rfl
    obtain ⟨_, _, kl, _⟩ := kinds_facts hk
    have hsg : (sgS ks).length = ks.length := by
      show (ks.map sgC).toArray.size = _
      simp
    refine sq_ifn (G := G4) (b := !decide (ws.length = ks.length)) (EvT.cast (et_or (a := false) (b := !decide (((w0 :: ws).length : Int) = 1 + ((sgS ks).length : Int))) (et_B (Ev.cast (ev_knotin (d := Dck.mk formsL) (i0 rw4) (ev_var rfl rf4)) (by rw [hlk]; rfl))) (fun _ => et_test (ev_neI (ev_lenL (xs := w0 :: ws) (ev_var rfl rw4)) (ev_add ev_int (ev_lenS (ev_kget (d := Dck.mk formsL) (ev_var rfl rf4) (i0 rw4) hlk) (by omega)))))) ?_) g4.i (fun hb G5 H5 g5 => ?_) (fun hb G5 H5 g5 => ?_)
    · rw [Bool.false_or, hsg, List.length_cons]
      congr 1
      exact decide_eq_decide.mpr (by omega)
    · refine st_ret (G := G5) (x := Opt.mk ((deedM z).map Tup.mk)) (Ev.cast ev_oNone ?_) g5.i (fun v G' H' g r => q v G' H' ((g04.trans g5).trans g) r)
      have hne : ¬ (ks.length = ws.length) := fun h => by rw [h, decide_eq_true rfl] at hb; cases hb
      rw [hm]
      unfold thingsO
      rw [if_neg fun h => hne h.1]
      rfl
    have hlen : ks.length = ws.length := by
      have := of_decide_eq_true ((Bool.not_eq_false' _).mp hb)
      omega
    have g05 := g04.trans g5
    have rw5 := Rep.mono g5.g rw4
    have rf5 := Rep.mono g5.g rf4
    refine sq_newlist (α := Th) (G := G5) (xs := [Th.s w0]) (evs_cons (fun H i Q q => i0 rw5 H i Q q) evs_nil) g5.i (by show 1 ≤ 100000; decide) (fun p G6 H6 o6 g6 np ml s6 => ?_)
    have npH := up_none g05.same (up_none g6.same np)
    have g06 : Gr M0 G H G6 (upd H6 p o6) := (g05.trans g6).mut (.inl npH) ml.1
    generalize upd H6 p o6 = HC at ml s6 g06
    have rw6 := Rep.mono g6.g rw5
    have rf6 := Rep.mono g6.g rf5
    have hcut : cutI (w0 :: ws) (some 1) none = ws := by
      unfold cutI
      rw [HT.sIx_none]
      show ((w0 :: ws).drop (HT.sIx (ws.length + 1) 0 (some ((1 : Nat) : Int)))).take _ = ws
      rw [HT.sIx_nat, Nat.min_eq_left (by omega)]
      show ws.take _ = ws
      refine List.take_of_length_le ?_
      show ws.length ≤ (ws.length + 1) - HT.sIx (ws.length + 1) 0 (some ((1 : Nat) : Int))
      rw [HT.sIx_nat, Nat.min_eq_left (by omega)]
      omega
    refine sq_for (G := G6) (xs := ws.zip (sigs (sgS ks))) (fun k σ G' H' => Gr M0 G H G' H' ∧ Same G6 G' ∧ ((ks.zip ws).take k).all (fun kw => thOk kw.1 kw.2) = true ∧ Ml G' H' p (Th.s w0 :: ((ks.zip ws).take k).map fun kw => thgM kw.1 kw.2) ∧ ∃ a4 a5 a6 a7, σ = [some v, some (.ref d), some wv, some (.ref p), a4, a5, a6, a7]) (ei_zipL (ev_slL (K := K) (xs := w0 :: ws) (lo := some 1) (hi := none) (ev_var rfl rw6) (eo_some ev_int) eo_none |>.cast hcut) (ev_kget (d := Dck.mk formsL) (ev_var rfl rf6) (i0 rw6) hlk)) s6 ?_ ?_ ?_
    · intro G7 H7 g7
      exact ⟨g06.trans g7, g7.g, rfl, ml.step0 g7, _, _, _, _, rfl⟩
    · intro k e ev σ' G7 H7 G8 H8 hke e1 e2 hP g8 r8
      obtain ⟨gr7, s67, hall, ml7, a4, a5, a6, a7, rfl⟩ := hP
      rw [sig_sgS, List.getElem?_zip_eq_some, List.getElem?_map] at hke
      obtain ⟨hk1, hk2⟩ := hke
      obtain ⟨kk, hk3, hk4⟩ := Option.map_eq_some_iff.mp hk2
      obtain ⟨x, sg⟩ := e
      have hk1 : ws[k]? = some x := hk1
      have hk4 : (⟨#[sgC kk]⟩ : Str) = sg := hk4
      subst hk4
      have hk6 := kinds_six hk kk (List.mem_of_getElem? hk3)
      have hxl := hwl x (List.mem_of_getElem? hk1)
      have hzk : (ks.zip ws)[k]? = some (kk, x) := by rw [List.getElem?_zip_eq_some]; exact ⟨hk3, hk1⟩
      have hkz := (List.getElem?_eq_some_iff.mp hzk).1
      refine gp (G := G8) r8 g8.i fun xv sv rx rs => ?_
      have rx : rep G8 xv x := rx
      have rs : rep G8 sv (⟨#[sgC kk]⟩ : Str) := rs
      have gr8 := gr7.trans g8
      have ml8 := ml7.step0 g8
      refine sq_disp (κ := Str) (α := Bool) (G := G8) (l := goodL x) (eps_cons ev_str (ev_call1 (f := nameB) (ev_var rfl rx) (by omega)) (eps_cons ev_str (ev_inT2 (x := x) (ys := Tup.mk waysL) (ev_var rfl rx) (ev_tupn (evs_cons ev_str (evs_cons ev_str evs_nil)) (by show 2 ≤ 100000; decide))) (eps_cons ev_str (ev_inT2 (x := x) (ys := Tup.mk coloursL) (ev_var rfl rx) (ev_tupn (evs_cons ev_str (evs_cons ev_str (evs_cons ev_str evs_nil))) (by show 3 ≤ 100000; decide))) eps_nil))) g8.i (by show 3 ≤ 15; decide) (fun d2 G9 H9 o9 g9 nd9 md9 s9 => ?_)
      rw [good1] at md9
      have g89 : Gr M0 G8 H8 G9 (upd H9 d2 o9) := g9.mut (.inl nd9) md9.1
      generalize upd H9 d2 o9 = HD at md9 s9 g89
      have rx9 := Rep.mono g89.g rx
      refine sq_kput (l := goodL x) (p := (("l" : Str))) (x := letB x) rfl md9 s9 ((Ev.cast (ev_andV (ev_eqI (ev_lenS (ev_var rfl rx9) (by omega)) ev_int) (fun _ => ev_call1 (f := nameB) (ev_var rfl rx9) (by omega))) (let_good x)).at s9) ev_str (by show 3 < 100000; decide) (fun G10 H10 o10 g10 md10 s10 => ?_)
      have g810 : Gr M0 G8 H8 G10 (upd H10 d2 o10) := (g89.trans g10).mut (.inl nd9) md10.1
      rw [good2] at md10
      generalize upd H10 d2 o10 = HE at md10 s10 g810
      obtain ⟨G11, g11, rg, s11⟩ := md10.frz g810 nd9
      have rx11 := Rep.mono g11.g rx
      have rs11 := Rep.mono g11.g rs
      refine sq_set (G := G11) (x := Opt.mk (good3 kk x)) (Ev.cast (ev_if (b := goodB kk x) (x := Opt.mk (some (Th.s x))) (y := Opt.mk (none : Option Th)) (et_B (Ev.cast (ev_kget2k (d := Dck.mk (goodL x ++ [((("l" : Str)), letB x)])) (ev_var rfl rg) (ev_var rfl rs11) ev_bl) (good_get x (letB x) kk hk6))) (fun _ => Ev.opt (x := Th.s x) (fun H i Q q => ev_var (x := x) rfl rx11 H i Q q)) (fun _ => ev_oNone)) (by unfold good3; cases goodB kk x <;> rfl)) g11.i (fun tv G12 H12 g12 r12 => ?_)
      have g812 := g11.trans g12
      refine sq_cut (fun σ' H' => ∃ tv G', Gr M0 G8 H8 G' H' ∧ rep G' tv (Opt.mk (if kk = "slot" then (digO x).map Th.n else good3 kk x)) ∧ σ' = [some v, some (.ref d), some wv, some (.ref p), some xv, some sv, some (.ref d2), some tv]) ?_ ?_
      · refine st_if (G := G12) (b := decide (kk = "slot")) (et_test (Ev.cast (ev_eqS (ev_var rfl (Rep.mono g812.g rs)) ev_str) (sg_s kk hk6))) g12.i (fun hb G13 H13 g13 => ?_) (fun hb G13 H13 g13 => ?_)
        · refine st_set (G := G13) (x := Opt.mk (digO x)) (ev_call1 (f := fun z => Opt.mk (digO z)) (ev_var rfl (Rep.mono (g812.trans g13).g rx)) (by omega)) g13.i (fun v2 G14 H14 g14 r14 => ⟨v2, G14, (g812.trans g13).trans g14, ?_, rfl⟩)
          rw [if_pos (of_decide_eq_true hb)]
          cases hd : digO x with
          | none => rw [hd] at r14; exact r14
          | some j => rw [hd] at r14; exact r14
        · refine ⟨tv, G13, g812.trans g13, ?_, rfl⟩
          rw [if_neg (of_decide_eq_false hb)]
          exact Rep.mono g13.g r12
      rintro _ H13 ⟨tv3, G13, g813, r13, rfl⟩
      refine sq_cut (fun σ' H' => ∃ tv G', Gr M0 G8 H8 G' H' ∧ rep G' tv (Opt.mk (thing2 kk x)) ∧ σ' = [some v, some (.ref d), some wv, some (.ref p), some xv, some sv, some (.ref d2), some tv]) ?_ ?_
      · refine st_if (G := G13) (b := decide (kk = "plan")) (et_test (Ev.cast (ev_eqS (ev_var rfl (Rep.mono g813.g rs)) ev_str) (sg_p kk hk6))) g813.i (fun hb G14 H14 g14 => ?_) (fun hb G14 H14 g14 => ?_)
        · refine st_set (G := G14) (x := Opt.mk (planL x)) (ev_call1 (f := fun z => Opt.mk (planL z)) (ev_var rfl (Rep.mono (g813.trans g14).g rx)) hxl) g14.i (fun v2 G15 H15 g15 r15 => ⟨v2, G15, (g813.trans g14).trans g15, ?_, rfl⟩)
          unfold thing2
          rw [if_pos (of_decide_eq_true hb)]
          cases hd : planL x with
          | none => rw [hd] at r15; exact r15
          | some j => rw [hd] at r15; exact r15
        · refine ⟨tv3, G14, g813.trans g14, ?_, rfl⟩
          unfold thing2
          rw [if_neg (of_decide_eq_false hb)]
          exact Rep.mono g14.g r13
      rintro _ H14 ⟨tv4, G14, g814, r14, rfl⟩
      rw [thing_o kk hk6 x] at r14
      refine sq_ifn (G := G14) (b := !thOk kk x) (EvT.cast (et_test (ev_isO (x := Opt.mk (rdB (thOk kk) (thgM kk) x)) th_nn (ev_var rfl r14))) (by unfold rdB; cases thOk kk x <;> rfl)) g814.i (fun hb G15 H15 g15 => ?_) (fun hb G15 H15 g15 => ?_)
      · refine st_ret (G := G15) (x := Opt.mk ((deedM z).map Tup.mk)) (Ev.cast ev_oNone ?_) g15.i (fun v G' H' g r => q v G' H' (((gr8.trans g814).trans g15).trans g) r)
        rw [hm]
        unfold thingsO
        rw [if_neg]
        · rfl
        · rintro ⟨_, ha⟩
          have h1 : thOk kk x = true := List.all_eq_true.mp ha (kk, x) (List.mem_of_getElem? hzk)
          rw [h1] at hb; cases hb
      · have hth : thOk kk x = true := by simpa using hb
        unfold rdB at r14
        rw [if_pos hth] at r14
        have r15 : rep G15 tv4 (thgM kk x) := Rep.mono (x := thgM kk x) g15.g r14
        refine st_append (G := G15) (i := 3) (p := p) (x := thgM kk x) rfl ((ml8.step0 g814).step0 g15) (ev_var rfl r15) g15.i ?_ (fun G16 H16 o16 g16 ml16 s16 => ?_)
        · rw [List.length_cons, List.length_map, List.length_take, List.length_zip]; omega
        · refine ⟨G16, ((g8.g.trans g814.g).trans g15.g).trans g16.g, s16, (((gr8.trans g814).trans g15).trans g16).mut (.inl npH) ml16.1, s67.trans (((g8.g.trans g814.g).trans g15.g).trans g16.g), ?_, ?_, _, _, _, _, rfl⟩
          · rw [List.take_add_one, hzk, List.all_append, hall]
            simp [hth]
          · rw [List.take_add_one, hzk, List.map_append]
            exact ml16
    · intro σ' G7 H7 e1 e2 hP
      obtain ⟨gr7, s67, hall, ml7, a4, a5, a6, a7, rfl⟩ := hP
      have hzl : (ws.zip (sigs (sgS ks))).length = (ks.zip ws).length := by
        rw [sig_sgS, List.length_zip, List.length_zip, List.length_map]
        omega
      rw [hzl, List.take_length] at hall ml7
      obtain ⟨G8, g8, r8, s8⟩ := ml7.frz gr7 npH
      refine st_ret (G := G8) (x := Opt.mk ((deedM z).map Tup.mk)) (Ev.cast (Ev.opt (ev_tupleL (ev_var rfl r8))) ?_) g8.i (fun v G' H' g r => q v G' H' (g8.trans g) r)
      rw [hm]
      unfold thingsO
      rw [if_pos ⟨hlen, hall⟩]
      rfl
end


open TL (tl numL)
structure BtG (mg : Str → Option Value) (C : Addr) : Prop where
  g : mg "BadText" = some (.ref C)
/-- what is known of BadText beside its making -/
abbrev BadF (K : Fg) (mg : Str → Option Value) : Prop := ∀ C, mg "BadText" = some (.ref C) → XfC K C ∧ PySem.W.findIn K (.ref C) "at" = some none ∧ PySem.W.exmOne K (.ref C) (.ref C) = some true
theorem sq_here {D : Ends} {u t : TS} {σ : L2.St} {H : Hp} (h : t { D with nx := u D } σ H) : tSeq t u D σ H := h
theorem st_setO {β : Type} [Rep β] {σ : L2.St} {G H : Hp} {te : TE} {C : Addr} {W : XK} {D : Ends} {i : Nat} {o : Option β} (h : EvBd C W te σ G o) (s : Same G H) (k : ∀ x v G' H', o = some x → Gr M0 G H G' H' → rep G' v x → D.nx (σ.set i (some v)) H') (bad : o = none → BadW C W G H) : tAsg te (gName i) D σ H := h H s _ k bad
def toldM (z : Str) : List Th := (deedM z).getD [Th.s "BadText", Th.n 0]
section
variable {P : Program} {w : World} {K : Fg} {mg : Str → Option Value} {base : Heap} {CB : Addr}
theorem q__law_told_text (T : Tg K mg) (B : BtX P w K mg base CB) (BF : BadF K mg) (R : ReadersW w K mg) (O : ThingsW w K mg) (Z : MissW w K mg) : Df P w K mg base 9 "_law_told_text" ["_law_text"] (sp1 (fun (z : Str) => z.length ≤ 8000) (fun z => Tup.mk (toldM z))) := by
  have X1 := r_read_deed T B R O Z
  have e_BadText : BtG mg CB := ⟨B.m⟩
  obtain ⟨XF, XN, XM⟩ := BF CB B.m
  have bl := T.bl
  refine T._law_told_text.ok sc__law_told_text (fun vs H Q E h => ?_) (fun cdv f A outer s H vs Q E hr h => ?_)
  · obtain ⟨v, x, G, rfl, _⟩ := h
    rfl
  obtain ⟨v, z, G, rfl, i, r1, hl, q⟩ := h
  refine ⟨_, (pss_cons (L2N.ps_try_as (tb := _) (i := 2) (Wout := fun _ _ _ _ => False) rfl rfl sc__law_told_text.nd rfl rfl ⟨rfl, by decide, .inl e_BadText.g⟩ takes_n5
      (fun W pn xe tk po => (pss_one (ps_set (i := 1) sc__law_told_text.nd rfl (by first | exact .inl rfl | exact .inr rfl) (pe_dfS X1 hr (by first | decide | omega) (by rfl) tk (pa_cons (pv 0) pa_nil)))))
      (fun a oe cls d pn hz hf => (pss_one (ps_set (i := 1) sc__law_told_text.nd rfl (by first | exact .inl rfl | exact .inr rfl) (pe_tup (pa_cons pe_str (pa_cons (pe_xf XF XN hz.zc hf (pv 2)) pa_nil)))))))
    (pss_one (ps_ret (pv 1)))), ?_⟩
  have q : ∀ (v' : V) (G' H' : Hp), Gr M0 G H G' H' → rep G' v' (Tup.mk (toldM z)) → Q v' H' := fun v' G' H' g r => q v' G' H' g r
  refine sq_here ?_
  refine st_setO (β := Tup Th) (G := G) (C := CB) (o := (deedM z).map Tup.mk) (evb_call1 (f := fun z => (deedM z).map Tup.mk) (ev_var rfl r1) hl) i (fun x v2 G1 H1 e g1 r2 => ?_) (fun e d u G1 H1 g1 ed ru => ?_)
  · refine st_ret (G := G1) (x := x) (ev_var rfl r2) g1.i (fun v' G' H' g r => q v' G' H' (g1.trans g) ?_)
    obtain ⟨dd, e1, e2⟩ := Option.map_eq_some_iff.mp e
    unfold toldM
    rw [e1]
    rw [← e2] at r
    exact r
  · refine ⟨true, XM, fun _ a na => ?_, fun z => by cases z⟩
    have e0 : deedM z = none := Option.map_eq_none_iff.mp e
    refine st_set (G := G1) (x := Tup.mk [Th.s "BadText", Th.n 0]) (ev_tupn (evs_cons (x := Th.s "BadText") (fun H i Q q => ev_str (n := "BadText") H i Q q) (evs_cons (x := Th.n 0) (fun H i Q q => ⟨.ref a, rfl, rfl, rfl, d, [("at", u)], u, rfl, i _ _ ed, rfl, q u G1 H (Gr.refl i) ru⟩) evs_nil)) (by show 2 ≤ 100000; decide)) g1.i (fun v2 G2 H2 g2 r2 => ?_)
    refine st_ret (G := G2) (x := Tup.mk [Th.s "BadText", Th.n 0]) (ev_var rfl r2) g2.i (fun v' G' H' g r => q v' G' H' ((g1.trans g2).trans g) ?_)
    unfold toldM
    rw [e0]
    exact r
end


open TL (tl numL)
theorem cutS_len (z : Str) (lo hi : Option Int) : (cutS z lo hi).length ≤ z.length := by
  unfold cutS
  show (List.toArray _).size ≤ z.length
  rw [List.size_toArray, List.length_take, List.length_drop, ← TL.len_tl]
  omega
theorem atI_to {α : Type} {xs : List α} {r : Int} {c : α} (h0 : 0 ≤ r) (h : xs[r.toNat]? = some c) : atI xs r = some c := by
  have e : r = ((r.toNat : Nat) : Int) := by omega
  rw [e]
  exact atI_nat h
theorem cutI_take {ι : Type} {xs : List ι} {k : Nat} (h : k ≤ xs.length) : cutI xs none (some (k : Int)) = xs.take k := by
  unfold cutI
  rw [HT.sIx_none, HT.sIx_nat, Nat.min_eq_left h]
  rfl
theorem cutI_drop {ι : Type} {xs : List ι} {k : Nat} (h : k ≤ xs.length) : cutI xs (some (k : Int)) none = xs.drop k := by
  unfold cutI
  rw [HT.sIx_none, HT.sIx_nat, Nat.min_eq_left h]
  exact List.take_of_length_le (by rw [List.length_drop]; omega)
theorem lenSum_app (a b : List Str) : lenSum (a ++ b) = lenSum a + lenSum b := by
  unfold lenSum
  rw [List.map_append, List.sum_append]
theorem lenSum_one (a : Str) : lenSum [a] = a.length := by unfold lenSum; simp
theorem split_sum : ∀ (n : Nat) (z : Str), (tl z).length ≤ n → lenSum (Txt.split z " ") + (Txt.split z " ").length = z.length + 1
  | n, z, hn => by
    rcases cut_at tl_blank (by decide) z with ⟨_, _, e⟩ | ⟨p, q, h1, _, _, e⟩
    · rw [e, lenSum_one]; rfl
    · have hz : z.length = p.length + 1 + q.length := by
        rw [TL.len_tl, h1, List.length_append, List.length_cons, ← TL.len_tl, ← TL.len_tl]; omega
      match n, hn with
      | 0, hn => rw [h1, List.length_append, List.length_cons] at hn; omega
      | n + 1, hn =>
        have ih := split_sum n q (by rw [h1, List.length_append, List.length_cons] at hn; omega)
        rw [e, List.length_cons]
        show p.length + lenSum (Txt.split q " ") + ((Txt.split q " ").length + 1) = _
        omega
theorem cat_go {va vb : V} {H : Hp} {Q : VK} (h : tOp rCat (tC va) (tC vb) [] H Q) : rCat va vb H Q := h
def odd1 : List Str := ["", "00", "01", "10000", "-1", "3:", "4:0-2", "4:", "5:0-2,", "3:0-1-2", "red", "even"]
def odd2 : List Str := ["abcdefghi", "A", "fold", "k"]
def spBent : Sp := fun vs H Q _ => ∃ b v z G, vs = [.ref b, v] ∧ Same G H ∧ Bag G H b ∧ rep G v (z : Str) ∧ z.length ≤ 2000 ∧ ∀ (y : Str) v' G' H', y.length ≤ 3 * z.length + 100 → Gr (Mb b) G H G' H' → Bag G' H' b → rep G' v' y → Q v' H'
section
variable {P : Program} {w : World} {K : Fg} {mg : Str → Option Value} {base : Heap}
theorem q__law_bent_text (T : Tg K mg) : Df P w K mg base 2 "_law_bent_text" ["_law_bag_here", "_law_text"] spBent := by
  refine T._law_bent_text.ok sc__law_bent_text (fun vs H Q E h => ?_) (fun cdv f A outer s H vs Q E hr h => ?_)
  · obtain ⟨b, v, z, G, rfl, _⟩ := h
    rfl
  obtain ⟨b, v, z, G, rfl, i, bg, r1, hl, q⟩ := h
  have bl := T.bl
  refine ⟨_, (pss_cons (ps_set (i := 2) sc__law_bent_text.nd rfl (by first | exact .inl rfl | exact .inr rfl) (pe_df (q__law_pull T) hr (by first | decide | omega) (by rfl) (pa_cons (pv 0) (pa_cons (pe_op op_add (pe_callB call_len_str (by rfl) (bl "len" (by decide)) (by decide +kernel) (pa_cons (pv 1) pa_nil)) pe_int) pa_nil))))
    (pss_cons (ps_set (i := 3) sc__law_bent_text.nd rfl (by first | exact .inl rfl | exact .inr rfl) (pe_ix ix_str pe_str (pe_df (q__law_pull T) hr (by first | decide | omega) (by rfl) (pa_cons (pv 0) (pa_cons pe_int pa_nil))) (fun _ _ => rfl)))
    (pss_cons (ps_set (i := 4) sc__law_bent_text.nd rfl (by first | exact .inl rfl | exact .inr rfl) (pe_df (q__law_pull T) hr (by first | decide | omega) (by rfl) (pa_cons (pv 0) (pa_cons pe_int pa_nil))))
    (pss_cons (ps_if (pt_cmpR op_eq (pv 4) pe_int (nomark _))
      (pss_one (ps_ret (pe_op op_add_str (pe_op op_add_str (pe_slice sl_str (pv 1) po_none (po_some (pv 2))) (pv 3)) (pe_slice sl_str (pv 1) (po_some (pv 2)) po_none))))
      pss_nil)
    (pss_cons (ps_if (pt_cmpR op_eq (pv 4) pe_int (nomark _))
      (pss_one (ps_ret (pe_op op_add_str (pe_slice sl_str (pv 1) po_none (po_some (pv 2))) (pe_slice sl_str (pv 1) (po_some (pe_op op_add (pv 2) pe_int)) po_none))))
      pss_nil)
    (pss_cons (ps_if (pt_cmpR op_eq (pv 4) pe_int (nomark _))
      (pss_one (ps_ret (pe_op op_add_str (pe_op op_add_str (pe_slice sl_str (pv 1) po_none (po_some (pv 2))) (pv 3)) (pe_slice sl_str (pv 1) (po_some (pe_op op_add (pv 2) pe_int)) po_none))))
      pss_nil)
    (pss_cons (ps_set (i := 5) sc__law_bent_text.nd rfl (by first | exact .inl rfl | exact .inr rfl) (pe_split (pv 1) pe_str))
    (pss_cons (ps_set (i := 6) sc__law_bent_text.nd rfl (by first | exact .inl rfl | exact .inr rfl) (pe_df (q__law_pull T) hr (by first | decide | omega) (by rfl) (pa_cons (pv 0) (pa_cons (pe_callB (call_lenK (K := K) rfl) (by rfl) (bl "len" (by decide)) (by decide +kernel) (pa_cons (pv 5) pa_nil)) pa_nil))))
    (pss_cons (ps_set (i := 7) sc__law_bent_text.nd rfl (by first | exact .inl rfl | exact .inr rfl) (pe_lst (pa_cons pe_str (pa_cons pe_str (pa_cons pe_str (pa_cons pe_str (pa_cons pe_str (pa_cons pe_str (pa_cons pe_str (pa_cons pe_str (pa_cons pe_str (pa_cons pe_str (pa_cons pe_str (pa_cons pe_str pa_nil))))))))))))))
    (pss_cons (ps_set (i := 7) sc__law_bent_text.nd rfl (by first | exact .inl rfl | exact .inr rfl) (pe_op op_cat (pv 7) (pe_lst (pa_cons pe_str (pa_cons pe_str (pa_cons pe_str (pa_cons pe_str pa_nil)))))))
    (pss_cons (ps_if (pt_cmpR op_eq (pv 4) pe_int (nomark _))
      (pss_one (ps_ret (pe_bm PySem.F.plainAttrs_str PySem.F.slot_str_join PySem.F.type_str_join (mt_joinK (K := K) rfl) pe_str (pa_cons (pe_op op_cat (pe_slice (sl_listK (K := K) rfl) (pv 5) po_none (po_some (pv 6))) (pe_slice (sl_listK (K := K) rfl) (pv 5) (po_some (pe_op op_add (pv 6) pe_int)) po_none)) pa_nil))))
      pss_nil)
    (pss_cons (ps_if (pt_cmpR op_eq (pv 4) pe_int (nomark _))
      (pss_one (ps_ret (pe_bm PySem.F.plainAttrs_str PySem.F.slot_str_join PySem.F.type_str_join (mt_joinK (K := K) rfl) pe_str (pa_cons (pe_op op_cat (pe_op op_cat (pe_slice (sl_listK (K := K) rfl) (pv 5) po_none (po_some (pv 6))) (pe_lst (pa_cons (pe_ix (ix_listK (K := K) rfl) (pv 5) (pv 6) (fun _ _ => rfl)) (pa_cons (pe_ix (ix_listK (K := K) rfl) (pv 5) (pv 6) (fun _ _ => rfl)) pa_nil)))) (pe_slice (sl_listK (K := K) rfl) (pv 5) (po_some (pe_op op_add (pv 6) pe_int)) po_none)) pa_nil))))
      pss_nil)
    (pss_cons (ps_if (pt_cmpR op_eq (pv 4) pe_int (nomark _))
      (pss_one (ps_ret (pe_bm PySem.F.plainAttrs_str PySem.F.slot_str_join PySem.F.type_str_join (mt_joinK (K := K) rfl) pe_str (pa_cons (pe_op op_cat (pe_op op_cat (pe_slice (sl_listK (K := K) rfl) (pv 5) po_none (po_some (pv 6))) (pe_lst (pa_cons (pe_ix (ix_listK (K := K) rfl) (pv 7) (pe_df (q__law_pull T) hr (by first | decide | omega) (by rfl) (pa_cons (pv 0) (pa_cons pe_int pa_nil))) (fun _ _ => rfl)) pa_nil))) (pe_slice (sl_listK (K := K) rfl) (pv 5) (po_some (pe_op op_add (pv 6) pe_int)) po_none)) pa_nil))))
      pss_nil)
    (pss_one (ps_ret (pe_ix (ix_listK (K := K) rfl) (pe_lst (pa_consT op_add_str (pv 1) (pat_cons (pet_of (pe_op op_add_str pe_str (pv 1))) (pat_cons (pet_of (pe_op op_add_str (pv 1) pe_str)) (pat_cons (CwR.pet_replC (pv 1)) (pat_cons (pet_of (pe_bm0 PySem.F.plainAttrs_str PySem.F.slot_str_upper PySem.F.type_str_upper mt_upper (pv 1))) pat_nil)))))) (pe_df (q__law_pull T) hr (by first | decide | omega) (by rfl) (pa_cons (pv 0) (pa_cons pe_int pa_nil))) (fun _ _ => rfl))))))))))))))))), ?_⟩
  have fin : ∀ {G1 H1 : Hp} {te : TE} {σ : L2.St} {y : Str} {nx : L2.St → Hp → Prop}, Ev te σ G1 y → Same G1 H1 → Gr (Mb b) G H G1 H1 → Bag G1 H1 b → y.length ≤ 3 * z.length + 100 → tRet te { nx := nx, rt := Q } σ H1 := fun h s t bx hy => st_ret h s fun v' G' H' g r => q _ v' G' H' hy (gtr t g.wk (bx.step0 g)) (bx.step0 g) r
  refine sq_pull (j := 2) (many := (z.length : Int) + 1) rfl i bg (ev_add (ev_lenS (ev_var rfl r1) (by omega)) ev_int) (by omega) (Nat.lt_trans (log_ok (by omega) (by omega)) (by decide)) (fun at0 H1 a0 a1 g1 bg1 => ?_)
  refine sq_any ?_
  refine rd_pull (E := E0) (b := b) (many := 16) (i := 0) (tm := tC (.int 16)) rfl g1.i bg1 ev_int (by decide) (by decide) (fun r16 H2 s0 s1 g2 bg2 => ?_)
  have t2 := gtr g1 g2 bg2
  obtain ⟨c, hc⟩ : ∃ c, (" \n0189azA-:,~+._" : Str).cps.toList[r16.toNat]? = some c := ⟨_, List.getElem?_eq_getElem (by rw [show (" \n0189azA-:,~+._" : Str).cps.toList.length = 16 by decide +kernel]; omega)⟩
  refine ⟨_, r16, c, rfl, rfl, by decide +kernel, atI_to s0 hc, ?_⟩
  have l1 : (⟨#[c]⟩ : Str).length = 1 := rfl
  refine sq_pull (j := 4) (many := 7) rfl g2.i bg2 ev_int (by decide) (by decide) (fun wy H3 w0 w7 g3 bg3 => ?_)
  have t3 := gtr t2 g3 bg3
  have ea : ∀ {G' : Hp} {a5 a6 a7 : Option V}, Same G G' → Ev (tVar 1) [some (.ref b), some v, some (.int at0), some (.str ⟨#[c]⟩), some (.int wy), a5, a6, a7] G' z := fun e => ev_var rfl (Rep.mono e r1)
  have eat : ∀ {G' : Hp} {a5 a6 a7 : Option V}, Ev (tVar 2) [some (.ref b), some v, some (.int at0), some (.str ⟨#[c]⟩), some (.int wy), a5, a6, a7] G' at0 := ev_var rfl rfl
  have esg : ∀ {G' : Hp} {a5 a6 a7 : Option V}, Ev (tVar 3) [some (.ref b), some v, some (.int at0), some (.str ⟨#[c]⟩), some (.int wy), a5, a6, a7] G' (⟨#[c]⟩ : Str) := ev_var rfl rfl
  have ewy : ∀ {G' : Hp} {a5 a6 a7 : Option V}, Ev (tVar 4) [some (.ref b), some v, some (.int at0), some (.str ⟨#[c]⟩), some (.int wy), a5, a6, a7] G' wy := ev_var rfl rfl
  have cl1 := cutS_len z none (some at0)
  have cl2 := cutS_len z (some at0) none
  have cl3 := cutS_len z (some (at0 + 1)) none
  refine sq_ifn (G := G) (et_test (ev_eqI ewy ev_int)) g3.i (fun _ G4 H4 g4 => ?_) (fun _ G4 H4 g4 => ?_)
  · have e := g4.g
    refine fin (y := cutS z none (some at0) ++ ⟨#[c]⟩ ++ cutS z (some at0) none) (ev_addS (x := cutS z none (some at0) ++ ⟨#[c]⟩) (y := cutS z (some at0) none) (ev_addS (x := cutS z none (some at0)) (y := ⟨#[c]⟩) (ev_slS (ea e) eo_none (eo_some eat) (by omega)) esg (by omega)) (ev_slS (ea e) (eo_some eat) eo_none (by omega)) (by rw [app_len]; omega)) g4.i (gtr t3 g4.wk (bg3.step0 g4)) (bg3.step0 g4) ?_
    rw [app_len, app_len]; omega
  have t4 := gtr t3 g4.wk (bg3.step0 g4)
  have b4 := bg3.step0 g4
  refine sq_ifn (G := G4) (et_test (ev_eqI ewy ev_int)) g4.i (fun _ G5 H5 g5 => ?_) (fun _ G5 H5 g5 => ?_)
  · have e := g4.g.trans g5.g
    refine fin (y := cutS z none (some at0) ++ cutS z (some (at0 + 1)) none) (ev_addS (x := cutS z none (some at0)) (y := cutS z (some (at0 + 1)) none) (ev_slS (ea e) eo_none (eo_some eat) (by omega)) (ev_slS (ea e) (eo_some (ev_add eat ev_int)) eo_none (by omega)) (by omega)) g5.i (gtr t4 g5.wk (b4.step0 g5)) (b4.step0 g5) ?_
    rw [app_len]; omega
  have t5 := gtr t4 g5.wk (b4.step0 g5)
  have b5 := b4.step0 g5
  refine sq_ifn (G := G5) (et_test (ev_eqI ewy ev_int)) g5.i (fun _ G6 H6 g6 => ?_) (fun _ G6 H6 g6 => ?_)
  · have e := (g4.g.trans g5.g).trans g6.g
    refine fin (y := cutS z none (some at0) ++ ⟨#[c]⟩ ++ cutS z (some (at0 + 1)) none) (ev_addS (x := cutS z none (some at0) ++ ⟨#[c]⟩) (y := cutS z (some (at0 + 1)) none) (ev_addS (x := cutS z none (some at0)) (y := ⟨#[c]⟩) (ev_slS (ea e) eo_none (eo_some eat) (by omega)) esg (by omega)) (ev_slS (ea e) (eo_some (ev_add eat ev_int)) eo_none (by omega)) (by rw [app_len]; omega)) g6.i (gtr t5 g6.wk (b5.step0 g6)) (b5.step0 g6) ?_
    rw [app_len, app_len]; omega
  have t6 := gtr t5 g6.wk (b5.step0 g6)
  have b6 := b5.step0 g6
  have e6 := (g4.g.trans g5.g).trans g6.g
  refine sq_set (G := G6) (x := Txt.split z " ") (ev_splitS (a := z) (b := " ") (ea e6) ev_str (by decide +kernel) (by omega)) g6.i (fun wv G7 H7 g7 r7 => ?_)
  have t7 := gtr t6 g7.wk (b6.step0 g7)
  have b7 := b6.step0 g7
  have hsum := split_sum _ z (Nat.le_refl _)
  have hne := List.length_pos_iff.mpr (split_ne tl_blank (by decide) z)
  generalize Txt.split z " " = ws at r7 hsum hne
  refine sq_pull (j := 6) (many := (ws.length : Int)) rfl g7.i b7 (ev_lenL (ev_var rfl r7)) (by omega) (Nat.lt_trans (log_ok (by omega) (by omega)) (by decide)) (fun one H8 o0 o1 g8 b8 => ?_)
  have t8 := gtr t7 g8 b8
  obtain ⟨k, rfl⟩ : ∃ k : Nat, one = (k : Int) := ⟨one.toNat, by omega⟩
  obtain ⟨x, hx⟩ : ∃ x, ws[k]? = some x := ⟨_, List.getElem?_eq_getElem (by omega)⟩
  have hws : ws = ws.take k ++ x :: ws.drop (k + 1) := by
    have hk := (List.getElem?_eq_some_iff.mp hx).1
    rw [← (List.getElem?_eq_some_iff.mp hx).2, List.getElem_cons_drop, List.take_append_drop]
  have hs2 : lenSum ws = lenSum (ws.take k) + (x.length + lenSum (ws.drop (k + 1))) := by
    have := congrArg lenSum hws
    rw [lenSum_app] at this
    exact this
  have hlw : ws.length = (ws.take k).length + ((ws.drop (k + 1)).length + 1) := by
    have := congrArg List.length hws
    rw [List.length_append, List.length_cons] at this
    exact this
  have lb : ((" " : Str)).length = 1 := by decide +kernel
  have jl : ∀ ps : List Str, (Txt.join " " ps).length ≤ lenSum ps + ps.length := fun ps => by
    have := join_len " " ps
    rw [lb] at this
    omega
  refine sq_set (G := G7) (x := odd1) (ev_lst (xs := odd1) (evs_cons ev_str (evs_cons ev_str (evs_cons ev_str (evs_cons ev_str (evs_cons ev_str (evs_cons ev_str (evs_cons ev_str (evs_cons ev_str (evs_cons ev_str (evs_cons ev_str (evs_cons ev_str (evs_cons ev_str evs_nil)))))))))))) (by decide)) g8.i (fun ov1 G9 H9 g9 r9 => ?_)
  refine sq_set (G := G9) (x := odd1 ++ odd2) (ev_catL (ev_var rfl r9) (ev_lst (xs := odd2) (evs_cons ev_str (evs_cons ev_str (evs_cons ev_str (evs_cons ev_str evs_nil)))) (by decide)) (by decide)) g9.i (fun ov G10 H10 g10 r10 => ?_)
  have t10 := gtr (gtr t8 g9.wk (b8.step0 g9)) g10.wk ((b8.step0 g9).step0 g10)
  have b10 := (b8.step0 g9).step0 g10
  have r7b := Rep.mono (g9.g.trans g10.g) r7
  have e10 := e6.trans (g7.g.trans (g9.g.trans g10.g))
  have eA : ∀ {G' : Hp}, Same G10 G' → Ev (tSl (rSlL K) (tVar 5) tNoPart (tPart (tVar 6))) [some (.ref b), some v, some (.int at0), some (.str ⟨#[c]⟩), some (.int wy), some wv, some (.int k), some ov] G' (ws.take k) := fun e => Ev.cast (ev_slL (K := K) (xs := ws) (lo := none) (hi := some (k : Int)) (ev_var rfl (Rep.mono e r7b)) eo_none (eo_some (ev_var rfl rfl))) (cutI_take (by omega))
  have eB : ∀ {G' : Hp}, Same G10 G' → Ev (tSl (rSlL K) (tVar 5) (tPart (tOp (rI0 fun i j => .int (i + j)) (tVar 6) (tC (.int 1)))) tNoPart) [some (.ref b), some v, some (.int at0), some (.str ⟨#[c]⟩), some (.int wy), some wv, some (.int k), some ov] G' (ws.drop (k + 1)) := fun e => Ev.cast (ev_slL (K := K) (xs := ws) (lo := some ((k : Int) + 1)) (hi := none) (ev_var rfl (Rep.mono e r7b)) (eo_some (ev_add (ev_var rfl rfl) ev_int)) eo_none) (cutI_drop (k := k + 1) (by omega))
  refine sq_ifn (G := G10) (et_test (ev_eqI ewy ev_int)) g10.i (fun _ G11 H11 g11 => ?_) (fun _ G11 H11 g11 => ?_)
  · refine fin (y := Txt.join " " (ws.take k ++ ws.drop (k + 1))) (ev_joinS (ev_catL (eA g11.g) (eB g11.g) (by omega)) (by rw [lenSum_app, List.length_append, lb]; omega)) g11.i (gtr t10 g11.wk (b10.step0 g11)) (b10.step0 g11) ?_
    have := jl (ws.take k ++ ws.drop (k + 1))
    rw [lenSum_app, List.length_append] at this
    omega
  have t11 := gtr t10 g11.wk (b10.step0 g11)
  have b11 := b10.step0 g11
  have ix1 : ∀ {G' : Hp}, Same G10 G' → Ev (tOp (rIxL K) (tVar 5) (tVar 6)) [some (.ref b), some v, some (.int at0), some (.str ⟨#[c]⟩), some (.int wy), some wv, some (.int k), some ov] G' x := fun e => Ev.cast (ev_ixL (xs := ws) (i := (k : Int)) (ev_var rfl (Rep.mono e r7b)) (ev_var rfl rfl) ⟨by omega, by omega⟩) (by
    unfold ix
    rw [Int.toNat_natCast]
    exact (List.getD_eq_getElem?_getD ..).trans (by rw [hx]; rfl))
  refine sq_ifn (G := G11) (et_test (ev_eqI ewy ev_int)) g11.i (fun _ G12 H12 g12 => ?_) (fun _ G12 H12 g12 => ?_)
  · have e := g11.g.trans g12.g
    refine fin (y := Txt.join " " (ws.take k ++ [x, x] ++ ws.drop (k + 1))) (ev_joinS (ev_catL (xs := ws.take k ++ [x, x]) (ev_catL (xs := ws.take k) (ys := [x, x]) (eA e) (ev_lst (evs_cons (ix1 e) (evs_cons (ix1 e) evs_nil)) (by show 2 ≤ 100000; decide)) (by show _ + 2 ≤ _; omega)) (eB e) (by rw [List.length_append]; show _ + 2 + _ ≤ _; omega)) (by rw [lenSum_app, lenSum_app, List.length_append, List.length_append, lb]; show _ + (x.length + (x.length + 0)) + _ + (_ + 2 + _) * 1 ≤ _; omega)) g12.i (gtr t11 g12.wk (b11.step0 g12)) (b11.step0 g12) ?_
    have := jl (ws.take k ++ [x, x] ++ ws.drop (k + 1))
    rw [lenSum_app, lenSum_app, List.length_append, List.length_append] at this
    have this : _ ≤ lenSum (ws.take k) + (x.length + (x.length + 0)) + lenSum (ws.drop (k + 1)) + ((ws.take k).length + 2 + (ws.drop (k + 1)).length) := this
    omega
  have t12 := gtr t11 g12.wk (b11.step0 g12)
  have b12 := b11.step0 g12
  have e1012 := g11.g.trans g12.g
  refine sq_ifn (G := G12) (et_test (ev_eqI ewy ev_int)) g12.i (fun _ G13 H13 g13 => ?_) (fun _ G13 H13 g13 => ?_)
  · have t13 := gtr t12 g13.wk (b12.step0 g13)
    have b13 := b12.step0 g13
    refine ⟨rfl, ?_⟩
    refine (eA (e1012.trans g13.g)) H13 g13.i _ (fun va G14 H14 g14 ra => ?_)
    have b14 := b13.step0 g14
    have t14 := gtr t13 g14.wk b14
    refine ⟨ov, rfl, ?_⟩
    refine rd_pull (E := E0) (b := b) (many := 16) (i := 0) (tm := tC (.int 16)) rfl g14.i b14 ev_int (by decide) (by decide) (fun r H15 rr0 rr1 g15 b15 => ?_)
    have t15 := gtr t14 g15 b15
    obtain ⟨po, vso, eov, eo, pro⟩ := Rep.mono ((e1012.trans g13.g).trans g14.g) r10
    obtain ⟨o, ho⟩ : ∃ o, (odd1 ++ odd2)[r.toNat]? = some o := ⟨_, List.getElem?_eq_getElem (by show r.toNat < 16; omega)⟩
    have hol : o.length ≤ 9 := by
      have : ∀ o ∈ odd1 ++ odd2, o.length ≤ 9 := by decide +kernel
      exact this o (List.mem_of_getElem? ho)
    obtain ⟨vo, hvo, rvo⟩ := paired_get pro ho
    have rvo : vo = .str o := rvo
    subst rvo
    refine ⟨po, vso, r, .str o, eov, rfl, .inl (.inl (g15.i _ _ eo)), atI_to rr0 hvo, ?_⟩
    refine ⟨by show 1 ≤ sizeLine; decide, fun p np => ?_⟩
    have gn := gr_new (o := .lst [.str o]) g15.i np
    have b16 := b15.step0 gn
    have t16 := gtr t15 gn.wk b16
    refine cat_go ?_
    refine (ev_catL (σ := []) (ta := tC va) (tb := tC (.ref p)) (xs := ws.take k) (ys := [o]) (ev_c (Rep.mono gn.g ra)) (ev_c ⟨p, [.str o], rfl, upd_same, .cons rfl .nil⟩) (by show _ + 1 ≤ _; omega)) _ gn.i _ (fun vc G17 H17 g17 rc => ?_)
    have b17 := b16.step0 g17
    have t17 := gtr t16 g17.wk b17
    refine (eB ((e1012.trans g13.g).trans (g14.g.trans (gn.g.trans g17.g)))) H17 g17.i _ (fun vd G18 H18 g18 rd => ?_)
    have b18 := b17.step0 g18
    have t18 := gtr t17 g18.wk b18
    refine cat_go ?_
    refine (ev_catL (σ := []) (ta := tC vc) (tb := tC vd) (xs := ws.take k ++ [o]) (ys := ws.drop (k + 1)) (ev_c (Rep.mono g18.g rc)) (ev_c rd) (by rw [List.length_append]; show _ + 1 + _ ≤ _; omega)) _ g18.i _ (fun ve G19 H19 g19 re => ?_)
    have b19 := b18.step0 g19
    have t19 := gtr t18 g19.wk b19
    refine ((ev_joinS (K := K) (σ := []) (a := " ") (tb := tC ve) (ys := ws.take k ++ [o] ++ ws.drop (k + 1)) (ev_c re) (by rw [lenSum_app, lenSum_app, List.length_append, List.length_append, lb]; show _ + (o.length + 0) + _ + (_ + 1 + _) * 1 ≤ _; omega)) H19 g19.i Q (fun v' G' H' g r => q _ v' G' H' ?_ (gtr t19 g.wk (b19.step0 g)) (b19.step0 g) r)).2
    have := jl (ws.take k ++ [o] ++ ws.drop (k + 1))
    rw [lenSum_app, lenSum_app, List.length_append, List.length_append] at this
    have this : _ ≤ lenSum (ws.take k) + (o.length + 0) + lenSum (ws.drop (k + 1)) + ((ws.take k).length + 1 + (ws.drop (k + 1)).length) := this
    omega
  have t13 := gtr t12 g13.wk (b12.step0 g13)
  have b13 := b12.step0 g13
  have ez := ea (G' := G13) (a5 := some wv) (a6 := some (.int k)) (a7 := some ov) (e10.trans (e1012.trans g13.g))
  have hrl : (Txt.replace z " " "  ").length ≤ z.length + (z.length + 1) * 2 := TK.replace_len z " " "  "
  have hup := PyProof.Rows.len_upper z
  have lnl : (("\n" : Str)).length = 1 := by decide +kernel
  refine rd_pick (G := G13) (ms := [z ++ " ", " " ++ z, z ++ "\n", Txt.replace z " " "  ", Txt.upper z]) (n := 5) (evs_cons (ev_addS (x := z) (y := " ") ez ev_str (by omega)) (evs_cons (ev_addS (x := " ") (y := z) ev_str ez (by omega)) (evs_cons (ev_addS (x := z) (y := "\n") ez ev_str (by omega)) (evs_cons (ev_repl ez (by show z.length + (z.length + 1) * 2 ≤ 100000; omega)) (evs_cons (ev_upper ez (by omega)) evs_nil))))) rfl g13.i b13 rfl (by decide) (by decide) (fun y v' H14 hy g14 b14 ry => ?_)
  refine q y v' G13 H14 ?_ (gtr t13 g14 b14) b14 ry
  simp only [List.mem_cons, List.not_mem_nil, or_false] at hy
  rcases hy with rfl | rfl | rfl | rfl | rfl
  · rw [app_len]; omega
  · rw [app_len]; omega
  · rw [app_len]; omega
  · omega
  · omega
end


open TL (tl numL)
abbrev s_law : Stmt := topS 45
abbrev N_law : List Str := ["_law_script", "_law_bag_here", "_law_turn", "_law_text", "_law_bend", "_law_due"]
theorem sc_law : FnScope N_law ["_law_script"] (defScope s_law) := ⟨rfl, rfl, rfl, by decide +kernel, rfl, by decide +kernel, by decide +kernel⟩

section
variable {P : Program} {w : World} {K : Fg} {mg : Str → Option Value} {base : Heap}
theorem q__law_alike (T : Tg K mg) : Df P w K mg base 6 "_law_alike" ["_law_found", "_law_due"] (sp2 (fun (_ d : PyData) => OkN 4 d) (alikeN 4)) := d_alike T._law_alike T._law_whole T.bl 4
theorem q__law_plan_text (T : Tg K mg) : Df P w K mg base 1 "_law_plan_text" ["_law_plan_here"] (sp1 smP planS) := by
  refine T._law_plan_text.ok sc__law_plan_text (fun vs H Q E h => ?_) (fun cdv f A outer s H vs Q E hr h => ?_)
  · obtain ⟨v, x, G, rfl, _⟩ := h
    rfl
  obtain ⟨v, p, G, rfl, i, r1, hp, q⟩ := h
  have hsl := plan_slen hp
  have bl := T.bl
  obtain ⟨h1, h2, h3⟩ := hp
  have n1 := numS_len h1.1 h1.2
  have lsum := lenSum_le (m := 9) (ys := p.2.l.map cutS2) (fun y hy => by
    obtain ⟨c, hc, rfl⟩ := List.mem_map.mp hy
    exact cut2_len (h2 c hc).1 (h2 c hc).2)
  rw [List.length_map] at lsum
  have l1 : (("," : Str)).length = 1 := by decide +kernel
  have l2 : ((":" : Str)).length = 1 := by decide +kernel
  have l3 : (("-" : Str)).length = 1 := by decide +kernel
  have jl := join_len "," (p.2.l.map cutS2)
  rw [List.length_map, l1] at jl
  refine ⟨_, (pss_one (ps_ret (pe_op op_add_str (pe_op op_add_str (pe_callTy call_strT (by rfl) (bl "str" (by decide)) (by decide +kernel) (pa_cons (pe_ix (ix_tupK (K := K) rfl) (pv 0) pe_int (fun _ _ => rfl)) pa_nil)) pe_str) (pe_bm PySem.F.plainAttrs_str PySem.F.slot_str_join PySem.F.type_str_join (mt_joinK (K := K) rfl) pe_str (pa_cons (pe_lc (own := [("_law_low", 1), ("_law_high", 2)]) rfl sc__law_plan_text.nd (pi_tupK (K := K) rfl (pe_ix (ix_tupK (K := K) rfl) (pv 0) pe_int (fun _ _ => rfl))) (blkOk_by (own := [("_law_low", 1), ("_law_high", 2)]) (N := N__law_plan_text) (sc := defScope s__law_plan_text) (by decide +kernel)) (fun _ _ _ _ _ => (pg_tupK (K := K) (n := 2) rfl (pg_tup rfl (pgs_cons (pg_name (i := 1) sc__law_plan_text.nd rfl (by first | exact .inl rfl | exact .inr rfl)) (pgs_cons (pg_name (i := 2) sc__law_plan_text.nd rfl (by first | exact .inl rfl | exact .inr rfl)) pgs_nil))))) (fun _ _ _ _ _ => pts_nil) (fun _ _ _ _ _ => (pe_op op_add_str (pe_op op_add_str (pe_callTy call_strT (by rfl) (bl "str" (by decide)) (by decide +kernel) (pa_cons (pv 1) pa_nil)) pe_str) (pe_callTy call_strT (by rfl) (bl "str" (by decide)) (by decide +kernel) (pa_cons (pv 2) pa_nil))))) pa_nil))))), ?_⟩
  refine st_ret (G := G) (x := planS p) (ev_addS (x := numS p.1 ++ ":") (y := Txt.join "," (p.2.l.map cutS2)) (ev_addS (x := numS p.1) (y := ":") (ev_numS (ev_fst (ev_var rfl r1)) (log_ok h1.1 (by have := h1.2; omega))) ev_str (by rw [l2]; omega)) (ev_joinS (ev_lc (xs := p.2.l) (f := cutS2) (ei_tup (ev_snd (ev_var rfl r1))) (by omega) ?_) (by rw [List.length_map, l1]; omega)) (by rw [app_len, l2]; omega)) i (fun v G' H' g r => q v G' H' g r)
  intro c hc v1 G9 s9 rx
  refine gb_pair' rx fun u1 w1 ru rw' => ⟨rfl, ?_⟩
  have m1 := numS_len (h2 c hc).1.1 (h2 c hc).1.2
  have m2 := numS_len (h2 c hc).2.1 (h2 c hc).2.2
  exact ev_addS (x := numS c.1 ++ "-") (y := numS c.2) (ev_addS (x := numS c.1) (y := "-") (ev_numS (ev_var rfl ru) (log_ok (h2 c hc).1.1 (by have := (h2 c hc).1.2; omega))) ev_str (by rw [l3]; omega)) (ev_numS (ev_var rfl rw') (log_ok (h2 c hc).2.1 (by have := (h2 c hc).2.2; omega))) (by rw [app_len, l3]; omega)
theorem q__law_deed_text (T : Tg K mg) : Df P w K mg base 2 "_law_deed_text" ["_law_deed"] (sp1 (fun (d : Tup Th) => d.l.length ≤ 10 ∧ ∀ t ∈ d.l, smT t ∧ (thS t).length ≤ 1000) (fun d => deedS d.l)) := by
  refine T._law_deed_text.ok sc__law_deed_text (fun vs H Q E h => ?_) (fun cdv f A outer s H vs Q E hr h => ?_)
  · obtain ⟨v, x, G, rfl, _⟩ := h
    rfl
  obtain ⟨v, d, G, rfl, i, r1, ⟨hl, ht⟩, q⟩ := h
  have bl := T.bl
  refine ⟨_, (pss_cons (ps_set (i := 1) sc__law_deed_text.nd rfl (by first | exact .inl rfl | exact .inr rfl) (pe_lst pa_nil))
    (pss_cons (ps_for PassesOwn.never rfl (pi_tupK (K := K) rfl (pv 0)) (pg_name (i := 2) sc__law_deed_text.nd rfl (by first | exact .inl rfl | exact .inr rfl))
      (pss_one (ps_expr (pe_bm PySem.F.plainAttrs_list PySem.F.slot_list_append PySem.F.type_list_append mt_append (pv 1) (pa_cons (pe_ifExp (pt_val (pe_callB (call_isiKK (K := K) rfl) (by rfl) (bl "isinstance" (by decide)) (by decide +kernel) (pa_cons (pv 2) (pa_cons (pe_bltn (v := .ty "tuple") (by rfl) (bl "tuple" (by decide)) boot_tuple rfl) pa_nil)))) (pe_df (q__law_plan_text T) hr (by first | decide | omega) (by rfl) (pa_cons (pv 2) pa_nil)) (pe_callTy call_strT (by rfl) (bl "str" (by decide)) (by decide +kernel) (pa_cons (pv 2) pa_nil))) pa_nil)))))
    (pss_one (ps_ret (pe_bm PySem.F.plainAttrs_str PySem.F.slot_str_join PySem.F.type_str_join (mt_joinK (K := K) rfl) pe_str (pa_cons (pv 1) pa_nil)))))), ?_⟩
  have lsum := lenSum_le (m := 1000) (ys := d.l.map thS) (fun y hy => by
    obtain ⟨c, hc, rfl⟩ := List.mem_map.mp hy
    exact (ht c hc).2)
  rw [List.length_map] at lsum
  refine sq_newlist (α := Str) (G := G) (xs := []) evs_nil i (by show 0 ≤ 100000; decide) (fun p G1 H1 o g1 np ml s1 => ?_)
  have gp1 : Gr M0 G H G1 (upd H1 p o) := g1.mut (.inl (up_none g1.same np)) (up_none g1.i np)
  have npH := up_none g1.same np
  generalize upd H1 p o = HA at ml s1 gp1
  refine sq_for (G := G1) (xs := d.l) (fun k σ G' H' => Gr M0 G H G' H' ∧ Ml G' H' p ((d.l.take k).map thS) ∧ ∃ a2, σ = [some v, some (.ref p), a2]) (ei_tup (ev_var rfl (Rep.mono g1.g r1))) s1 ?_ ?_ ?_
  · intro G3 H3 g3
    exact ⟨gp1.trans g3, ml.step0 g3, none, rfl⟩
  · intro k t tv σ' G3 H3 G4 H4 hk e1 e2 hP g4 r4
    obtain ⟨gr3, ml3, a2, rfl⟩ := hP
    have ml4 := ml3.step0 g4
    have htm := List.mem_of_getElem? hk
    have hkl := (List.getElem?_eq_some_iff.mp hk).1
    refine gn ?_
    refine st_append (G := G4) (i := 1) (p := p) (x := thS t) rfl ml4 ?_ g4.i (by rw [List.length_map, List.length_take]; omega) (fun G5 H5 o5 g5 ml5 s5 => ?_)
    · have isi : EvT (tB (tCB (rIsi K) (tCons (tVar 2) (tCons (tC (.ty "tuple")) tNil)))) [some v, some (V.ref p), some tv] G4 (isTy "tuple" (dat t)) := et_B (ev_isi (K := K) (T := "tuple") (d := dat t) (ev_dat (ev_var (i := 2) (x := t) rfl r4)) (by decide))
      have smt := (ht t htm).1
      cases t with
      | s x => exact Ev.cast (ev_if (b := false) (x := x) (y := x) isi (fun h => by cases h) (fun _ => ev_strS (ev_var rfl r4))) (if_neg (by decide))
      | n x => exact Ev.cast (ev_if (b := false) (x := numS x) (y := numS x) isi (fun h => by cases h) (fun _ => ev_numS (ev_var rfl r4) (log_ok smt.1 (by have := smt.2; omega)))) (if_neg (by decide))
      | p x => exact Ev.cast (ev_if (b := true) (x := planS x) (y := planS x) isi (fun _ => ev_call1 (f := planS) (ev_var rfl r4) smt) (fun h => by cases h)) (if_pos rfl)
    · refine ⟨G5, g4.g.trans g5.g, s5, ((gr3.trans g4).trans g5).mut (.inl npH) ml5.1, ?_, _, rfl⟩
      rw [List.take_add_one, hk, List.map_append]
      exact ml5
  intro σ' G3 H3 e1 e2 hP
  obtain ⟨gr3, ml3, a2, rfl⟩ := hP
  rw [List.take_length] at ml3
  obtain ⟨G4, g4, r4, _⟩ := ml3.frz gr3 npH
  exact st_ret (G := G4) (x := deedS d.l) (ev_joinS (ev_var rfl r4) (by rw [List.length_map, show ((" " : Str)).length = 1 by decide +kernel]; omega)) g4.i (fun v G' H' g r => q v G' H' (g4.trans g) r)
end

def bndK (k : Str) : Nat := if k = "plan" then 500 else 8
theorem fits_bnd {k : Str} {t : Th} (h : Fits k t) : (thS t).length ≤ bndK k := by
  have e1 : bndK "plan" = 500 := by decide +kernel
  cases h with
  | @name x h =>
    have := (name_facts h).1
    have e2 : bndK "name" = 8 := by decide +kernel
    rw [e2]; show x.length ≤ 8; omega
  | @way x h =>
    have e2 : bndK "way" = 8 := by decide +kernel
    have : ∀ x ∈ waysL, x.length ≤ 8 := by decide +kernel
    rw [e2]; exact this x h
  | @colour x h =>
    have e2 : bndK "colour" = 8 := by decide +kernel
    have : ∀ x ∈ coloursL, x.length ≤ 8 := by decide +kernel
    rw [e2]; exact this x h
  | @letter x h =>
    have e2 : bndK "letter" = 8 := by decide +kernel
    unfold letB at h
    rw [Bool.and_eq_true, decide_eq_true_eq] at h
    rw [e2]; show x.length ≤ 8; omega
  | @slot i h =>
    have e2 : bndK "slot" = 8 := by decide +kernel
    have := (numS_len h.1 h.2).2
    rw [e2]; show (numS i).length ≤ 8; omega
  | @plan q h =>
    rw [e1]; exact plan_slen h
theorem fits_sum : ∀ {ks : List Str} {ts : List Th}, Paired Fits ks ts → lenSum (ts.map thS) ≤ (ks.map bndK).sum ∧ ts.length = ks.length
  | _, _, .nil => ⟨Nat.le_refl _, rfl⟩
  | _, _, .cons r t => by
    obtain ⟨h1, h2⟩ := fits_sum t
    have := fits_bnd r
    refine ⟨?_, by rw [List.length_cons, List.length_cons, h2]⟩
    unfold lenSum at h1 ⊢
    rw [List.map_cons, List.map_cons, List.map_cons, List.sum_cons, List.sum_cons]
    omega
theorem deed_short {d : List Th} (g : GoodD d) : (deedS d).length ≤ 540 := by
  obtain ⟨x, ks, ts, rfl, hk, hp⟩ := g
  obtain ⟨h1, h2⟩ := fits_sum hp
  have hb : ∀ e ∈ kindsL, e.1.length + (e.2.map bndK).sum + (e.2.length + 1) ≤ 540 := by decide +kernel
  have h3 := hb _ (kinds_mem hk)
  have h4 := join_len " " ((Th.s x :: ts).map thS)
  rw [show ((" " : Str)).length = 1 by decide +kernel, List.length_map, List.length_cons] at h4
  have e : lenSum ((Th.s x :: ts).map thS) = x.length + lenSum (ts.map thS) := rfl
  rw [e] at h4
  show (Txt.join " " _).length ≤ 540
  have h3 : x.length + (ks.map bndK).sum + (ks.length + 1) ≤ 540 := h3
  omega
def okTh : Th → Prop
  | .p p => p.2.l.length ≤ 20000
  | _ => True
theorem told_ok {z : Str} (hz : z.length ≤ 8000) : (toldM z).length ≤ 10 ∧ ∀ t ∈ toldM z, okTh t := by
  unfold toldM
  cases e : deedM z with
  | none =>
    refine ⟨by show 2 ≤ 10; decide, fun t ht => ?_⟩
    rcases List.mem_cons.mp ht with rfl | ht
    · trivial
    · rw [List.mem_singleton.mp ht]; trivial
  | some d =>
    rw [deedM_o] at e
    cases hs : Txt.split z " " with
    | nil => rw [hs] at e; cases e
    | cons x ws =>
      rw [hs] at e
      have e : (match kindsOf x with | none => none | some ks => (thingsO ks ws).map (Th.s x :: ·)) = some d := e
      cases hk : kindsOf x with
      | none => rw [hk] at e; cases e
      | some ks =>
        rw [hk] at e
        obtain ⟨ts, h1, rfl⟩ := Option.map_eq_some_iff.mp e
        obtain ⟨_, _, kl, _⟩ := kinds_facts hk
        unfold thingsO at h1
        split at h1
        · cases h1
          refine ⟨?_, fun t ht => ?_⟩
          · show ((ks.zip ws).map _).length + 1 ≤ 10
            rw [List.length_map, List.length_zip]; omega
          · rcases List.mem_cons.mp ht with rfl | ht
            · trivial
            · obtain ⟨kw, hkw, rfl⟩ := List.mem_map.mp ht
              have hw := PyProof.Rows.part_short (x := z) (y := " ") (show kw.2 ∈ Txt.split z " " by rw [hs]; exact List.mem_cons_of_mem _ (List.of_mem_zip hkw).2)
              unfold thgM
              split
              · show (planM2 kw.2).2.l.length ≤ 20000
                unfold planM2
                split
                · show 0 ≤ 20000; omega
                · have h5 := PyProof.Rows.split_le (Txt.partition kw.2 ":").2.2 ","
                  have h6 := (PyProof.Rows.fact_partition kw.2 ":").2.2
                  show ((Txt.split (Txt.partition kw.2 ":").2.2 ",").map cutM2).length ≤ 20000
                  rw [List.length_map]; omega
              · split <;> trivial
        · cases h1
theorem okN_told {z : Str} (hz : z.length ≤ 8000) : OkN 4 (dat (Tup.mk (toldM z))) := by
  obtain ⟨h1, h2⟩ := told_ok hz
  refine okN_tup (by show (toldM z).length ≤ 100000; omega) fun t ht => ?_
  have hs := h2 t ht
  cases t with
  | s x => exact okN_str 3 x
  | n x => exact okN_int 3 x
  | p x =>
    have hs : x.2.l.length ≤ 20000 := hs
    exact okN_pair (okN_int 2 _) (okN_tup (by omega) fun c _ => okN_pair (okN_int 0 _) (okN_int 0 _))
theorem tup_nn (G : Hp) (v : V) (y : Tup Th) (r : rep G v y) : v ≠ .non := by
  obtain ⟨a, _, rfl, _⟩ := r
  exact fun h => nomatch h
def bndT (k : Nat) : Nat := if k = 0 then 540 else if k = 1 then 1720 else 5260
section
variable {P : Program} {w : World} {K : Fg} {mg : Str → Option Value} {base : Heap} {CB : Addr}
theorem d_law {fa : Addr} {fd : FuncData} (F : Fun K "law" "law" s_law fa fd) (T : Tg K mg) (R : ReadersW w K mg) (O : ThingsW w K mg) (BT : TxE K mg "BadText" "BadText.__init__" ["self", "at"] ["at"] s_BadText___init__) (BF : BadF K mg) (Z : MissW w K mg) : FnOk P w K mg base CX0 48 fa fd ["_law_script"] (spLaw K) := by
  have bl := T.bl
  obtain ⟨CB, B⟩ := i_BadText (P := P) (w := w) (base := base) BT
  have D1 := q__law_bent_text (P := P) (w := w) (base := base) T
  have D2 := q__law_told_text T B BF R O Z
  have D3 := q__law_read (P := P) (w := w) (base := base) T
  refine F.ok sc_law (fun vs H Q E h => ?_) (fun cdv A outer s H vs Q E hr h => ?_)
  · obtain ⟨a, ns, rfl, _⟩ := h
    rfl
  obtain ⟨a, ns, rfl, hq, hl, q⟩ := h
  refine ⟨_, (pss_cons (ps_set (i := 1) sc_law.nd rfl (by first | exact .inl rfl | exact .inr rfl) (pe_df (q__law_bag T) hr (by first | decide | omega) (by rfl) (pa_cons (pv 0) pa_nil)))
    (pss_cons (ps_for PassesOwn.never rfl (pi_range1 (by rfl) (bl "range" (by decide)) (pa_cons (pe_ix (ix_listK (K := K) rfl) (pe_lst (pa_cons pe_int (pa_cons pe_int (pa_cons pe_int pa_nil)))) (pe_df (q__law_pull T) hr (by first | decide | omega) (by rfl) (pa_cons (pv 1) (pa_cons pe_int pa_nil))) (fun _ _ => rfl)) pa_nil)) (pg_name (i := 2) sc_law.nd rfl (by first | exact .inl rfl | exact .inr rfl))
      (pss_cons (ps_set (i := 3) sc_law.nd rfl (by first | exact .inl rfl | exact .inr rfl) (pe_df (q__law_deed_text T) hr (by first | decide | omega) (by rfl) (pa_cons (pe_df (q__law_any_deed T) hr (by first | decide | omega) (by rfl) (pa_cons (pv 1) pa_nil)) pa_nil)))
      (pss_cons (ps_for PassesOwn.never rfl (pi_range1 (by rfl) (bl "range" (by decide)) (pa_cons (pe_op op_add pe_int (pe_df (q__law_pull T) hr (by first | decide | omega) (by rfl) (pa_cons (pv 1) (pa_cons pe_int pa_nil)))) pa_nil)) (pg_name (i := 4) sc_law.nd rfl (by first | exact .inl rfl | exact .inr rfl))
        (pss_one (ps_set (i := 3) sc_law.nd rfl (by first | exact .inl rfl | exact .inr rfl) (pe_df D1 hr (by first | decide | omega) (by rfl) (pa_cons (pv 1) (pa_cons (pv 3) pa_nil))))))
      (pss_cons (ps_set (i := 5) sc_law.nd rfl (by first | exact .inl rfl | exact .inr rfl) (pe_df D3 hr (by first | decide | omega) (by rfl) (pa_cons (pv 3) pa_nil)))
      (C8.pss_cut (ps_if (pt_cmpR op_isN (pv 5) pe_non (nomark _))
        (pss_one (ps_set (i := 5) sc_law.nd rfl (by first | exact .inl rfl | exact .inr rfl) (pe_tup (pa_cons pe_str (pa_cons pe_int pa_nil)))))
        pss_nil)
      (pss_one (ps_if (pt_not (pt_val (pe_df (q__law_alike T) hr (by first | decide | omega) (by rfl) (pa_cons (pe_df D2 hr (by first | decide | omega) (by rfl) (pa_cons (pv 3) pa_nil)) (pa_cons (pv 5) pa_nil)))))
        (pss_one (ps_ret pe_bl))
        pss_nil)))))))
    (pss_one (ps_ret (pe_cmpR (op_eqDK (K := K) rfl hr.units) (pe_df D2 hr (by first | decide | omega) (by rfl) (pa_cons pe_str pa_nil)) (pe_tup (pa_cons pe_str (pa_cons pe_int pa_nil))) (nomark _)))))), ?_⟩
  refine ⟨.ref a, rfl, a, ns, H, rfl, Same.refl H, hq, hl, fun b G1 H1 g1 nb bg1 => ?_⟩
  refine gn (i := 1) (v := .ref b) ?_
  dsimp only
  refine rd_pick (G := G1) (ms := [(6 : Int), 12, 20]) (n := 3) (evs_cons ev_int (evs_cons ev_int (evs_cons ev_int evs_nil))) rfl g1.i bg1 rfl (by decide) (by decide) (fun n nv H2 hn g2 bg2 rn => ?_)
  cases rn
  have hn : 0 ≤ n ∧ n ≤ 20 := by
    simp only [List.mem_cons, List.not_mem_nil, or_false] at hn
    omega
  refine ⟨n, rfl, by omega, by omega, ?_⟩
  refine st_for (wi := fun _ H R => R (Itr 0 n.toNat) H) (G := G1) (xs := rng 0 n) (fun k σ G' H' => Bag G' H' b ∧ ∃ a2 a3 a4 a5, σ = [some (.ref a), some (.ref b), a2, a3, a4, a5]) (fun H i R k => k _ G1 H (Gr.refl i) (it_rng (by omega))) g2.i ?_ ?_ ?_
  · intro G3 H3 g3
    exact ⟨bg2.step0 g3, _, _, _, _, rfl⟩
  · intro k n0 kv σ' G3 H3 G4 H4 hk e1 e2 hP g4 r4
    obtain ⟨b3, a2, a3, a4, a5, rfl⟩ := hP
    refine gn ?_
    refine ⟨.ref b, rfl, b, G4, rfl, g4.i, b3.step0 g4, fun d dv G5 H5 hd hs g5 b5 r5 => ?_⟩
    have hth := (good_split hd).2.2.2
    have hdl := (good_split hd).2.2.1
    refine ⟨dv, Tup.mk d, G5, rfl, g5.i, r5, ⟨by show d.length ≤ 10; omega, fun t ht => ⟨hs t ht, by have := hth t ht; omega⟩⟩, fun tv G6 H6 g6 r6 => ?_⟩
    refine gn (i := 3) (v := tv) ?_
    have b6 := b5.step0 g6
    have h540 := deed_short hd
    have r6 : rep G6 tv (deedS d) := r6
    generalize deedS d = z0 at r6 h540
    refine rd_pull (E := E0) (b := b) (many := 2) (i := 1) (tm := tC (.int 2)) rfl g6.i b6 ev_int (by decide) (by decide) (fun r2 H7 p0 p2 g7 b7 => ?_)
    refine ⟨1, r2, rfl, rfl, 1 + r2, rfl, by omega, by omega, ?_⟩
    refine st_for (wi := fun _ H R => R (Itr 0 (1 + r2).toNat) H) (G := G6) (xs := rng 0 (1 + r2)) (fun k σ G' H' => Bag G' H' b ∧ ∃ (z : Str) (tv : V) (a4 : Option V), z.length ≤ bndT k ∧ rep G' tv z ∧ σ = [some (.ref a), some (.ref b), some kv, some tv, a4, a5]) (fun H i R k => k _ G6 H (Gr.refl i) (it_rng (by omega))) g7.i ?_ ?_ ?_
    · intro G8 H8 g8
      exact ⟨b7.step0 g8, z0, tv, _, h540, Rep.mono g8.g r6, rfl⟩
    · intro j n1 jv σ' G8 H8 G9 H9 hj e3 e4 hP g9 r9
      obtain ⟨b8, z, tv8, a48, hz, r8, rfl⟩ := hP
      have hj2 : j < (rng 0 (1 + r2)).length := (List.getElem?_eq_some_iff.mp hj).1
      rw [rng_len] at hj2
      have hb : bndT j ≤ 2000 ∧ 3 * bndT j + 100 ≤ bndT (j + 1) := by
        have : j = 0 ∨ j = 1 := by omega
        rcases this with rfl | rfl <;> decide
      refine gn ?_
      refine ⟨.ref b, rfl, tv8, rfl, b, tv8, z, G9, rfl, g9.i, b8.step0 g9, Rep.mono g9.g r8, by omega, fun y yv G10 H10 hy g10 b10 r10 => ?_⟩
      exact ⟨G10, g9.g.trans g10.g, g10.i, b10, y, yv, _, by omega, r10, rfl⟩
    intro σ' G8 H8 e3 e4 hP
    obtain ⟨b8, z, tv8, a48, hz, r8, rfl⟩ := hP
    have hz : z.length ≤ 8000 := by
      have : bndT (rng 0 (1 + r2)).length ≤ 5260 := by unfold bndT; split; omega; split <;> omega
      omega
    refine sq_set (G := G8) (x := Opt.mk ((deedM z).map Tup.mk)) (ev_call1 (f := fun z => Opt.mk ((deedM z).map Tup.mk)) (ev_var rfl r8) (by omega)) e4 (fun dv2 G9 H9 g9 r9 => ?_)
    refine sq_cut (fun σ' H' => ∃ dv G', Gr M0 G8 H8 G' H' ∧ rep G' dv (Tup.mk (toldM z)) ∧ σ' = [some (.ref a), some (.ref b), some kv, some tv8, a48, some dv]) ?_ ?_
    · refine st_if (G := G9) (b := (deedM z).isNone) (EvT.cast (et_test (ev_isO (x := Opt.mk ((deedM z).map Tup.mk)) tup_nn (ev_var rfl r9))) (by cases deedM z <;> rfl)) g9.i (fun hb G10 H10 g10 => ?_) (fun hb G10 H10 g10 => ?_)
      · refine st_set (G := G10) (x := Tup.mk [Th.s "BadText", Th.n 0]) (ev_tupn (evs_cons (x := Th.s "BadText") (fun H i Q q => ev_str (n := "BadText") H i Q q) (evs_cons (x := Th.n 0) (fun H i Q q => ev_int (n := 0) H i Q q) evs_nil)) (by show 2 ≤ 100000; decide)) g10.i (fun v2 G11 H11 g11 r11 => ⟨v2, G11, (g9.trans g10).trans g11, ?_, rfl⟩)
        unfold toldM
        rw [Option.isNone_iff_eq_none.mp hb]
        exact r11
      · refine ⟨dv2, G10, g9.trans g10, ?_, rfl⟩
        unfold toldM
        cases hd2 : deedM z with
        | none => rw [hd2] at hb; cases hb
        | some d2 =>
          rw [hd2] at r9
          exact Rep.mono (x := Tup.mk d2) g10.g r9
    rintro _ H10 ⟨dv3, G10, g10, r10, rfl⟩
    have ok := okN_told hz
    refine st_if (G := G10) (b := false) (et_not (b := true) (et_B (Ev.cast (ev_call2 (f := alikeN 4) (ev_dat (x := Tup.mk (toldM z)) (ev_call1 (f := fun z => Tup.mk (toldM z)) (ev_var rfl (Rep.mono g10.g r8)) hz)) (ev_dat (x := Tup.mk (toldM z)) (ev_var rfl r10)) ok) ((alikeN_iff 4 _ _ ok).mpr rfl)))) g10.i (fun hb _ _ _ => by cases hb) (fun _ G11 H11 g11 => ?_)
    exact ⟨G11, (g4.g.trans (g5.g.trans g6.g)).trans (e3.trans (g10.g.trans g11.g)), g11.i, (b8.step0 g10).step0 g11, _, _, _, _, rfl⟩
  · intro σ' G3 H3 e1 e2 hP
    obtain ⟨b3, a2, a3, a4, a5, rfl⟩ := hP
    have e0 : toldM "" = [Th.s "BadText", Th.n 0] := by
      have h : (deedM "").isNone = true := by decide +kernel
      unfold toldM
      rw [Option.isNone_iff_eq_none.mp h]
      rfl
    refine st_ret (G := G3) (x := true) (Ev.cast (ev_eqW (d := dat (Tup.mk [Th.s "BadText", Th.n 0])) (e := dat (Tup.mk [Th.s "BadText", Th.n 0])) (ev_dat (x := Tup.mk [Th.s "BadText", Th.n 0]) (Ev.cast (ev_call1 (f := fun z => Tup.mk (toldM z)) ev_str (by show (("" : Str)).length ≤ 8000; decide +kernel)) (congrArg Tup.mk e0))) (ev_dat (x := Tup.mk [Th.s "BadText", Th.n 0]) (ev_tupn (evs_cons (x := Th.s "BadText") (fun H i Q q => ev_str (n := "BadText") H i Q q) (evs_cons (x := Th.n 0) (fun H i Q q => ev_int (n := 0) H i Q q) evs_nil)) (by show 2 ≤ 100000; decide))) (by decide +kernel) (by decide +kernel)) (by decide +kernel)) e2 (fun v' G4 H4 g4 r4 => ?_)
    cases r4
    exact q H4
end
theorem kinds_none {z : Str} (h : kindsOf z = none) : z ∉ (["fold", "drop", "pinch", "unpinch", "over", "about", "paint", "mark", "wash", "unfold", "refold"] : List Str) := fun hm => by
  have h1 : ∀ x ∈ (["fold", "drop", "pinch", "unpinch", "over", "about", "paint", "mark", "wash", "unfold", "refold"] : List Str), (kindsOf x).isSome = true := by decide +kernel
  have h2 := h1 z hm
  rw [h] at h2
  cases h2


theorem hFacts {P : Program} {w : World} {K : Fg} {h : Heap} {mg : Str → Option Value} {fa : Addr} (X : K.In h) (G : h.Ns mainGlobals mg) (hfa : mg "law" = some (.ref fa)) (c : (hPs.map fun p => ptK p K) = hPs.map fun p => ptV p w) :
    ∃ fd : FuncData, (∀ (s : Shared) (v : Value), BindsTo s fd ⟨[v], []⟩ [("_law_script", v)]) ∧ ∀ base : Heap, K.In base → base.Ns mainGlobals mg → FnOk P w K mg base CX0 48 fa fd ["_law_script"] (spLaw K) := by
  have c0 : ptK hP0 K = ptV hP0 w := Pt.of c 0 rfl
  have c1 : ptK hP1 K = ptV hP1 w := Pt.of c 1 rfl
  have T0 : Tx K mg "_law_bag" ["_law_script"] s__law_bag := tx_h X G (Pt.fact c0 0 rfl) (Pt.def_ c0 0 rfl) (fun _ _ _ _ _ _ us hl => match us, hl with | [_], _ => rfl)
  have T1 : Tx K mg "_law_pull" ["_law_bag_here", "_law_many"] s__law_pull := tx_h X G (Pt.fact c0 1 rfl) (Pt.def_ c0 1 rfl) (fun _ _ _ _ _ _ us hl => match us, hl with | [_, _], _ => rfl)
  have T2 : Tx K mg "_law_alike" ["_law_found", "_law_due"] s__law_alike := tx_h X G (Pt.fact c0 2 rfl) (Pt.def_ c0 2 rfl) (fun _ _ _ _ _ _ us hl => match us, hl with | [_, _], _ => rfl)
  have T3 : Tx K mg "_law_whole" ["_law_found"] s__law_whole := tx_h X G (Pt.fact c0 3 rfl) (Pt.def_ c0 3 rfl) (fun _ _ _ _ _ _ us hl => match us, hl with | [_], _ => rfl)
  have T4 : Tx K mg "_law_pair" ["_law_one", "_law_other"] s__law_pair := tx_h X G (Pt.fact c0 4 rfl) (Pt.def_ c0 4 rfl) (fun _ _ _ _ _ _ us hl => match us, hl with | [_, _], _ => rfl)
  have T5 : Tx K mg "_law_plan" ["_law_bag_here", "_law_most"] s__law_plan := tx_h X G (Pt.fact c0 5 rfl) (Pt.def_ c0 5 rfl) (fun _ _ _ _ _ _ us hl => match us, hl with | [_, _], _ => rfl)
  have T6 : Tx K mg "_law_drawn_plan" ["_law_bag_here", "_law_faces"] s__law_drawn_plan := tx_h X G (Pt.fact c0 6 rfl) (Pt.def_ c0 6 rfl) (fun _ _ _ _ _ _ us hl => match us, hl with | [_, _], _ => rfl)
  have T7 : Tx K mg "_law_cut_arc" ["_law_bag_here", "_law_start", "_law_end", "_law_found"] s__law_cut_arc := tx_h X G (Pt.fact c0 7 rfl) (Pt.def_ c0 7 rfl) (fun _ _ _ _ _ _ us hl => match us, hl with | [_, _, _, _], _ => rfl)
  have T8 : Tx K mg "_law_any_deed" ["_law_bag_here"] s__law_any_deed := tx_h X G (Pt.fact c0 8 rfl) (Pt.def_ c0 8 rfl) (fun _ _ _ _ _ _ us hl => match us, hl with | [_], _ => rfl)
  have T9 : Tx K mg "_law_deed_text" ["_law_deed"] s__law_deed_text := tx_h X G (Pt.fact c0 9 rfl) (Pt.def_ c0 9 rfl) (fun _ _ _ _ _ _ us hl => match us, hl with | [_], _ => rfl)
  have T10 : Tx K mg "_law_plan_text" ["_law_plan_here"] s__law_plan_text := tx_h X G (Pt.fact c0 10 rfl) (Pt.def_ c0 10 rfl) (fun _ _ _ _ _ _ us hl => match us, hl with | [_], _ => rfl)
  have T11 : Tx K mg "_law_bent_text" ["_law_bag_here", "_law_text"] s__law_bent_text := tx_h X G (Pt.fact c0 11 rfl) (Pt.def_ c0 11 rfl) (fun _ _ _ _ _ _ us hl => match us, hl with | [_, _], _ => rfl)
  have T12 : Tx K mg "_law_digits" ["_law_word"] s__law_digits := tx_h X G (Pt.fact c0 12 rfl) (Pt.def_ c0 12 rfl) (fun _ _ _ _ _ _ us hl => match us, hl with | [_], _ => rfl)
  have T13 : Tx K mg "_law_good_name" ["_law_name"] s__law_good_name := tx_h X G (Pt.fact c0 13 rfl) (Pt.def_ c0 13 rfl) (fun _ _ _ _ _ _ us hl => match us, hl with | [_], _ => rfl)
  have T14 : Tx K mg "_law_plan_read" ["_law_word"] s__law_plan_read := tx_h X G (Pt.fact c0 14 rfl) (Pt.def_ c0 14 rfl) (fun _ _ _ _ _ _ us hl => match us, hl with | [_], _ => rfl)
  have T15 : Tx K mg "_law_read" ["_law_text"] s__law_read := tx_h X G (Pt.fact c0 15 rfl) (Pt.def_ c0 15 rfl) (fun _ _ _ _ _ _ us hl => match us, hl with | [_], _ => rfl)
  have T16 : Tx K mg "_law_told_text" ["_law_text"] s__law_told_text := tx_h X G (Pt.fact c0 16 rfl) (Pt.def_ c0 16 rfl) (fun _ _ _ _ _ _ us hl => match us, hl with | [_], _ => rfl)
  have T17 : Tx K mg "is_letter" ["text"] s_is_letter := tx_h X G (Pt.fact c0 17 rfl) (Pt.def_ c0 17 rfl) (fun _ _ _ _ _ _ us hl => match us, hl with | [_], _ => rfl)
  have T18 : Tx K mg "is_name" ["text"] s_is_name := tx_h X G (Pt.fact c0 18 rfl) (Pt.def_ c0 18 rfl) (fun _ _ _ _ _ _ us hl => match us, hl with | [_], _ => rfl)
  have T19 : Tx K mg "read_name" ["text"] s_read_name := tx_h X G (Pt.fact c0 19 rfl) (Pt.def_ c0 19 rfl) (fun _ _ _ _ _ _ us hl => match us, hl with | [_], _ => rfl)
  have T20 : Tx K mg "read_way" ["text"] s_read_way := tx_h X G (Pt.fact c0 20 rfl) (Pt.def_ c0 20 rfl) (fun _ _ _ _ _ _ us hl => match us, hl with | [_], _ => rfl)
  have T21 : Tx K mg "read_colour" ["text"] s_read_colour := tx_h X G (Pt.fact c0 21 rfl) (Pt.def_ c0 21 rfl) (fun _ _ _ _ _ _ us hl => match us, hl with | [_], _ => rfl)
  have T22 : Tx K mg "read_letter" ["text"] s_read_letter := tx_h X G (Pt.fact c0 22 rfl) (Pt.def_ c0 22 rfl) (fun _ _ _ _ _ _ us hl => match us, hl with | [_], _ => rfl)
  have T23 : Tx K mg "read_number" ["text"] s_read_number := tx_h X G (Pt.fact c0 23 rfl) (Pt.def_ c0 23 rfl) (fun _ _ _ _ _ _ us hl => match us, hl with | [_], _ => rfl)
  have T24 : Tx K mg "is_number" ["text"] s_is_number := tx_h X G (Pt.fact c0 24 rfl) (Pt.def_ c0 24 rfl) (fun _ _ _ _ _ _ us hl => match us, hl with | [_], _ => rfl)
  have T25 : Tx K mg "read_plan" ["text"] s_read_plan := tx_h X G (Pt.fact c0 25 rfl) (Pt.def_ c0 25 rfl) (fun _ _ _ _ _ _ us hl => match us, hl with | [_], _ => rfl)
  have T26 : Tx K mg "read_cut" ["text"] s_read_cut := tx_h X G (Pt.fact c0 26 rfl) (Pt.def_ c0 26 rfl) (fun _ _ _ _ _ _ us hl => match us, hl with | [_], _ => rfl)
  have T27 : Tx K mg "read_things" ["kinds", "words"] s_read_things := tx_h X G (Pt.fact c0 27 rfl) (Pt.def_ c0 27 rfl) (fun _ _ _ _ _ _ us hl => match us, hl with | [_, _], _ => rfl)
  have T28 : Tx K mg "read_thing" ["kind", "word"] s_read_thing := tx_h X G (Pt.fact c0 28 rfl) (Pt.def_ c0 28 rfl) (fun _ _ _ _ _ _ us hl => match us, hl with | [_, _], _ => rfl)
  have T29 : Tx K mg "read_deed" ["text"] s_read_deed := tx_h X G (Pt.fact c0 29 rfl) (Pt.def_ c0 29 rfl) (fun _ _ _ _ _ _ us hl => match us, hl with | [_], _ => rfl)
  have t_READERS := (Pt.tab c0 0 rfl)
  have t_THINGS := (Pt.tab c0 1 rfl)
  have BT : TxE K mg "BadText" "BadText.__init__" ["self", "at"] ["at"] s_BadText___init__ := txe_h X G (Pt.fact c1 10 rfl) (Pt.fact c1 11 rfl) (Pt.fact c1 12 rfl) (Pt.fact c1 13 rfl) (Pt.fact c1 14 rfl) (Pt.fact c1 15 rfl) (Pt.fact c1 16 rfl) (Pt.fact c1 17 rfl) (Pt.def_ c1 0 rfl) (fun _ _ _ _ _ _ us hl => match us, hl with | [_, _], _ => rfl) (fun y hy => by
    rw [List.mem_singleton.mp hy]
    exact He.noat_ok (Pt.fact c1 18 rfl))
  have BF : BadF K mg := fun C hC => by
    have z := hC.symm.trans (He.glo_ok X G (Pt.fact c1 10 rfl))
    cases z
    exact ⟨xfB_ok (Pt.fact c1 19 rfl), He.noat_ok (Pt.fact c1 18 rfl), of_decide_eq_true (Pt.fact c1 20 rfl)⟩
  have ZM : MissW w K mg := fun a ha z hz => by
    have e := ha.symm.trans (He.glo_ok X G (Pt.fact c1 9 rfl))
    cases e
    exact miss_h t_THINGS (Pt.fact c1 21 rfl) (kinds_none hz)
  obtain ⟨fdL, FL⟩ := (Pt.def_ c1 1 rfl)
  have e := hfa.symm.trans (He.glo_ok X G (Pt.fact c1 22 rfl))
  cases e
  have FL2 : Fun K "law" "law" s_law (He.ga K "law") fdL := fun_h FL
  have bL := FunD.bindsA (ps := ["_law_script"]) FL fun _ _ _ _ _ _ us hl => match us, hl with | [_], _ => rfl
  exact ⟨fdL, fun s v => bL s [v] rfl, fun base _ _ => d_law FL2 ⟨T0, T1, T2, T3, T4, T5, T6, T7, T8, T9, T10, T11, T12, T13, T14, T15, T16, T17, T18, T19, T20, T21, T22, T23, T24, T25, T26, T27, T28, T29, (He.int_ok X G (Pt.fact c0 30 rfl)), (He.int_ok X G (Pt.fact c0 31 rfl)), (He.str_ok X G (Pt.fact c0 32 rfl)), (He.str_ok X G (Pt.fact c0 33 rfl)), ⟨_, He.glo_ok X G (Pt.fact c0 35 rfl), fun H => tupA_ok (Pt.fact c0 34 rfl) H⟩, ⟨_, He.glo_ok X G (Pt.fact c0 37 rfl), fun H => tupA_ok (Pt.fact c0 36 rfl) H⟩, (bl_h X G (Pt.fact c0 38 rfl))⟩ ⟨_, He.glo_ok X G (Pt.fact c0 40 rfl), ⟨_, kdct_h t_READERS (Pt.fact c0 39 rfl) 0 rfl, He.glo_ok X G (Pt.fact c0 19 rfl)⟩, ⟨_, kdct_h t_READERS (Pt.fact c0 39 rfl) 1 rfl, He.glo_ok X G (Pt.fact c0 25 rfl)⟩, ⟨_, kdct_h t_READERS (Pt.fact c0 39 rfl) 2 rfl, He.glo_ok X G (Pt.fact c0 20 rfl)⟩, ⟨_, kdct_h t_READERS (Pt.fact c0 39 rfl) 3 rfl, He.glo_ok X G (Pt.fact c0 23 rfl)⟩, ⟨_, kdct_h t_READERS (Pt.fact c0 39 rfl) 4 rfl, He.glo_ok X G (Pt.fact c0 21 rfl)⟩, ⟨_, kdct_h t_READERS (Pt.fact c0 39 rfl) 5 rfl, He.glo_ok X G (Pt.fact c0 22 rfl)⟩⟩ ⟨_, He.glo_ok X G (Pt.fact c1 9 rfl), low_h t_THINGS, fun e he => by
      simp only [kindsL, List.mem_cons, List.not_mem_nil, or_false] at he
      rcases he with rfl | rfl | rfl | rfl | rfl | rfl | rfl | rfl | rfl | rfl | rfl
      · exact ⟨_, kdct_h t_THINGS (Pt.fact c0 41 rfl) 0 rfl, fun H => tupA_ok (Pt.fact c0 42 rfl) H⟩
      · exact ⟨_, kdct_h t_THINGS (Pt.fact c0 41 rfl) 1 rfl, fun H => tupA_ok (Pt.fact c0 43 rfl) H⟩
      · exact ⟨_, kdct_h t_THINGS (Pt.fact c0 41 rfl) 2 rfl, fun H => tupA_ok (Pt.fact c1 0 rfl) H⟩
      · exact ⟨_, kdct_h t_THINGS (Pt.fact c0 41 rfl) 3 rfl, fun H => tupA_ok (Pt.fact c1 1 rfl) H⟩
      · exact ⟨_, kdct_h t_THINGS (Pt.fact c0 41 rfl) 4 rfl, fun H => tupA_ok (Pt.fact c1 2 rfl) H⟩
      · exact ⟨_, kdct_h t_THINGS (Pt.fact c0 41 rfl) 5 rfl, fun H => tupA_ok (Pt.fact c1 3 rfl) H⟩
      · exact ⟨_, kdct_h t_THINGS (Pt.fact c0 41 rfl) 6 rfl, fun H => tupA_ok (Pt.fact c1 4 rfl) H⟩
      · exact ⟨_, kdct_h t_THINGS (Pt.fact c0 41 rfl) 7 rfl, fun H => tupA_ok (Pt.fact c1 5 rfl) H⟩
      · exact ⟨_, kdct_h t_THINGS (Pt.fact c0 41 rfl) 8 rfl, fun H => tupA_ok (Pt.fact c1 6 rfl) H⟩
      · exact ⟨_, kdct_h t_THINGS (Pt.fact c0 41 rfl) 9 rfl, fun H => tupA_ok (Pt.fact c1 7 rfl) H⟩
      · exact ⟨_, kdct_h t_THINGS (Pt.fact c0 41 rfl) 10 rfl, fun H => tupA_ok (Pt.fact c1 8 rfl) H⟩⟩ BT BF ZM⟩
end Pf
open PySem PySem.W PySem.Calls PyProof.Rows
set_option maxRecDepth 100000 in
set_option maxHeartbeats 0 in
theorem PySem.Challenge.cw_pinchfold_k50_texts_of_no_deed_holds : PySem.Challenge.rw_pinchfold_k50_texts_of_no_deed.Holds := by
  w_on; o_law
  refine HandSHeadRun.head_any (r := OpenLaw.row PySem.Challenge.rw_pinchfold_k50_texts_of_no_deed) (q := view (OpenLaw.row PySem.Challenge.rw_pinchfold_k50_texts_of_no_deed).prog [45]) (H := Pf.hkP Pf.hAs Pf.hPs) (ob := fun s => Pf.hPs.map fun p => Pf.ptK p (He.frG (HandSHeadRun.getT s) Pf.hAs)) (M := 30000) (loose := Pf.hLo) (d := HandSHeadRun.topDef (OpenLaw.row PySem.Challenge.rw_pinchfold_k50_texts_of_no_deed).prog 45) (kwd := []) (Pf.obP_eq Pf.hAs Pf.hPs)
    (by kernel_rfl) (fun s => by kernel_rfl) Pf.hRun (by kernel_rfl) (by kernel_rfl) (by kernel_rfl) (by rfl) (by first | assumption | decide +kernel) (by decide +kernel) ⟨rfl, rfl, rfl, rfl, rfl, by decide +kernel⟩ ?hw ?hc
  case hw => w_witness2
  case hc =>
    refine L2.walk_ofE (l := PySem.Challenge.rw_pinchfold_k50_texts_of_no_deed) (n := 63) (k := 48) (x := "_law_script") (CX := L2.CX0) rfl (by decide) (by kernel_rfl) ⟨rfl, by decide, by decide⟩ ?F (fun _ _ _ _ z => z)
    intro w mg fa h Y G hmg0
    obtain ⟨K, KX, c⟩ := Y
    have hmg : mg ("law" : PySem.Str) = some (.ref fa) := by
      have e : (HandSHeadRun.topDef (OpenLaw.row PySem.Challenge.rw_pinchfold_k50_texts_of_no_deed).prog 45).name = ("law" : PySem.Str) := by kernel_rfl
      rw [← e]
      exact hmg0
    obtain ⟨fd, hb, hF⟩ := Pf.hFacts (P := (PySem.Challenge.rw_pinchfold_k50_texts_of_no_deed).prog) (w := w) KX G hmg c
    exact ⟨K, fd, Pf.spLaw K, KX, hb, fun H a ns hl _ hS => ⟨a, ns, rfl, hS, hl, fun _ => rfl⟩, hF⟩


