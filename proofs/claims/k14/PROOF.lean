import PyProof.Rows.All
import Wide.All
import OpenK.AllK
import Wide.FinOn
import KE.KStateDown
import KE.KNestM
import HandS.Head0
import HandS.Head1
import HandS.Head2
import HandS.Head3
import KE.KLam
import KE.KNest
import HandS.ForMost
import HandS.ForExc
import HandS.Codes
import HandS.Lambda
import HandS.EndTab
import HandS.ExcIs
import HandS.IsInst
import HandS.Defaults
import HandS.MakeKwOnly
import HandS.Gcd
import HandS.Walk
import HandS.Conv
import HandS.Wide
import HandS.Flow
import Flt.RightSqrt
import HandS.Words
import HandS.WordsExc
import HandS.RaiseMore
import PyProof.ReprRoads
import PyProof.CallFns
import HandS.Steps
import HandS.More
import HandS.TupAny
import HandS.DictComp
import HandS.Iter
import KE.GoesEnum
import PyProof.EnumMake
import HandS.Set
import HandS.Strs
import HandS.SetFor
import HandS.TupSets
import HandS.SetKeys
import PyProof.Rows.SortStr
import PyProof.SetRoads
import HandS.ExcInit
import KE.KExcSuper
import HandS.ExcField
import HandS.Deep
import HandS.Style
import PySem.Challenge.RW_rulerchest_k14_deeds_and_drawings_judged
set_option Elab.async false
set_option linter.all false
set_option maxRecDepth 100000
set_option maxHeartbeats 0
namespace Zhd
open PySem PySem.W PySem.Calls PyProof.Rows HandSHeadRun
abbrev R : OpenRow := OpenLaw.row PySem.Challenge.rw_rulerchest_k14_deeds_and_drawings_judged
abbrev qv : Program := view R.prog [0, 164, 165, 166]
def nm0 : List PySem.Str := [("RulerError" : PySem.Str), ("NotTower" : PySem.Str), ("BadParts" : PySem.Str), ("BadNumber" : PySem.Str), ("BadPoints" : PySem.Str), ("BadDeed" : PySem.Str), ("BadTable" : PySem.Str), ("CannotLay" : PySem.Str), ("NoName" : PySem.Str), ("LETTERS" : PySem.Str), ("DIGITS" : PySem.Str), ("SHEET_NAMES" : PySem.Str)]
def nm1 : List PySem.Str := [("is_whole" : PySem.Str), ("is_tuple_of" : PySem.Str), ("is_list" : PySem.Str), ("is_fraction" : PySem.Str), ("are_fractions" : PySem.Str), ("lowest" : PySem.Str), ("is_name" : PySem.Str), ("is_name_table" : PySem.Str), ("added" : PySem.Str), ("taken" : PySem.Str), ("stretched" : PySem.Str), ("reduced" : PySem.Str)]
def nm2 : List PySem.Str := [("halves" : PySem.Str), ("multiplied" : PySem.Str), ("by_row" : PySem.Str), ("norm" : PySem.Str), ("inverted" : PySem.Str), ("whole_root" : PySem.Str), ("square_root" : PySem.Str), ("root_without_last" : PySem.Str), ("root_with_halves" : PySem.Str), ("enclosed" : PySem.Str), ("widened" : PySem.Str), ("bounds_within" : PySem.Str)]
def nm3 : List PySem.Str := [("NEAR_BITS" : PySem.Str), ("MOST_ROWS" : PySem.Str), ("Basis" : PySem.Str), ("bare_basis" : PySem.Str), ("settled_value" : PySem.Str), ("value_of_parts" : PySem.Str), ("parts_of_value" : PySem.Str), ("grown" : PySem.Str), ("grown_by" : PySem.Str), ("basis_of" : PySem.Str), ("bounds_at" : PySem.Str), ("value_sign" : PySem.Str)]
def nm4 : List PySem.Str := [("value_order" : PySem.Str), ("value_root" : PySem.Str), ("negative" : PySem.Str), ("with_one_den" : PySem.Str), ("value_sum" : PySem.Str), ("value_product" : PySem.Str), ("padded" : PySem.Str), ("brought" : PySem.Str), ("united_bases" : PySem.Str), ("basis_with_root" : PySem.Str), ("rewritten" : PySem.Str), ("used_rows" : PySem.Str)]
def nm5 : List PySem.Str := [("places_within" : PySem.Str), ("trimmed_value" : PySem.Str), ("Tower" : PySem.Str), ("tower_on" : PySem.Str), ("ZERO_PARTS" : PySem.Str), ("Number" : PySem.Str), ("is_number" : PySem.Str), ("number_on" : PySem.Str), ("point_on" : PySem.Str), ("fraction" : PySem.Str), ("order_within" : PySem.Str), ("longest" : PySem.Str)]
def nm6 : List PySem.Str := [("have_one_value" : PySem.Str), ("Levelled" : PySem.Str), ("level_of" : PySem.Str), ("level_of_points" : PySem.Str), ("padded_vector" : PySem.Str), ("way_to" : PySem.Str), ("turned_left" : PySem.Str), ("is_still" : PySem.Str), ("across" : PySem.Str), ("within" : PySem.Str), ("square_of" : PySem.Str), ("stretch" : PySem.Str)]
def nm7 : List PySem.Str := [("summed" : PySem.Str), ("vector_sign" : PySem.Str), ("with_root" : PySem.Str), ("point_along" : PySem.Str), ("point_by_share" : PySem.Str), ("line_meet" : PySem.Str), ("on_line_at" : PySem.Str), ("on_both_circles" : PySem.Str), ("point_by_square" : PySem.Str), ("whole_places" : PySem.Str), ("whole_meet" : PySem.Str), ("lay_meet" : PySem.Str)]
def nm8 : List PySem.Str := [("lay_upright" : PySem.Str), ("lay_gauge" : PySem.Str), ("lay_dividers" : PySem.Str), ("unit" : PySem.Str), ("lay_length" : PySem.Str), ("lay_halver" : PySem.Str), ("padded_place" : PySem.Str), ("lay_strip" : PySem.Str), ("lay_rims" : PySem.Str), ("lay_disc" : PySem.Str), ("lay_corner" : PySem.Str), ("lay_compass" : PySem.Str)]
def nm9 : List PySem.Str := [("lay_circles" : PySem.Str), ("found_on_line" : PySem.Str), ("found_by_way" : PySem.Str), ("LAYINGS" : PySem.Str), ("lay_down" : PySem.Str), ("is_point" : PySem.Str), ("are_points" : PySem.Str), ("check_dict_of_points" : PySem.Str), ("sheet" : PySem.Str), ("NAME_COUNTS" : PySem.Str), ("WORDS_WITH_WAYS" : PySem.Str), ("TOOLS_OF_OTHER_WORDS" : PySem.Str)]
def nm10 : List PySem.Str := [("is_deed" : PySem.Str), ("check_deed" : PySem.Str), ("are_steps" : PySem.Str), ("is_drawing" : PySem.Str), ("deed_names" : PySem.Str), ("deed_way" : PySem.Str), ("names_of" : PySem.Str), ("tool_of" : PySem.Str), ("on_names" : PySem.Str), ("with_names" : PySem.Str), ("first_unknown" : PySem.Str), ("place_of_deed" : PySem.Str)]
def nm11 : List PySem.Str := [("check_known_names" : PySem.Str), ("place_laid" : PySem.Str), ("laid" : PySem.Str), ("_law_begun" : PySem.Str), ("_law_stirred" : PySem.Str), ("_law_draw" : PySem.Str), ("_law_pick" : PySem.Str), ("_law_shuffled" : PySem.Str), ("_law_name" : PySem.Str), ("_law_caught" : PySem.Str), ("_law_forms" : PySem.Str), ("_law_has_way" : PySem.Str)]
def nm12 : List PySem.Str := [("_law_deed" : PySem.Str), ("_law_is_name_due" : PySem.Str), ("_law_is_deed_due" : PySem.Str), ("_law_bent" : PySem.Str), ("_law_is_drawing_due" : PySem.Str), ("_law_steps" : PySem.Str), ("_law_bent_steps" : PySem.Str)]
def names : List PySem.Str := nm0 ++ nm1 ++ nm2 ++ nm3 ++ nm4 ++ nm5 ++ nm6 ++ nm7 ++ nm8 ++ nm9 ++ nm10 ++ nm11 ++ nm12
abbrev dL : DefRec := ⟨("law" : PySem.Str), (topDef R.prog 166).params, (topDef R.prog 166).body, (topDef R.prog 166).scope, (topDef R.prog 166).pos⟩
/-- what the run leaves, at a world -/
noncomputable abbrev left (w : World) : Option (Shared × SharedT) := wholeF (fun p => stepQ (denQ tabQ) p w) fenceQ 8000 R.prog
theorem lookA0 (w : World) : (left (w.withFollow "special-get-raises" false)).map (fun x => looksF R.prog x.1.heap x.2.abs) = some (true) := by kernel_rfl
theorem lookA1 (w : World) : (left (w.withFollow "special-get-raises" true)).map (fun x => looksF R.prog x.1.heap x.2.abs) = some (true) := by kernel_rfl
theorem lookA (w : World) : (left w).map (fun x => looksF R.prog x.1.heap x.2.abs) = some (true) := byRow2 "special-get-raises" (P := fun w => (left w).map (fun x => looksF R.prog x.1.heap x.2.abs) = some (true)) lookA0 lookA1 w
theorem lookB0 (w : World) : (left (w.withFollow "special-get-raises" false)).map (fun x => seenQ qv names (importedModules R.prog.main.body) (fun s => xlAt qv [] s && recOk R.toRowW.records s) x.2.abs) = some (openGood qv names) := by kernel_rfl
theorem lookB1 (w : World) : (left (w.withFollow "special-get-raises" true)).map (fun x => seenQ qv names (importedModules R.prog.main.body) (fun s => xlAt qv [] s && recOk R.toRowW.records s) x.2.abs) = some (openGood qv names) := by kernel_rfl
theorem lookB (w : World) : (left w).map (fun x => seenQ qv names (importedModules R.prog.main.body) (fun s => xlAt qv [] s && recOk R.toRowW.records s) x.2.abs) = some (openGood qv names) := byRow2 "special-get-raises" (P := fun w => (left w).map (fun x => seenQ qv names (importedModules R.prog.main.body) (fun s => xlAt qv [] s && recOk R.toRowW.records s) x.2.abs) = some (openGood qv names)) lookB0 lookB1 w
theorem some3 {α β γ δ : Type} {o : Option α} {f : α → β} {g : α → γ} {h : α → δ} {b : β} {c : γ} {d : δ} (h1 : o.map f = some b) (h2 : o.map g = some c) (h3 : o.map h = some d) : o.map (fun x => (f x, g x, h x)) = some (b, c, d) := by
  cases o with
  | none => cases h1
  | some x =>
    cases h1
    cases h2
    cases h3
    rfl
theorem map_getT {as : List Addr} {s : SharedT} : as.map (getT s) = as.map s.abs.heap.get? := by
  rw [show getT s = s.abs.heap.get? from funext fun a => getT_eq s a]
theorem hdef : defOf qv R.name = some (dL, []) := by kernel_rfl
theorem hp : R.prog.theDef R.name = some (dL.params, dL.body, dL.scope) := by kernel_rfl
theorem hk2 : kwWritten? dL.params.kwonlyargs dL.params.kw_defaults = some [] := by kernel_rfl
theorem hwr : (!R.writes || R.records.isEmpty) = true := by kernel_rfl
theorem ok : (chainsOk qv && opensWell R.prog && (frees R.toRowW && R.within.isEmpty)) = true := by kernel_rfl
theorem hb : R.prog.bare := ⟨rfl, rfl, rfl, rfl, rfl, by decide +kernel⟩
/-- the head, from what stands at the addresses as -/
theorem head_k {K : Params → Frag} {as : List Addr} {e : ∀ P, as = (K P).map (·.1)}
    (hk : ∀ w, (left w).map (fun x => as.map (getT x.2)) = some ((K w.params).map fun p => some p.2))
    (k1 : R.wellSaid = true) (hw : R.toRowW.promised)
    (call : WalkO qv names (XL qv []) (kHook K as e).says R.toRowW dL [] fun f vs => PySem.call f vs) : R.Holds :=
  head_imp (r := R) (q := qv) (H := kHook K as e) (ob := fun s => as.map (getT s)) (M := 8000) (loose := names) (d := dL) (kwd := []) (fun s => map_getT)
    (fun w => some3 (lookA w) (lookB w) (hk w)) hdef hp hk2 hwr k1 ok hb hw call
theorem join2 {σ : Type} {o : Option σ} {g : σ → Addr → Option Obj} {as : List Addr} {vs : List (Option Obj)} (n : Nat) (h1 : o.map (fun x => (as.take n).map (g x)) = some (vs.take n)) (h2 : o.map (fun x => (as.drop n).map (g x)) = some (vs.drop n)) : o.map (fun x => as.map (g x)) = some vs := by
  cases o with
  | none => cases h1
  | some x =>
    have e1 : (as.take n).map (g x) = vs.take n := Option.some.inj h1
    have e2 : (as.drop n).map (g x) = vs.drop n := Option.some.inj h2
    show some (as.map (g x)) = some vs
    rw [← List.take_append_drop n as, List.map_append, e1, e2, List.take_append_drop]
/-- a part of the addresses, with one answer of the world's -/
abbrev Part (K : Params → Frag) (as : List Addr) (b : Bool) (f : {α : Type} → List α → List α) : Prop := ∀ w : World, (left (w.withFollow "special-get-raises" b)).map (fun x => (f as).map (getT x.2)) = some (f ((K (w.withFollow "special-get-raises" b).params).map fun p => some p.2))
abbrev p1 {α : Type} (l : List α) : List α := (l.take 350).take 175
abbrev p2 {α : Type} (l : List α) : List α := (l.take 350).drop 175
abbrev p3 {α : Type} (l : List α) : List α := (l.drop 350).take 175
abbrev p4 {α : Type} (l : List α) : List α := (l.drop 350).drop 175
theorem all4 {σ : Type} {o : Option σ} {g : σ → Addr → Option Obj} {as : List Addr} {vs : List (Option Obj)} (h1 : o.map (fun x => (p1 as).map (g x)) = some (p1 vs)) (h2 : o.map (fun x => (p2 as).map (g x)) = some (p2 vs)) (h3 : o.map (fun x => (p3 as).map (g x)) = some (p3 vs)) (h4 : o.map (fun x => (p4 as).map (g x)) = some (p4 vs)) : o.map (fun x => as.map (g x)) = some vs :=
  join2 (g := g) 350 (join2 (g := g) 175 h1 h2) (join2 (g := g) 175 h3 h4)
theorem some2 {α β γ : Type} {o : Option α} {f : α → β} {g : α → γ} {b : β} {c : γ} (h1 : o.map f = some b) (h2 : o.map g = some c) : o.map (fun x => (f x, g x)) = some (b, c) := by
  cases o with
  | none => cases h1
  | some x =>
    cases h1
    cases h2
    rfl
theorem of2 {α β γ : Type} {o : Option α} {f : α → β} {g : α → γ} {b : β} {c : γ} (h : o.map (fun x => (f x, g x)) = some (b, c)) : o.map f = some b ∧ o.map g = some c := by
  cases o with
  | none => cases h
  | some x =>
    injection h with h
    injection h with h1 h2
    exact ⟨congrArg some h1, congrArg some h2⟩
/-- the first part, with empty tables -/
abbrev PartT (K : Params → Frag) (as : List Addr) (ts : List Addr) (b : Bool) : Prop := ∀ w : World, (left (w.withFollow "special-get-raises" b)).map (fun x => ((p1 as).map (getT x.2), ts.map (getT x.2))) = some (p1 ((K (w.withFollow "special-get-raises" b).params).map fun p => some p.2), ts.map fun _ => some (tabObj #[]))
theorem rowP {K : Params → Frag} {as ts : List Addr} (a1 : PartT K as ts false) (a2 : Part K as false p2) (a3 : Part K as false p3) (a4 : Part K as false p4) (b1 : PartT K as ts true) (b2 : Part K as true p2) (b3 : Part K as true p3) (b4 : Part K as true p4) (w : World) :
    (left w).map (fun x => (as.map (getT x.2), ts.map (getT x.2))) = some ((K w.params).map fun p => some p.2, ts.map fun _ => some (tabObj #[])) :=
  byRow2 "special-get-raises" (P := fun w => (left w).map (fun x => (as.map (getT x.2), ts.map (getT x.2))) = some ((K w.params).map fun p => some p.2, ts.map fun _ => some (tabObj #[])))
    (fun w => some2 (o := left (w.withFollow "special-get-raises" false)) (all4 (o := left (w.withFollow "special-get-raises" false)) (g := fun x => getT x.2) (of2 (a1 w)).1 (a2 w) (a3 w) (a4 w)) (of2 (a1 w)).2)
    (fun w => some2 (o := left (w.withFollow "special-get-raises" true)) (all4 (o := left (w.withFollow "special-get-raises" true)) (g := fun x => getT x.2) (of2 (b1 w)).1 (b2 w) (b3 w) (b4 w)) (of2 (b1 w)).2) w
theorem map_getT2 {as ts : List Addr} {s : SharedT} : (as.map (getT s), ts.map (getT s)) = (as.map s.abs.heap.get?, ts.map s.abs.heap.get?) := by
  rw [show getT s = s.abs.heap.get? from funext fun a => getT_eq s a]
/-- the head of a law with lambdas or inner defs -/
theorem head_m {K : Params → Frag} {as ts : List Addr} {e : ∀ P, as = (K P).map (·.1)}
    (hk : ∀ w, (left w).map (fun x => (as.map (getT x.2), ts.map (getT x.2))) = some ((K w.params).map fun p => some p.2, ts.map fun _ => some (tabObj #[])))
    (k1 : R.wellSaid = true) (hw : R.toRowW.promised)
    (call : WalkO qv names (XL qv []) (kmHook K as e ts).says R.toRowW dL [] fun f vs => PySem.call f vs) : R.Holds :=
  head_imp (r := R) (q := qv) (H := kmHook K as e ts) (ob := fun s => (as.map (getT s), ts.map (getT s))) (M := 8000) (loose := names) (d := dL) (kwd := []) (fun s => map_getT2)
    (fun w => some3 (lookA w) (lookB w) (hk w)) hdef hp hk2 hwr k1 ok hb hw call
theorem rowK {K : Params → Frag} {as : List Addr} (a1 : Part K as false p1) (a2 : Part K as false p2) (a3 : Part K as false p3) (a4 : Part K as false p4) (b1 : Part K as true p1) (b2 : Part K as true p2) (b3 : Part K as true p3) (b4 : Part K as true p4) (w : World) : (left w).map (fun x => as.map (getT x.2)) = some ((K w.params).map fun p => some p.2) :=
  byRow2 "special-get-raises" (P := fun w => (left w).map (fun x => as.map (getT x.2)) = some ((K w.params).map fun p => some p.2))
    (fun w => all4 (o := left (w.withFollow "special-get-raises" false)) (g := fun x => getT x.2) (a1 w) (a2 w) (a3 w) (a4 w)) (fun w => all4 (o := left (w.withFollow "special-get-raises" true)) (g := fun x => getT x.2) (b1 w) (b2 w) (b3 w) (b4 w)) w
end Zhd


set_option Elab.async false
set_option linter.all false
set_option maxRecDepth 100000
set_option maxHeartbeats 0
section
open PySem PySem.W PyProof.Rows
local macro_rules | `(tactic| o_head (kmHook $K $as $e $ts)) => `(tactic|
  refine Zhd.head_m (K := $K) (as := $as) (ts := $ts) (e := fun _ => by kernel_rfl) (Zhd.rowP ?p1 ?p2 ?p3 ?p4 ?p5 ?p6 ?p7 ?p8) (by first | assumption | decide +kernel) ?hw ?hc)
theorem kmk (hall : ∀ p : Prop, p) (h : (OpenLaw.row PySem.Challenge.rw_rulerchest_k14_deeds_and_drawings_judged).wellSaid = true) : (OpenLaw.row PySem.Challenge.rw_rulerchest_k14_deeds_and_drawings_judged).Holds := by
  k_head
  all_goals exact hall _
abbrev kas : List Addr := [2, 3, 43, 50, 51, 52, 53, 56, 63, 64, 65, 68, 75, 76, 77, 80, 87, 88, 89, 92, 99, 100, 101, 104, 111, 112, 113, 116, 123, 124, 125, 128, 135, 136, 137, 140, 143, 148, 149, 151, 152, 154, 155, 156, 157, 158, 161, 162, 164, 165, 167, 168, 169, 171, 172, 174, 175, 176, 178, 179, 181, 182, 183, 185, 186, 188, 189, 190, 192, 193, 195, 196, 197, 199, 200, 202, 203, 204, 207, 208, 209, 212, 213, 214, 217, 218, 219, 222, 223, 224, 227, 228, 229, 232, 233, 234, 236, 237, 239, 240, 241, 243, 244, 246, 247, 248, 250, 251, 253, 254, 255, 257, 258, 260, 261, 262, 264, 265, 267, 268, 269, 271, 272, 274, 275, 276, 278, 279, 281, 282, 283, 285, 286, 288, 289, 290, 292, 293, 295, 296, 297, 299, 300, 302, 303, 304, 307, 308, 309, 311, 312, 314, 315, 323, 325, 326, 328, 329, 330, 331, 332, 333, 334, 337, 339, 340, 342, 343, 344, 347, 348, 349, 352, 353, 354, 356, 357, 359, 360, 361, 363, 364, 366, 367, 368, 370, 371, 373, 374, 375, 377, 378, 380, 381, 382, 384, 385, 387, 388, 389, 391, 392, 394, 395, 396, 398, 399, 401, 402, 403, 405, 406, 408, 409, 410, 412, 413, 415, 416, 417, 419, 420, 422, 423, 424, 426, 427, 429, 430, 431, 433, 434, 436, 437, 438, 440, 441, 443, 444, 445, 447, 448, 450, 451, 452, 455, 456, 457, 459, 460, 462, 463, 464, 466, 467, 469, 470, 471, 474, 475, 476, 478, 479, 481, 482, 483, 486, 487, 495, 496, 497, 499, 500, 502, 503, 504, 506, 507, 509, 510, 511, 512, 513, 514, 515, 518, 520, 521, 523, 524, 525, 526, 534, 536, 537, 539, 540, 541, 543, 544, 546, 547, 548, 549, 550, 551, 552, 555, 557, 558, 560, 561, 562, 564, 565, 567, 568, 569, 571, 572, 574, 575, 576, 577, 579, 580, 582, 583, 584, 586, 587, 589, 590, 591, 594, 595, 596, 598, 599, 601, 602, 610, 612, 613, 615, 616, 617, 620, 621, 622, 623, 624, 625, 626, 629, 632, 633, 634, 637, 638, 639, 641, 642, 644, 645, 646, 648, 649, 651, 652, 653, 655, 656, 658, 659, 660, 662, 663, 665, 666, 667, 669, 670, 672, 673, 674, 676, 677, 679, 680, 681, 683, 684, 686, 687, 688, 690, 691, 693, 694, 695, 697, 698, 700, 701, 702, 704, 705, 707, 708, 709, 711, 712, 714, 715, 716, 719, 720, 721, 723, 724, 726, 727, 728, 730, 731, 733, 734, 735, 738, 739, 740, 743, 744, 745, 747, 748, 750, 751, 752, 755, 756, 757, 759, 760, 762, 763, 764, 766, 767, 769, 770, 771, 773, 774, 776, 777, 778, 780, 781, 783, 784, 785, 787, 788, 790, 791, 792, 794, 795, 797, 798, 799, 801, 802, 804, 805, 806, 808, 809, 811, 812, 813, 815, 816, 818, 819, 820, 822, 823, 825, 826, 827, 829, 830, 832, 833, 834, 836, 837, 839, 840, 841, 843, 844, 846, 847, 848, 850, 851, 853, 854, 855, 857, 858, 860, 861, 862, 864, 865, 867, 868, 869, 871, 872, 874, 875, 876, 877, 879, 880, 882, 883, 884, 886, 887, 889, 890, 891, 894, 895, 896, 898, 899, 901, 902, 903, 905, 906, 908, 909, 910, 911, 912, 913, 916, 917, 918, 920, 921, 923, 924, 925, 928, 929, 930, 932, 933, 935, 936, 937, 939, 940, 942, 943, 944, 946, 947, 949, 950, 951, 953, 954, 956, 957, 958, 960, 961, 963, 964, 965, 967, 968, 970, 971, 972, 975, 976, 977, 979, 980, 982, 983, 984, 987, 988, 989, 991, 992, 994, 995, 996, 998, 999, 1001, 1002, 1003, 1005, 1006, 1008, 1009, 1010, 1013, 1014, 1015, 1017, 1018, 1020, 1021, 1022, 1024, 1025, 1027, 1028, 1029, 1031, 1032, 1034, 1035, 1036, 1038, 1039, 1041, 1042, 1043, 1046, 1047, 1048, 1050, 1051, 1053, 1054, 1055, 1057, 1058, 1060, 1061, 1062, 1064, 1065, 1067, 1068, 1069, 1072, 1073, 1074, 1077, 1078, 1079, 1082, 1083, 1084, 1086, 1087, 1089, 1090, 1091, 1094, 1095, 1096, 1098, 1099, 1101, 1102, 1103, 1105, 1106, 1108, 1109, 1110, 1113, 1114, 1115, 1118, 1119, 1120, 1122, 1123, 1125, 1126]
abbrev kts : List Addr := [1116, 1111]
theorem kq1 : Zhd.PartT kmk.heap_1 kas kts false := by intro w; kernel_rfl
theorem kq2 : Zhd.Part kmk.heap_1 kas false Zhd.p2 := by intro w; kernel_rfl
theorem kq3 : Zhd.Part kmk.heap_1 kas false Zhd.p3 := by intro w; kernel_rfl
theorem kq4 : Zhd.Part kmk.heap_1 kas false Zhd.p4 := by intro w; kernel_rfl
theorem kq5 : Zhd.PartT kmk.heap_1 kas kts true := by intro w; kernel_rfl
theorem kq6 : Zhd.Part kmk.heap_1 kas true Zhd.p2 := by intro w; kernel_rfl
theorem kq7 : Zhd.Part kmk.heap_1 kas true Zhd.p3 := by intro w; kernel_rfl
theorem kq8 : Zhd.Part kmk.heap_1 kas true Zhd.p4 := by intro w; kernel_rfl
theorem kke (P : Params) : kas = (kmk.heap_1 P).map (·.1) := by kernel_rfl
end

set_option Elab.async false
set_option linter.all false
set_option maxRecDepth 100000
set_option maxHeartbeats 2000000
/-! An error that an except suite hands to a name of its own stays known behind the try; a helper that calls what it gets and hands the error back. -/
namespace Cau
open PySem PySem.Spec PyProof.Rows L2

/-- the error object at e, of the class c, its own dict d -/
def ErrO (c : Value) (d : Option Addr) (e : Addr) : HO :=
  .ext fun h => ∃ (ob : Obj) (fs : Array Value), h.get? e = some ob ∧ Zc c d ob ∧ ob.data = .fields fs
theorem errO_ok {P : Program} {w : World} {H : Hp} {h : Heap} {e : Addr} {c : Value} {d : Option Addr} {ob : Obj} {fs : Array Value}
    (g : h.get? e = some ob) (z : Zc c d ob) (hf : ob.data = .fields fs) : ObjOk P w H h e (ErrO c d e) :=
  ⟨⟨ob, fs, g, z, hf⟩, ⟨ob, g⟩, fun _ _ ⟨o, f, q, r⟩ k => ⟨o, f, k o q, r⟩⟩

section
variable {X : Cx} {pins : List (Addr × Obj)} {σ : L2.St} {H : Hp} {s : Shared}
/-- an object that was not there at the entry, and that nothing speaks of, is spoken of from now on -/
theorem inv_told {e : Addr} {u : HO} (I : Inv X pins σ H s) (hn : H e = none) (h0 : X.s_0.heap.get? e = none) (ok : ObjOk X.prog X.w (upd H e u) s.heap e u)
    (hL : e ≠ X.env.locals) (hC : ∀ x c, X.env.cells.lookup x = some c → c ≠ e) (hP : ∀ p ∈ X.pn ++ pins, p.1 ≠ e) : Inv X pins σ (upd H e u) s := by
  have more : ∀ b v, H b = some v → upd H e u b = some v := fun b v q => by
    rw [upd_ne (ne_of_none q hn)]; exact q
  have less : ∀ b, b ≠ e → H b = none → upd H e u b = none := fun b hb q => by rw [upd_ne hb]; exact q
  have un : Un X.fs X.ex X.H_0 (upd H e u) X.s_0.heap s.heap :=
    { keep := I.base.keep
      slot := I.base.slot
      free := fun b o q n hx => less b (fun z => by rw [z, h0] at q; cases q) (I.base.free b o q n hx)
      there := I.base.there
      tups := fun b xs q => more _ _ (I.base.tups b xs q)
      frzs := fun b o v q => more _ _ (I.base.frzs b o v q)
      tbls := fun b ps q => by
        obtain ⟨m, r⟩ := I.base.tbls b ps q
        exact ⟨m, more _ _ r⟩ }
  have hok : HOk X.prog X.w (upd H e u) s.heap := fun b v q => by
    by_cases hb : b = e
    · subst hb
      rw [upd_same] at q
      cases q
      exact ok
    · rw [upd_ne hb] at q
      exact (I.hok b v q).stay (fun _ _ _ r => r) (fun _ r => more _ _ r) fun _ _ r => more _ _ r
  exact
    { ok := I.ok, os := I.os, bare := I.bare, base := un, loc := I.loc, cell := I.cell
      free := less _ (Ne.symm hL) I.free
      freeC := fun x c q => less _ (hC x c q) (I.freeC x c q)
      pin := fun p hp => by
        obtain ⟨a1, a2, a3⟩ := I.pin p hp
        exact ⟨a1, less _ (hP p hp) a2, a3⟩
      hok := hok, len := I.len }
end

/-- what the clause «except x as n» (n in slot i) wishes of an error of the body that it always takes: the suite falls through, and behind it the error is told of at its address -/
def wTell (K : PySem.W.Frag) (c : Value) (i : Nat) (ts : Addr → Value → Option Addr → TS) (D : Ends) : WX := fun cls d σ H =>
  PySem.W.exmOne K cls c = some true ∧
    ∀ e, H e = none → ts e cls d { nx := fun σ' H' => D.nx (σ'.set i none) (upd H' e (ErrO cls d e)), rt := fun _ _ => False, bk := fun _ _ => False, ct := fun _ _ => False } (σ.set i (some (.ref e))) H
section
variable {X : Cx} {x n : Str} {c : Value} {i : Nat} {body suite : List Stmt} {st : Stmt} {q1 q2 q3 : Pos} {tb : WX → TS} {ts : Addr → Value → Option Addr → TS}
theorem ps_tryTell (hst : X.stack = X.env :: X.outer) (hfrm : X.env.frame = some X.env.locals) (hnd : X.N.Nodup) (hi : X.N[i]? = some n) (hl : X.env.kindOf n = some .local) (hc : Names X x c) (hex : X.ex = [])
    (hbody : ∀ (W : WX) (pn : List (Addr × Obj)) (xe : Value → Shared → Prop), Takes (X.tr pn xe) W → PSs (X.tr pn xe) body (tb W))
    (hsuite : ∀ (e : Addr) (ob : Obj) (cls : Value) (d : Option Addr) (pn : List (Addr × Obj)), Zc cls d ob → (∃ fs, ob.data = .fields fs) → PSs (X.suite e ((e, ob) :: pn)) (st :: suite) (ts e cls d)) :
    PS X (.Try body [.ExceptHandler (some (.Name x q1)) (some n) (st :: suite) q2] [] [] q3) (fun D σ H => tb (wTell X.K c i ts D) D σ H) := by
  constructor
  intro pins s σ H D I h
  have OK := I.ok
  have frames : X.A.frames = some (X.env :: X.outer) := OK.frames.trans (congrArg some hst)
  apply wpAny_Try_except
  have run := (hbody (wTell X.K c i ts D) (X.pn ++ pins) (fun e s₁ => wpAny (model X.prog X.w) X.A (noteFrame e X.env)
      (fun _ s₂ => wpAny (model X.prog X.w) X.A (setFlight e none)
        (fun _ s₃ => wpAny (model X.prog X.w) X.A (handleBy e X.env [.ExceptHandler (some (.Name x q1)) (some n) (st :: suite) q2]) (SP X pins D) X.xe s₃) X.xe s₂) X.xe s₁) ?takes).run [] s σ H D (I.toTry _) h
  case takes =>
    rintro u s1 ⟨e, B, sI, pins1, σ1, H1, cls, d, rfl, J1, inB, upS, sky, ne, eos, bare, hm, wish⟩
    have J := J1.ofTry OK
    rw [show (X.tr (X.pn ++ pins) _).stack = X.env :: X.outer from hst] at sky
    -- the error is new: it is no object of the ground
    have gone : B.get? e = none := by
      rcases sky with z | z | z
      · exact z.2.1
      · exact z.2.1
      · exact z.2.1
    refine Sky.land Zc.steady frames hfrm sky fun ha fly upA => ?_
    have K1 : Inv X pins σ1 H1 { s1 with heap := ha } := J.landed inB fly.1 (upS.trans upA) eos bare
    obtain ⟨oa, fa, ga, za, da⟩ := fly.there
    have offFrames : e ∉ frs (X.env :: X.outer) := fun hmem => by
      obtain ⟨_, o', g', hno⟩ := fly.2.2.1.mem hmem
      rw [ga] at g'
      cases g'
      exact hno _ da
    have offL : e ≠ X.env.locals := fun z => offFrames (List.mem_filterMap.mpr ⟨X.env, List.mem_cons_self, by rw [hfrm, z]⟩)
    have offF : e ∉ X.fs := fun hmem => by
      obtain ⟨v, hv, q⟩ := List.mem_filterMap.mp hmem
      exact offFrames (List.mem_filterMap.mpr ⟨v, List.mem_cons_of_mem _ hv, q⟩)
    have offStack : e ∉ frs X.stack := by rw [hst]; exact offFrames
    have nowhere : sI.heap.get? e = none := by
      cases q : sI.heap.get? e with
      | none => rfl
      | some o => exact absurd (inB e o q offStack) (by rw [gone]; intro z; cases z)
    have fresh : X.s_0.heap.get? e = none := by
      cases q : X.s_0.heap.get? e with
      | none => rfl
      | some o =>
        obtain ⟨o', q'⟩ := J.base.there e o q (by rw [hex]; intro z; cases z)
        rw [nowhere] at q'
        cases q'
    have offPins : ∀ p ∈ X.pn ++ pins, p.1 ≠ e := fun p hp z => by
      have q := (J.pin p hp).1
      rw [z, nowhere] at q
      cases q
    have S1 := K1.suite ga da ne offL offF
    refine wpAny_handleBy_cons (codeAny_handlers_test ?_) (by intro z; cases z)
    have isOf : PySem.W.Looks (model X.prog X.w) ha (typeOf (.ref e)) cls := fun A Q E t k q => wpAny_typeOf_ref (k _ _ ga) (by rw [za.1]; exact q)
    have takesIt := PySem.W.exm_one (M := model X.prog X.w) K1.kIn isOf hm
    have named : ∀ {Q E : Value → Shared → Prop}, Q c { s1 with heap := ha } → wpAny (model X.prog X.w) (X.A.mark (some (.ref e))) (eval (.Name x q1) X.env) Q E { s1 with heap := ha } := by
      intro Q E q
      obtain ⟨g1, g2, g3⟩ := hc
      rcases g3 with m | ⟨m, v, nn⟩
      · exact ld_glob (X := X.suite e ((e, oa) :: (X.pn ++ pins))) S1 g1 m q g2
      · exact ld_blt (X := X.suite e ((e, oa) :: (X.pn ++ pins))) S1 g1 m v q nn g2
    refine named (takesIt.here (codeAny_handlers_suite_as (HandSPX.lands_againZ fly fun hb flyB upB => ?_)))
    have K2 : Inv X pins σ1 H1 { s1 with heap := hb } := J.landed inB flyB.1 ((upS.trans upA).trans upB) eos bare
    obtain ⟨ob, fb, gb, zb, db⟩ := flyB.there
    have S2 := K2.suite gb db ne offL offF
    refine store_ok (X := X.suite e ((e, ob) :: (X.pn ++ pins))) (v := .ref e) S2 hnd hi (.inl hl) rfl (fun s5 S5 => ?_) (.inr hl)
    refine wpAny_mono ((hsuite e ob cls d (X.pn ++ pins) zb ⟨_, db⟩).run [] s5 _ H1 _ S5 (wish e ne)) (fun fl s6 sp => ?_) (fun _ _ z => z.elim)
    cases fl with
    | next =>
      obtain ⟨σ6, H6, S6, q6⟩ := sp
      obtain ⟨g6, n6, _, _, _⟩ := S6.pin (e, ob) (List.mem_append_left _ List.mem_cons_self)
      have offCells : ∀ y k, X.env.cells.lookup y = some k → k ≠ e := fun y k q z => by
        obtain ⟨v, o, go, dq⟩ := S6.cell y k q
        rw [z, g6] at go
        cases go
        rw [db] at dq
        cases dq
      have T6 : Inv X pins σ6 (upd H6 e (ErrO cls d e)) s6 := inv_told (S6.unsuite OK) n6 fresh (errO_ok g6 zb db) offL offCells offPins
      exact gone_ok T6 hnd hi hl fun s7 T7 => ⟨_, _, T7, q6⟩
    | brk =>
      obtain ⟨_, _, _, z⟩ := sp
      exact z.elim
    | cont =>
      obtain ⟨_, _, _, z⟩ := sp
      exact z.elim
    | ret v =>
      obtain ⟨_, _, _, _, _, z⟩ := sp
      exact z.elim
  refine wpAny_mono run (fun fl s1 sp => ?_) (fun _ _ z => z)
  cases fl with
  | next =>
    obtain ⟨σ', H', J, q⟩ := sp
    exact wpAny_execs_nil ⟨σ', H', J.ofTry OK, q⟩
  | brk =>
    obtain ⟨σ', H', J, q⟩ := sp
    exact ⟨σ', H', J.ofTry OK, q⟩
  | cont =>
    obtain ⟨σ', H', J, q⟩ := sp
    exact ⟨σ', H', J.ofTry OK, q⟩
  | ret v =>
    obtain ⟨y, σ', H', J, r, q⟩ := sp
    exact ⟨y, σ', H', J.ofTry OK, r, q⟩
end

/-! ### the helper: found = None; try: action(); except CLASS as error: found = error; return found -/
/-- its names -/
def cauN : List Str := ["action", "found", "error"]
def cauScope (cl : Str) : Scope :=
  { kind := .function, names := [("action", .local), ("found", .local), ("error", .local), (cl, .globalImplicit)], isGenerator := false, isCoroutine := false, more := [] }
/-- what it hands back: None behind a call that raises nothing, else the error, told of at its address -/
def TCau (K : PySem.W.Frag) (CS : Addr) : (XK → Hp → VK → Prop) → Hp → VK → Prop := fun tl H Q =>
  tl (fun cls d H' => PySem.W.exmOne K cls (.ref CS) = some true ∧ ∀ e, H' e = none → Q (.ref e) (upd H' e (ErrO cls d e))) H fun _ H' => Q .non H'
/-- a wish need not speak of frames of another length -/
theorem takes_len {X : Cx} {W : WX} (tk : Takes X W) : Takes X (fun cls d σ H => σ.length = X.N.length → W cls d σ H) := by
  rintro u s1 ⟨e, B, sI, pins, σ, H, cls, d, a1, I, a2, a3, a4, a5, a6, a7, w⟩
  exact tk u s1 ⟨e, B, sI, pins, σ, H, cls, d, a1, I, a2, a3, a4, a5, a6, a7, w I.len⟩
section
variable {X : Cx} {x q cl : Str} {g CS : Addr} {cdg : Value} {p1 p2 p3 p4 p5 p6 p7 p8 p9 p10 p11 p12 p13 p14 : Pos} {j : Nat}
theorem cau_gives (hme : X.mg cl = some (.ref CS)) (hdb : (cl == ("__debug__" : Str)) = false) (h3 : (cauScope cl).names.lookup cl = some .globalImplicit) :
    LamX.GivesTo X cauN x (cauScope cl) g cdg
      [.Assign [.Name "found" p1] (.Constant .none j p2) p3,
        .Try [.Expr (.Call (.Name "action" p4) [] [] p5) p6] [.ExceptHandler (some (.Name cl p7)) (some "error") [.Assign [.Name "found" p8] (.Name "error" p9) p10] p11] [] [] p12,
        .Return (some (.Name "found" p13)) p14] "action" q (TCau X.K CS) := by
  intro f c' s H Q tl act hc h
  have nd : cauN.Nodup := by decide +kernel
  have go : (cxOf C8.CX0 X.prog X.w X.K X.mg X.base cauN x (cauScope cl) g cdg X.A X.stack s H C8.E0).nox.mg cl = some (.ref CS) := hme
  have gl : Gl (cxOf C8.CX0 X.prog X.w X.K X.mg X.base cauN x (cauScope cl) g cdg X.A X.stack s H C8.E0).nox cl := h3
  refine ⟨_, pss_cons (ps_set (i := 1) nd rfl (.inl rfl) pe_non)
    (pss_cons (ps_tryTell (X := (cxOf C8.CX0 X.prog X.w X.K X.mg X.base cauN x (cauScope cl) g cdg X.A X.stack s H C8.E0).nox) (c := .ref CS) (i := 2)
        (tb := fun W D σ H => ∃ E : XK, (∀ cls d (σ' : L2.St) H', E cls d H' → σ'.length = 3 → W cls d σ' H') ∧ σ[0]? = some (some (.ref f)) ∧ H c' = some (LamX.CodeO c' q) ∧ tl E H fun _ H' => D.nx σ H')
        rfl rfl nd rfl rfl ⟨gl, hdb, .inl go⟩ rfl (fun W pn xe tk => ?_)
        (fun e ob cls d pn _ _ => pss_one (ps_set (i := 1) nd rfl (.inl rfl) (pv 2))))
      (pss_one (ps_ret (pv 1)))), ?_⟩
  · constructor
    intro pins s' σ H' D I h'
    obtain ⟨E, hW, h1, h2, h3⟩ := h'
    exact (pss_one (ps_expr (pos := p6) (act _ pn xe E p4 p5 (takes_len tk) hW))).run pins s' σ H' D I ⟨h1, h2, h3⟩
  · refine ⟨fun cls d H' => PySem.W.exmOne X.K cls (.ref CS) = some true ∧ ∀ e, H' e = none → Q (.ref e) (upd H' e (ErrO cls d e)), fun cls d σ' H' z hl => ⟨z.1, fun e he => ?_⟩, rfl, hc, ?_⟩
    · match σ', hl with
      | [a0, a1, a2], _ => exact ⟨.ref e, rfl, .ref e, rfl, z.2 e he⟩
    · have e1 : (fun (_ : V) (H' : Hp) => Q .non H') = fun (_ : V) (H' : Hp) => ∃ v, ([some (.ref f), some .non, none] : L2.St)[1]? = some (some v) ∧ Q v H' := by
        funext _ H'
        exact propext ⟨fun z => ⟨.non, rfl, z⟩, fun ⟨v, a, z⟩ => by cases a; exact z⟩
      have h' := h
      unfold TCau at h'
      rw [e1] at h'
      exact h'
end

/-! ### isinstance of an error that is told of -/
def rIsErr (K : PySem.W.Frag) (D : Addr) : List V → Hp → VK → Prop := fun xs H Q =>
  ∃ (e : Addr) (c : V) (cv : Value) (b : Bool), xs = [.ref e, c] ∧ H e = some (ErrO (.ref D) none e) ∧ (∀ u, RelV c u → u = cv) ∧ PySem.W.kitOne K (.ref D) cv = some b ∧ Q (.bl b) H
theorem call_isErr {X : Cx} {D : Addr} (C : ExcC X.K D) : CallR X (.builtin "isinstance") (rIsErr X.K D) := by
  intro pins s σ H xs us Q I r ⟨e, c, cv, b, hx, he, hcv, hb, q⟩
  subst hx
  obtain ⟨u1, u2, hu, r1, r2⟩ := vals2 r
  subst hu
  cases (show u1 = Value.ref e from r1)
  cases hcv _ r2
  obtain ⟨⟨⟨oc, od, oda, osl⟩, fs, g, z, hf⟩, _⟩ := I.hok e _ he
  obtain ⟨z1, z2⟩ := z
  simp only at z1 z2 hf
  subst z1 z2 hf
  have at_ : PySem.W.InstAt s.heap e _ D none := ⟨g, rfl, rfl, trivial⟩
  exact PySem.W.kia_one (PySem.W.handS_kitx_exc C.hg C.hk C.hs C.hd C.ha C.hn C.ht C.hm) I.kIn at_ hb (fun z => nomatch z) fun tk => ⟨.bl b, H, I.tok tk, rfl, q⟩

/-! ### a def called by keywords alone -/
def tKw (m : Nat) (sp : Sp) (gV : List V → List V → List V) (E : XK) (tk : TA) : TE := fun σ H Q => tk σ H fun zs H1 => zs.length = m ∧ sp (gV [] zs) H1 Q E
section
variable {X : Cx} {CX : CXT} {k : Nat} {f : Addr} {fd : FuncData} {ps ks : List Str} {sp : Sp} {E : XK} {x : Str} {p pos : Pos} {kws : List Keyword} {tk : TA} {g : List Value → List Value → List Value} {gV : List V → List V → List V}
theorem pe_kw (F : FnOk X.prog X.w X.K X.mg X.base CX k f fd ps sp) (hr : Room k X.A) (hg : Gl X x) (hm : X.mg x = some (.ref f)) (hk : PySem.W.keepIn X.K (.ref f) = true) (hb : KBn X.K fd ps 0 ks g gV) (hx : Passes CX X E) (hkw : PK X kws tk)
    (h1 : (backToKw pos (keywordEach kws X.env)).all (·.1.isSome) = true := by rfl) (h2 : (backToKw pos (keywordEach kws X.env)).filterMap (·.1) = ks := by rfl) (h3 : (x == ("__debug__" : Str)) = false := by decide)
    (h4 : ((backTo pos (starEach [] X.env)).any (·.1) || (backToKw pos (keywordEach kws X.env)).any (·.1.isNone)) = false := by rfl) :
    PE X (.Call (.Name x p) [] kws pos) (tKw ks.length sp gV E tk) := by
  constructor
  intro pins s σ H Q I h
  apply wpAny_Call_Name_kw
  apply ld_glob I hg hm _ h3
  apply PySem.W.callWith_KW0 (h₀ := X.base) I.ok.mod.kin hk h1 _ h4
  refine thn (hkw.run pos pins s σ H _ I h) fun ws s1 hws => ?_
  obtain ⟨zs, H1, I1, rz, hl, q⟩ := hws
  refine ⟨I1.kIn, ?_⟩
  rw [h2]
  exact run_fnN (n := 0) F hr hb hx I1 .nil rz rfl hl q
end
/-! ### math.isqrt of great ints, by the name under which the module has it -/
def rRoot : List V → Hp → VK → Prop := fun vs H Q => ∃ n : Int, vs = [.int n] ∧ 0 ≤ n ∧ n < 2 ^ 250 ∧ ∀ d : Int, 0 ≤ d → d * d ≤ n → n < (d + 1) * (d + 1) → Q (.int d) H
theorem cr_isqrt {X : Cx} : CallR X (.builtin "math.isqrt") rRoot := by
  intro pins s σ H vs us Q I r ⟨n, hv, h0, h1, q⟩
  subst hv
  obtain ⟨u, hu, ru⟩ := r.one
  subst hu
  obtain ⟨t, rfl⟩ := ru
  have hl : n.toNat.log2 ≤ 249 := PySem.W.mg_log (by
    have e : (n.toNat : Int) = n := Int.toNat_of_nonneg h0
    have h2 : (n.toNat : Int) < ((2 ^ 250 : Nat) : Int) := by rw [e]; exact_mod_cast h1
    exact Int.ofNat_lt.mp h2)
  have sp := PySem.Float64.isqrt_spec n.toNat
  have e : (n.toNat : Int) = n := Int.toNat_of_nonneg h0
  refine call_function_meets PySem.W.MGF.kind_isqrt PySem.W.MGF.plain_isqrt PySem.W.MGF.entry_isqrt (PySem.W.MGF.args_isqrt _) (PySem.W.mg_run_isqrt n t (by omega) (by omega) (by omega)).meets ?_
  refine ⟨.int _, H, I.tok _, ⟨_, rfl⟩, q _ (Int.natCast_nonneg _) ?_ ?_⟩
  · rw [← e]
    exact_mod_cast sp.1
  · rw [← e]
    exact_mod_cast sp.2

/-! ### the end of a law row, with the tables of the code objects of the defs xs -/
theorem walk_tabs {l : PySem.W.OpenLaw} {n k : Nat} {q : Program} {loose : List Str} {XP : (Str → Option Value) → Heap → Prop} {YP : World → Heap → Prop} {d : DefRec} {K : PySem.Params → PySem.W.Frag} {CX : World → CXT} {x : Str} {xs : List Str}
    (h1 : l.most = some n) (h2 : n ≤ sizeLine) (h3 : d.params.defaults = []) (hr : Room k callerA) (hrec : (xs.all fun x => (recsOf q).any fun e => e.name == x) = true) (hY : ∀ (w : World) (h : Heap), YP w h → (K w.params).In h)
    (F : ∀ (w : World) (mg : Str → Option Value) (fa : Addr) (h : Heap), YP w h → (K w.params).In h → h.Ns mainGlobals mg → mg d.name = some (.ref fa) →
      (∀ x ∈ xs, ∀ c P : Addr, PySem.W.tabIn (K w.params) x = some (c, P) → PySem.W.CodeHd h c P ∧ h.get? P = some { cls := .none, data := .fields #[] }) → LamX.LawAtS l w (K w.params) (CX w) k n x mg fa h)
    (hCX : ∀ (w : World) (H : Hp) (s : Shared) (e : Value) (s' : Shared), CX w [] H s (fun _ _ _ => False) e s' → False) :
    PySem.W.WalkO q loose XP YP l.row.toRowW d [] (fun f vs => PySem.call f vs) := by
  apply Att.attach_callB h1 h3
  intro w s₀ s₁ mg mb fa o pm cd doc a vs ns G Y ho hd hcd hmg hobj hints hlen hbits hg
  have KX := hY w _ Y
  have tabs : ∀ x ∈ xs, ∀ c P : Addr, PySem.W.tabIn (K w.params) x = some (c, P) → PySem.W.CodeHd s₁.heap c P ∧ s₁.heap.get? P = some { cls := .none, data := .fields #[] } := by
    intro x hx c P ht
    have hany := List.all_eq_true.mp hrec x hx
    have hsome : ((recsOf q).find? fun e => e.name == x).isSome = true := by rw [List.find?_isSome]; exact List.any_eq_true.mp hany
    obtain ⟨dr, hdr⟩ := Option.isSome_iff_exists.mp hsome
    exact PySem.W.tab_of G.T KX hdr ht
  obtain ⟨fd, cs, sp, hT, nT, C, hb, hsp, hF⟩ := F w mg fa _ Y KX G.T.g hmg tabs
  exact LamX.law_callTs KX G.T.g G.T.b G.T.builtins G.T.nolimit hg hT nT C G.T.bmain hobj hints (Nat.le_trans hlen h2) hr hF hb (fun H hH hS => hsp H a ns hlen hbits hH hS) fun H e s' => hCX w H s₁ e s'
end Cau

set_option Elab.async false
set_option linter.all false
set_option maxRecDepth 100000
set_option maxHeartbeats 2000000
namespace Dr14
open PySem PySem.Spec PyProof.Rows L2 Cau
def topS (i : Nat) : Stmt := PySem.Challenge.pw_rulerchest_k14_deeds_and_drawings_judged.main.body.getD i (.Pass ⟨0, 0, 0, 0⟩)
abbrev sBegun : Stmt := topS 148
abbrev sStirred : Stmt := topS 149
abbrev sDraw : Stmt := topS 150
abbrev sPick : Stmt := topS 151
/-! ### heaps -/
theorem same_upd {H : Hp} {p : Addr} {o : HO} (h : H p = none) : Same H (upd H p o) := fun b x e => by
  rw [upd_ne (ne_of_none e h)]
  exact e
/-! ### lists of ints as data -/
theorem canLay_ints : ∀ ns : List Int, PyData.canLayAll0 (ns.map PyData.int) = true
  | [] => by simp [PyData.canLayAll0]
  | n :: r => by simp [PyData.canLayAll0, PyData.canLay0, canLay_ints r]
theorem depth_ints : ∀ ns : List Int, PyData.depthAll (ns.map PyData.int) = 0
  | [] => by simp [PyData.depthAll]
  | n :: r => by simp [PyData.depthAll, PyData.depth, depth_ints r]
theorem shaped_ints (ns : List Int) : SeqAt.shaped (.list (ns.map PyData.int)) = true := by
  unfold SeqAt.shaped
  simp only [PyData.canLay0, PyData.depth, canLay_ints, depth_ints]
  decide
theorem dpAll_ints {K : PySem.W.Frag} {H : Hp} : ∀ ns : List Int, DpAll K H (ns.map V.int) (ns.map PyData.int)
  | [] => .nil
  | n :: r => .cons (.int n) (dpAll_ints r)
theorem dp_ints {K : PySem.W.Frag} {H : Hp} {l : Addr} {ns : List Int} (h : SqL K H l (ns.map V.int)) : Dp K H (.ref l) (.list (ns.map PyData.int)) := .lst h (dpAll_ints ns)
theorem eqv_ints : ∀ xs ys : List Int, PyData.eqv (.list (xs.map PyData.int)) (.list (ys.map PyData.int)) = decide (xs = ys) := by
  have all : ∀ xs ys : List Int, PyData.eqvAll (xs.map PyData.int) (ys.map PyData.int) = decide (xs = ys) := by
    intro xs
    induction xs with
    | nil => intro ys; cases ys <;> simp [PyData.eqvAll]
    | cons x xs ih =>
      intro ys
      cases ys with
      | nil => simp [PyData.eqvAll]
      | cons y ys =>
        simp only [List.map_cons, PyData.eqvAll, PyData.eqv, ih]
        by_cases h1 : x = y <;> by_cases h2 : xs = ys <;> simp [h1, h2]
  intro xs ys
  simp only [PyData.eqv]
  exact all xs ys
/-! ### the state of the draws -/
def stK (w c : Addr) (r t : Int) : List (Key × V) := [(.inr "wide", .ref w), (.inr "cells", .ref c), (.inr "rest", .int r), (.inr "turn", .int t)]
theorem pow18 : CPow 10 18 := ⟨by decide, by decide, by decide⟩
theorem stK_new (w c : Addr) (r t : Int) : mergeK [] (stK w c r t) = stK w c r t := by
  with_unfolding_all rfl
/-- T: at most so many times it was stirred -/
def St (H : Hp) (a w c : Addr) (T : Nat) : Prop := c ≠ w ∧ ∃ (ws cs : List Int) (r t : Int), H a = some (.dK (stK w c r t)) ∧ H w = some (.lst (ws.map V.int)) ∧ H c = some (.lst (cs.map V.int)) ∧ ws.length ≤ 63 ∧ cs.length ≤ 63 ∧ 0 ≤ t ∧ t ≤ T
section
variable {H : Hp} {a w c : Addr} {r t v : Int}
theorem get_wide (h : H a = some (.dK (stK w c r t))) : DGet H a (.str "wide") (some (.ref w)) := by
  have e : valV (stK w c r t) (.inr "wide" : Key) = some (.ref w) := by with_unfolding_all rfl
  exact e ▸ DGet.k (k := (.inr "wide" : Key)) h
theorem get_cells (h : H a = some (.dK (stK w c r t))) : DGet H a (.str "cells") (some (.ref c)) := by
  have e : valV (stK w c r t) (.inr "cells" : Key) = some (.ref c) := by with_unfolding_all rfl
  exact e ▸ DGet.k (k := (.inr "cells" : Key)) h
theorem get_rest (h : H a = some (.dK (stK w c r t))) : DGet H a (.str "rest") (some (.int r)) := by
  have e : valV (stK w c r t) (.inr "rest" : Key) = some (.int r) := by with_unfolding_all rfl
  exact e ▸ DGet.k (k := (.inr "rest" : Key)) h
theorem get_turn (h : H a = some (.dK (stK w c r t))) : DGet H a (.str "turn") (some (.int t)) := by
  have e : valV (stK w c r t) (.inr "turn" : Key) = some (.int t) := by with_unfolding_all rfl
  exact e ▸ DGet.k (k := (.inr "turn" : Key)) h
theorem put_rest (h : H a = some (.dK (stK w c r t))) : DPut H a (.str "rest") (.int v) (upd H a (.dK (stK w c v t))) := by
  have e : putK (stK w c r t) (.inr "rest" : Key) (.int v) = stK w c v t := by with_unfolding_all rfl
  exact e ▸ DPut.k (k := (.inr "rest" : Key)) (v := .int v) h (by show 4 < sizeLine; decide)
theorem put_turn (h : H a = some (.dK (stK w c r t))) : DPut H a (.str "turn") (.int v) (upd H a (.dK (stK w c r v))) := by
  have e : putK (stK w c r t) (.inr "turn" : Key) (.int v) = stK w c r v := by with_unfolding_all rfl
  exact e ▸ DPut.k (k := (.inr "turn" : Key)) (v := .int v) h (by show 4 < sizeLine; decide)
end
def spBegun (K : PySem.W.Frag) : Sp := fun vs H Q _ => ∃ (a : Addr) (ns : List Int), vs = [.ref a] ∧ SqL K H a (ns.map V.int) ∧ ns.length ≤ 63 ∧
  ∀ (H' : Hp) (p w c : Addr), Same H H' → H p = none → H w = none → H c = none → p ≠ w → p ≠ c → w ≠ c → St H' p w c 0 → Q (.ref p) H'
section
variable {P : Program} {w : World} {K : PySem.W.Frag} {mg : Str → Option Value} {base : Heap}
theorem scB : FnScope ["script", "wide", "cell"] ["script"] (defScope sBegun) := ⟨rfl, rfl, rfl, by decide +kernel, rfl, by decide +kernel, by decide +kernel⟩
theorem ok_begun {f : Addr} {fd : FuncData} (F : Fun K "_law_begun" "_law_begun" sBegun f fd) (mabs : mg "abs" = none) : FnOk P w K mg base CX0 1 f fd ["script"] (spBegun K) := by
  refine F.ok scB (fun vs H Q E h => ?_) (fun cdv A outer s H vs Q E hr h => ?_)
  · obtain ⟨a, ns, rfl, _⟩ := h
    rfl
  · obtain ⟨a, ns, rfl, hS, hlen, q⟩ := h
    refine ⟨_, pss_cons (ps_setLc (i := 1) (own := [("cell", 2)]) (g := gName 2) rfl scB.nd rfl rfl (sw_true rfl rfl rfl (by decide +kernel)) (pi_list (pv 0))
        (blkOk_by (own := [("cell", 2)]) (N := ["script", "wide", "cell"]) (sc := defScope sBegun) (by decide +kernel))
        (fun _ _ _ _ _ => pg_name (i := 2) scB.nd rfl (.inl rfl))
        (fun _ _ _ _ _ => pts_one (pt_cmpR op_ge (pe_callB call_abs (by rfl) mabs (by decide +kernel) (pa_cons (pv 2) pa_nil)) (pe_op op_pow pe_int pe_int) (nomark _)))
        (fun _ _ _ _ _ => pe_op op_sub (pe_callB call_abs (by rfl) mabs (by decide +kernel) (pa_cons (pv 2) pa_nil)) (pe_op op_pow pe_int pe_int)))
      (pss_one (ps_ret (pe_disp (pps_cons pe_str (pv 1) (pps_cons pe_str
          (pe_lc (own := [("cell", 2)]) (g := gName 2) (tt := tYes) rfl scB.nd (pi_list (pv 0))
            (blkOk_by (own := [("cell", 2)]) (N := ["script", "wide", "cell"]) (sc := defScope sBegun) (by decide +kernel))
            (fun _ _ _ _ _ => pg_name (i := 2) scB.nd rfl (.inl rfl)) (fun _ _ _ _ _ => pts_nil)
            (fun _ _ _ _ _ => pe_callB call_abs (by rfl) mabs (by decide +kernel) (pa_cons (pv 2) pa_nil)))
          (pps_cons pe_str pe_int (pps_cons pe_str pe_int pps_nil)))) (by rfl) (by rfl) (fun z => by cases z) (by decide)))), ?_⟩
    refine ⟨.ref a, rfl, a, rfl, ⟨_, hS⟩, fun w nw => ?_⟩
    have get : ∀ (i : Nat) (x : V), (ns.map V.int)[i]? = some x → ∃ n, x = V.int n := fun i x hx => by
      rw [List.getElem?_map] at hx
      cases e : ns[i]? with
      | none => rw [e] at hx; cases hx
      | some z => rw [e] at hx; exact ⟨z, (Option.some.inj hx).symm⟩
    refine lc_list (K := K) (a := a) (xs := ns.map V.int) (fun i H1 => ∃ ws : List Int, H1 = upd H w (.lst (ws.map V.int)) ∧ ws.length ≤ i) ⟨[], rfl, Nat.le_refl _⟩ ?_ ?_ ?_
    · rintro i H1 _ ⟨ws, rfl, _⟩
      exact (same_upd nw).seq hS
    · rintro i x H1 hx ⟨ws, rfl, hl⟩
      obtain ⟨n, rfl⟩ := get i x hx
      have hi : i < ns.length := by
        have := (List.getElem?_eq_some_iff.mp hx).1
        rwa [List.length_map] at this
      refine ⟨rfl, .int n, rfl, n, rfl, 10, 18, rfl, rfl, pow18, _, _, rfl, rfl, _, rfl, ?_⟩
      refine ite2 (fun _ => ?_) (fun _ => ⟨ws, rfl, by omega⟩)
      refine ⟨.int n, rfl, n, rfl, 10, 18, rfl, rfl, pow18, _, _, rfl, rfl, _, upd_same, ?_, ?_⟩
      · rw [List.length_map]; exact small1000 (by omega)
      · exact ⟨ws ++ [(if n < 0 then -n else n) - 10 ^ 18], by rw [upd_upd, List.map_append]; rfl, by rw [List.length_append]; simp; omega⟩
    · rintro H1 ⟨ws, rfl, hl⟩
      rw [List.length_map] at hl
      intro p np
      have npw : p ≠ w := fun z => by rw [z, upd_same] at np; cases np
      have s1 : Same H (upd H w (.lst (ws.map V.int))) := same_upd nw
      have s2 : Same H (upd (upd H w (.lst (ws.map V.int))) p (.dK [])) := s1.trans (same_upd np)
      refine ⟨.ref w, rfl, .ref a, rfl, a, rfl, ⟨_, s2.seq hS⟩, fun c nc => ?_⟩
      refine lc_list (K := K) (a := a) (xs := ns.map V.int) (fun i H1 => ∃ cs : List Int, H1 = upd (upd (upd H w (.lst (ws.map V.int))) p (.dK [])) c (.lst (cs.map V.int)) ∧ cs.length ≤ i) ⟨[], rfl, Nat.le_refl _⟩ ?_ ?_ ?_
      · rintro i H1 _ ⟨cs, rfl, _⟩
        exact (s2.trans (same_upd nc)).seq hS
      · rintro i x H1 hx ⟨cs, rfl, hl⟩
        obtain ⟨n, rfl⟩ := get i x hx
        have hi : i < ns.length := by
          have := (List.getElem?_eq_some_iff.mp hx).1
          rwa [List.length_map] at this
        refine ⟨rfl, .int n, rfl, n, rfl, _, upd_same, ?_, ?_⟩
        · rw [List.length_map]; exact small1000 (by omega)
        · exact ⟨cs ++ [(if n < 0 then -n else n)], by rw [upd_upd, List.map_append]; rfl, by rw [List.length_append]; simp; omega⟩
      · rintro H1 ⟨cs, rfl, hl2⟩
        rw [List.length_map] at hl2
        have ncp : c ≠ p := fun z => by rw [z, upd_same] at nc; cases nc
        have ncw : c ≠ w := fun z => by rw [z, upd_ne npw.symm, upd_same] at nc; cases nc
        have nc0 : H c = none := by rw [upd_ne ncp, upd_ne ncw] at nc; exact nc
        have np0 : H p = none := by rw [upd_ne npw] at np; exact np
        refine ⟨by rw [upd_ne ncp.symm, upd_same], stK w c 0 0, rfl, by show 4 ≤ 15; decide, ?_⟩
        refine q _ p w c (fun b o e => ?_) np0 nw nc0 npw ncp.symm ncw.symm ⟨ncw, ws, cs, 0, 0, ?_, ?_, ?_, by omega, by omega, by omega, by omega⟩
        · rw [upd_ne (ne_of_none e np0), upd_ne (ne_of_none e nc0), upd_ne (ne_of_none e np0), upd_ne (ne_of_none e nw)]
          exact e
        · rw [upd_same, stK_new]
        · rw [upd_ne npw.symm, upd_ne ncw.symm, upd_ne npw.symm, upd_same]
        · rw [upd_ne ncp, upd_same]
/-- but the state and its list nothing is changed -/
def Kept (a w : Addr) (H H' : Hp) : Prop := ∀ b o, H b = some o → b ≠ a → b ≠ w → H' b = some o
theorem Kept.trans {a w : Addr} {H H1 H2 : Hp} (x : Kept a w H H1) (y : Kept a w H1 H2) : Kept a w H H2 := fun b o e h1 h2 => y b o (x b o e h1 h2) h1 h2
def spStirred : Sp := fun vs H Q _ => ∃ (a w c : Addr) (T : Nat), vs = [.ref a] ∧ St H a w c T ∧ T ≤ 1000000 ∧
  ∀ (H' : Hp) (d : Int), (∀ b o, H b = some o → b ≠ a → H' b = some o) → St H' a w c (T + 1) → (∀ r t, H a = some (.dK (stK w c r t)) → ∃ t', H' a = some (.dK (stK w c r t'))) → Q (.int d) H'
theorem scS : FnScope ["state", "turn", "found", "prime", "blend", "cell"] ["state"] (defScope sStirred) := ⟨rfl, rfl, rfl, by decide +kernel, rfl, by decide +kernel, by decide +kernel⟩
def primes : List Int := [2147483647, 2147483629, 2147483587, 2147483579]
theorem ok_stirred {f : Addr} {fd : FuncData} (F : Fun K "_law_stirred" "_law_stirred" sStirred f fd) (mint : mg "int" = none) : FnOk P w K mg base CX0 1 f fd ["state"] spStirred := by
  refine F.ok scS (fun vs H Q E h => ?_) (fun cdv A outer s H vs Q E hr h => ?_)
  · obtain ⟨a, w, c, T, rfl, _⟩ := h
    rfl
  · obtain ⟨a, w, c, T, rfl, hSt, hT, q⟩ := h
    have hu := hu_of hr
    refine ⟨_, pss_cons (ps_par (i := 1) (j := 2) rfl scS.nd rfl rfl (by decide) rfl rfl (pa_cons (pe_op op_add (pe_dget hu (pv 0) pe_str (fun _ _ => rfl)) pe_int) (pa_cons pe_int pa_nil)) (by rfl))
      (pss_cons (ps_dput hu (pv 0) pe_str (pv 1) rfl)
      (pss_cons (ps_for PassesOwn.never rfl (pi_list (pe_lst (pa_cons pe_int (pa_cons pe_int (pa_cons pe_int (pa_cons pe_int pa_nil)))))) (pg_name (i := 3) scS.nd rfl (.inl rfl))
        (pss_cons (ps_set (i := 4) scS.nd rfl (.inl rfl) (pe_op op_add (pe_op op_mul pe_int (pv 1)) (pe_op op_fdiv (pv 3) pe_int)))
        (pss_cons (ps_for PassesOwn.never rfl (pi_list (pe_dget hu (pv 0) pe_str (fun _ _ => rfl))) (pg_name (i := 5) scS.nd rfl (.inl rfl))
          (pss_one (ps_set (i := 4) scS.nd rfl (.inl rfl) (pe_op op_modN (pe_callTy call_int1 (by rfl) mint (by decide +kernel) (pa_cons (pe_op op_add (pe_op op_add (pe_op op_mul (pv 4) pe_int) (pv 5)) (pv 1)) pa_nil)) (pv 3)))))
        (pss_one (ps_set (i := 2) scS.nd rfl (.inl rfl) (pe_op op_add (pe_op op_mul (pv 2) pe_int) (pe_op op_modN (pe_callTy call_int1 (by rfl) mint (by decide +kernel) (pa_cons (pe_op op_pow (pv 4) pe_int) pa_nil)) (pv 3))))))))
      (pss_one (ps_ret (pv 2))))), ?_⟩
    obtain ⟨ncw, ws, cs, r, t, hA, hW, hC, hwl, hcl, ht0, htT⟩ := hSt
    refine ⟨.ref a, rfl, a, _, rfl, get_turn hA, t, 1, rfl, rfl, _, _, rfl, ?_⟩
    refine ⟨_, rfl, .ref a, rfl, a, _, rfl, put_turn hA, ?_⟩
    refine ⟨by show 4 ≤ sizeLine; decide, fun l nl => ?_⟩
    have nla : a ≠ l := fun z => by rw [← z, upd_same] at nl; cases nl
    have nlc : c ≠ l := fun z => by rw [← z, upd_ne, hC] at nl
                                    · cases nl
                                    · exact ne_of hC hA (by intro z; cases z)
    have nlw : w ≠ l := fun z => by rw [← z, upd_ne, hW] at nl
                                    · cases nl
                                    · exact ne_of hW hA (by intro z; cases z)
    have nca : c ≠ a := ne_of hC hA (by intro z; cases z)
    have nwa : w ≠ a := ne_of hW hA (by intro z; cases z)
    obtain ⟨H2, hH2⟩ : ∃ H2, H2 = upd (upd H a (.dK (stK w c r (t + 1)))) l (.lst (primes.map V.int)) := ⟨_, rfl⟩
    have A2 : H2 a = some (.dK (stK w c r (t + 1))) := by rw [hH2, upd_ne nla, upd_same]
    have W2 : H2 w = some (.lst (ws.map V.int)) := by rw [hH2, upd_ne nlw, upd_ne nwa]; exact hW
    have C2 : H2 c = some (.lst (cs.map V.int)) := by rw [hH2, upd_ne nlc, upd_ne nca]; exact hC
    have L2' : H2 l = some (.lst (primes.map V.int)) := by rw [hH2, upd_same]
    refine ⟨l, rfl, ⟨_, .inl (.inl upd_same)⟩, for_list (K := K) (a := l) (xs := primes.map V.int) (fun i σ H3 => ∃ (fd : Int) (y3 y4 y5 : Option V), σ = [some (.ref a), some (.int (t + 1)), some (.int fd), y3, y4, y5] ∧ H2 = H3) ⟨0, none, none, none, rfl, hH2⟩ ?_ ?_ ?_⟩
    · rintro i σ H3 _ ⟨_, _, _, _, _, rfl⟩
      exact .inl (.inl L2')
    · rintro i x σ H3 hx ⟨fd, y3, y4, y5, rfl, rfl⟩
      obtain ⟨pr, rfl, hp0, hp1⟩ : ∃ pr : Int, x = V.int pr ∧ 0 < pr ∧ pr < 2147483648 := by
        rw [List.getElem?_map] at hx
        cases e : primes[i]? with
        | none => rw [e] at hx; cases hx
        | some z =>
          rw [e] at hx
          have hm := List.mem_of_getElem? e
          have all : ∀ z ∈ primes, 0 < z ∧ z < 2147483648 := by decide
          exact ⟨z, (Option.some.inj hx).symm, all z hm⟩
      refine ⟨_, rfl, 48271, t + 1, rfl, rfl, .inl ⟨by decide, by decide⟩, _, rfl, _, 37, rfl, rfl, ⟨by decide, by decide⟩, _, _, rfl, rfl, ?_⟩
      refine ⟨.ref a, rfl, a, _, rfl, get_cells A2, c, rfl, ⟨_, .inl (.inl C2)⟩, for_list (K := K) (a := c) (xs := cs.map V.int) (fun i σ H3 => ∃ (bl : Int) (y5 : Option V), σ = [some (.ref a), some (.int (t + 1)), some (.int fd), some (.int pr), some (.int bl), y5] ∧ H2 = H3 ∧ bl.natAbs < 2 ^ 40) ⟨_, y5, rfl, rfl, ?_⟩ ?_ ?_ ?_⟩
      · show (48271 * (t + 1) + pr / 37).natAbs < 1099511627776
        omega
      · rintro i σ H3 _ ⟨_, _, _, rfl, _⟩
        exact .inl (.inl C2)
      · rintro i x σ H3 hx ⟨bl, y5, rfl, rfl, hbl⟩
        obtain ⟨n, rfl⟩ : ∃ n, x = V.int n := by
          rw [List.getElem?_map] at hx
          cases e : cs[i]? with
          | none => rw [e] at hx; cases hx
          | some z => rw [e] at hx; exact ⟨z, (Option.some.inj hx).symm⟩
        refine ⟨_, rfl, bl, 69621, rfl, rfl, .inr ⟨by decide, by decide⟩, _, rfl, _, n, rfl, rfl, _, rfl, _, t + 1, rfl, rfl, .inl ⟨_, rfl, ?_⟩⟩
        have hm1 : 0 ≤ (bl * 69621 + n + (t + 1)).fmod pr := Int.fmod_nonneg_of_pos _ hp0
        have hm2 : (bl * 69621 + n + (t + 1)).fmod pr < pr := Int.fmod_lt_of_pos _ hp0
        refine ⟨_, rfl, _, pr, rfl, rfl, by omega, _, some (.int n), rfl, rfl, ?_⟩
        show _ < 1099511627776
        omega
      · rintro σ H3 ⟨bl, y5, rfl, rfl, hbl⟩
        have hbl' : bl.natAbs < 1099511627776 := hbl
        refine ⟨_, rfl, fd, 2147483563, rfl, rfl, .inr ⟨by decide, by decide⟩, _, rfl, bl, 5, rfl, rfl, ⟨by decide, by decide, ?_⟩, .inl ⟨_, rfl, _, rfl, _, pr, rfl, rfl, by omega, _, _, rfl, rfl, ?_⟩⟩
        · show bl.natAbs < 18446744073709551616
          omega
        · exact ⟨_, _, _, _, rfl, rfl⟩
    · rintro σ H3 ⟨fd, y3, y4, y5, rfl, rfl⟩
      refine ⟨_, rfl, q H2 fd (fun b o e hb => ?_) ⟨ncw, ws, cs, r, t + 1, A2, W2, C2, hwl, hcl, by omega, by omega⟩ fun r' t' e => ?_⟩
      · have hbl : b ≠ l := fun z => by
          rw [z] at e hb
          rw [upd_ne hb, e] at nl
          cases nl
        rw [hH2, upd_ne hbl, upd_ne hb]
        exact e
      · rw [hA] at e
        obtain ⟨e1, e2⟩ : r = r' ∧ t = t' := by
          have e := HO.dK.inj (Option.some.inj e)
          unfold stK at e
          simp at e
          exact e
        exact ⟨t + 1, by rw [← e1]; exact A2⟩
/-- a draw: some d, 0 ≤ d < z -/
def spDraw : Sp := fun vs H Q _ => ∃ (a w c : Addr) (T : Nat) (z : Int), vs = [.ref a, .int z] ∧ St H a w c T ∧ T ≤ 1000000 ∧ 0 < z ∧ z.natAbs < 2 ^ 1000 ∧
  ∀ (H' : Hp) (d : Int), 0 ≤ d → d < z → Kept a w H H' → St H' a w c (T + 1) → Q (.int d) H'
theorem scD : FnScope ["state", "room", "found"] ["state", "room"] (defScope sDraw) := ⟨rfl, rfl, rfl, by decide +kernel, rfl, by decide +kernel, by decide +kernel⟩
theorem ok_draw {f fS : Addr} {fd fdS : FuncData} (F : Fun K "_law_draw" "_law_draw" sDraw f fd) (FS : Fun K "_law_stirred" "_law_stirred" sStirred fS fdS) (bS : Binds K fdS ["state"] []) (gS : mg "_law_stirred" = some (.ref fS)) (mint : mg "int" = none) :
    FnOk P w K mg base CX0 2 f fd ["state", "room"] spDraw := by
  have GS : FnOk P w K mg base CX0 1 fS fdS ["state"] spStirred := ok_stirred FS mint
  refine F.ok scD (fun vs H Q E h => ?_) (fun cdv A outer s H vs Q E hr h => ?_)
  · obtain ⟨a, w, c, T, z, rfl, _⟩ := h
    rfl
  · obtain ⟨a, w, c, T, z, rfl, hSt, hT, hz, hzb, q⟩ := h
    have hu := hu_of hr
    refine ⟨_, pss_cons (ps_if (pt_cmpR op_eq (pe_dget hu (pv 0) pe_str (fun _ _ => rfl)) pe_int (nomark _))
        (pss_one (ps_dput hu (pv 0) pe_str (pe_ifExp (pt_cmpR (op_neD hr.units) (pe_dget hu (pv 0) pe_str (fun _ _ => rfl)) (pe_lst pa_nil) (nomark _))
          (pe_bm PySem.F.plainAttrs_list PySem.F.slot_list_pop PySem.F.type_list_pop mt_popAt (pe_dget hu (pv 0) pe_str (fun _ _ => rfl)) (pa_cons pe_int pa_nil))
          (pe_call GS hr (by rfl) gS FS.kp bS .nil pass0 (pa_cons (pv 0) pa_nil))) rfl)) pss_nil)
      (pss_cons (ps_set (i := 2) scD.nd rfl (.inl rfl) (pe_op op_modN (pe_callTy call_int1 (by rfl) mint (by decide +kernel) (pa_cons (pe_dget hu (pv 0) pe_str (fun _ _ => rfl)) pa_nil)) (pv 1)))
      (pss_cons (ps_dput hu (pv 0) pe_str (pe_op op_fdivW (pe_dget hu (pv 0) pe_str (fun _ _ => rfl)) (pv 1)) rfl)
      (pss_one (ps_ret (pv 2))))), ?_⟩
    obtain ⟨ncw, ws, cs, r, t, hA, hW, hC, hwl, hcl, ht0, htT⟩ := hSt
    have nca : c ≠ a := ne_of hC hA (by intro z; cases z)
    have nwa : w ≠ a := ne_of hW hA (by intro z; cases z)
    have zdiv : CDivW r z → True := fun _ => trivial
    have cdiv : ∀ r1 : Int, CDivW r1 z := fun r1 => wide_div hz hzb (by decide) (by decide)
    have fin : ∀ (H1 : Hp) (ws1 : List Int) (r1 t1 : Int), H1 a = some (.dK (stK w c r1 t1)) → H1 w = some (.lst (ws1.map V.int)) → H1 c = some (.lst (cs.map V.int)) → ws1.length ≤ 63 → 0 ≤ t1 → t1 ≤ (T + 1 : Nat) → Kept a w H H1 →
        Q (.int (r1.fmod z)) (upd H1 a (.dK (stK w c (r1 / z) t1))) := fun H1 ws1 r1 t1 h1 h2 h3 h4 h5 h6 h7 =>
      q _ _ (Int.fmod_nonneg_of_pos _ hz) (Int.fmod_lt_of_pos _ hz) (fun b o e n1 n2 => by rw [upd_ne n1]; exact h7 b o e n1 n2)
        ⟨ncw, ws1, cs, r1 / z, t1, upd_same, by rw [upd_ne nwa]; exact h2, by rw [upd_ne nca]; exact h3, h4, hcl, h5, h6⟩
    refine ⟨.ref a, rfl, a, _, rfl, get_rest hA, rfl, _, rfl, ite2 (fun _ => ?_) (fun _ => ?_)⟩
    · refine ⟨.ref a, rfl, a, _, rfl, get_wide hA, Nat.zero_le _, fun l nl => ?_⟩
      have nal : a ≠ l := ne_of_none hA nl
      have nwl : w ≠ l := ne_of_none hW nl
      have ncl : c ≠ l := ne_of_none hC nl
      have A1 : (upd H l (.lst [])) a = some (.dK (stK w c r t)) := by rw [upd_ne nal]; exact hA
      have W1 : (upd H l (.lst [])) w = some (.lst (ws.map V.int)) := by rw [upd_ne nwl]; exact hW
      have C1 : (upd H l (.lst [])) c = some (.lst (cs.map V.int)) := by rw [upd_ne ncl]; exact hC
      have K1 : Kept a w H (upd H l (.lst [])) := fun b o e _ _ => by rw [upd_ne (ne_of_none e nl)]; exact e
      refine ⟨_, _, dp_ints (.inl (.inl W1)), dp_ints (ns := []) (.inl (.inl upd_same)), shaped_ints ws, shaped_ints [], _, rfl, ?_⟩
      rw [eqv_ints ws []]
      cases ws with
      | nil =>
        refine iteF ?_
        refine ⟨.ref a, rfl, a, w, c, T, rfl, ⟨ncw, [], cs, r, t, A1, W1, C1, hwl, hcl, ht0, htT⟩, hT, fun H2 d k2 s2 _ => ?_⟩
        obtain ⟨_, ws2, cs2, r2, t2, A2, W2, C2, hwl2, hcl2, ht2, htT2⟩ := s2
        have W2' : H2 w = some (.lst (([] : List Int).map V.int)) := k2 w _ W1 nwa
        have C2' : H2 c = some (.lst (cs.map V.int)) := k2 c _ C1 nca
        refine ⟨.ref a, rfl, a, _, rfl, put_rest A2, ?_⟩
        refine ⟨.ref a, rfl, a, _, rfl, get_rest upd_same, .inl ⟨_, rfl, _, rfl, d, z, rfl, rfl, by omega, ?_⟩⟩
        refine ⟨.ref a, rfl, a, _, rfl, get_rest upd_same, _, rfl, d, z, rfl, rfl, cdiv d, .ref a, rfl, a, _, rfl, put_rest upd_same, _, rfl, ?_⟩
        refine fin _ [] d t2 upd_same (by rw [upd_ne nwa]; exact W2') (by rw [upd_ne nca]; exact C2') (by simp) ht2 htT2 fun b o e n1 n2 => ?_
        rw [upd_ne n1]
        exact k2 b o (K1 b o e n1 n2) n1
      | cons n ws =>
        refine iteT ?_
        refine ⟨.ref a, rfl, a, _, rfl, get_wide A1, .inl ⟨rfl, _, .inl (.inl W1)⟩, ?_⟩
        refine ⟨w, _, 0, 0, .int n, rfl, rfl, W1, by decide, by decide, by simp [seqIndex?], rfl, ?_⟩
        have A2 : (upd (upd H l (.lst [])) w (.lst (ws.map V.int))) a = some (.dK (stK w c r t)) := by rw [upd_ne nwa.symm]; exact A1
        refine ⟨.ref a, rfl, a, _, rfl, put_rest A2, ?_⟩
        refine ⟨.ref a, rfl, a, _, rfl, get_rest upd_same, .inl ⟨_, rfl, _, rfl, n, z, rfl, rfl, by omega, ?_⟩⟩
        refine ⟨.ref a, rfl, a, _, rfl, get_rest upd_same, _, rfl, n, z, rfl, rfl, cdiv n, .ref a, rfl, a, _, rfl, put_rest upd_same, _, rfl, ?_⟩
        refine fin _ ws n t upd_same (by rw [upd_ne nwa]; exact upd_same) (by rw [upd_ne nca, upd_ne ncw]; exact C1) (by simp at hwl; omega) ht0 (by omega) fun b o e n1 n2 => ?_
        rw [upd_ne n1, upd_ne n2]
        exact K1 b o e n1 n2
    · refine ⟨.ref a, rfl, a, _, rfl, get_rest hA, .inl ⟨_, rfl, _, rfl, r, z, rfl, rfl, by omega, ?_⟩⟩
      refine ⟨.ref a, rfl, a, _, rfl, get_rest hA, _, rfl, r, z, rfl, rfl, cdiv r, .ref a, rfl, a, _, rfl, put_rest hA, _, rfl, ?_⟩
      exact fin _ ws r t hA hW hC hwl ht0 (by omega) fun b o e _ _ => e
end
end Dr14

set_option Elab.async false
set_option linter.all false
set_option maxRecDepth 100000
set_option maxHeartbeats 2000000
/-! Defs that want to know that no text of a list is being written around them; repr of lists and tuples. -/
namespace RepG
open PySem PySem.Spec PyProof.Rows L2 Cau

/-- like a def's promise, but only where nothing is being written around it -/
structure FnG (P : Program) (w : World) (K : PySem.W.Frag) (mg : Str → Option Value) (base : Heap) (CX : CXT) (k : Nat) (f : Addr) (fd : FuncData) (ps : List Str) (sp : Sp) : Prop where
  arity : ∀ vs H Q E, sp vs H Q E → vs.length = ps.length
  goes : ∀ (A : Around), A.guards = some [] → Room k A → ∀ (outer : List Env) (s : Shared) (H : Hp), Env0 P w K mg base A outer s H → ∀ (args : Args) (us : List Value) (vs : List V), BindsTo s fd args (ps.zip us) → Vals vs us →
    ∀ (Q : VK) (E : XK), sp vs H Q E → codeAny (model P w) A (.call (.ref f) args) (CR CX outer P w H s Q E) s

section
variable {P : Program} {w : World} {K : PySem.W.Frag} {mg : Str → Option Value} {base : Heap} {CX : CXT} {k : Nat} {f : Addr} {fd : FuncData} {ps : List Str} {sp : Sp}
theorem fnG_of (F : FnOk P w K mg base CX k f fd ps sp) : FnG P w K mg base CX k f fd ps sp :=
  ⟨F.len, fun A _ hr outer s H e args us vs hb r Q E h => F.run A outer s H args us vs Q E hr e hb r h⟩
/-- by its body -/
theorem okG {x qual : Str} {st : Stmt} {N : List Str} (F : Fun K x qual st f fd) (S : FnScope N ps (defScope st)) (len : ∀ vs H Q E, sp vs H Q E → vs.length = ps.length)
    (hbody : ∀ (cdv : Value) (A : Around) (outer : List Env) (s : Shared) (H : Hp) (vs : List V) (Q : VK) (E : XK), A.guards = some [] → Room k (A.deeper (envOfC qual (defScope st) s.heap.objs.size f cdv)) → sp vs H Q E →
      ∃ t, PSs (cxOf CX0 P w K mg base N qual (defScope st) f cdv A outer s H E).nox (defBody st) t ∧ t { nx := fun _ H' => Q .non H', rt := Q } (start N vs) H) : FnG P w K mg base CX0 (k + 1) f fd ps sp := by
  obtain ⟨_, _, _, _, _, _, cdv, _, _, rfl, lk, hcd⟩ := F.ex
  refine ⟨len, fun A g hr outer s H e args us vs hb r Q E h => ?_⟩
  refine LamX.run_ofS lk hcd S hr e hb r (len _ _ _ _ h) fun hr' => ?_
  obtain ⟨t, ht, q⟩ := hbody cdv A outer s H vs Q E g hr' h
  exact ⟨t, ht.nox, q⟩
end

section
variable {X : Cx} {CX : CXT} {k : Nat} {f : Addr} {fd : FuncData} {ps : List Str} {sp : Sp} {E : XK} {x : Str} {p pos : Pos} {e : Expr} {es : List Expr} {t : TA}
theorem goG {pins : List (Addr × Obj)} {σ : L2.St} {H : Hp} {s : Shared} {Q : VK} {us : List Value} {vs : List V} (F : FnG X.prog X.w X.K X.mg X.base CX k f fd ps sp) (g : X.A.guards = some []) (hr : Room k X.A) (hb : Binds X.K fd ps []) (hx : Passes CX X E)
    (I : Inv X pins σ H s) (r : Vals vs us) (h : sp vs H Q E) : wpAny (model X.prog X.w) X.A (call (.ref f) us) (EP X pins σ Q) X.xe s := by
  have hl : (us ++ []).length = ps.length := by rw [List.append_nil, ← r.length]; exact F.arity _ _ _ _ h
  have bt := hb s us I.kIn hl
  rw [List.append_nil] at bt
  refine wpAny_call (codeAny_mono (F.goes X.A g hr X.stack s H I.env0 ⟨us, []⟩ us vs bt r Q E h) ?_)
  rintro (e | (_ | _ | _ | u)) s' q
  · exact hx pins σ H s e s' I q
  all_goals first
    | exact I.after q
    | exact False.elim q
theorem pe_callG (F : FnG X.prog X.w X.K X.mg X.base CX k f fd ps sp) (g : X.A.guards = some []) (hr : Room k X.A) (hg : Gl X x) (hm : X.mg x = some (.ref f)) (hk : PySem.W.keepIn X.K (.ref f) = true) (hb : Binds X.K fd ps []) (hx : Passes CX X E)
    (ha : PA X (e :: es) t) (hdb : (x == ("__debug__" : Str)) = false := by decide) (he : starEach (e :: es) X.env = (false, eval e X.env) :: starEach es X.env := by rfl) (hpl : (backTo pos (starEach es X.env)).any (·.1) = false := by rfl) :
    PE X (.Call (.Name x p) (e :: es) [] pos) (tCall sp [] E t) := by
  constructor
  intro pins s σ H Q I h
  apply wpAny_Call_Name_kw
  apply ld_glob I hg hm _ hdb
  refine PySem.W.callWith_K (h₀ := X.base) I.ok.mod.kin hk (thn (ha.run pos pins s σ H _ I h) ?_) he hpl
  rintro us s1 ⟨vs, H1, I1, r, q⟩
  rw [List.append_nil] at q
  exact ⟨I1.kIn, goG F g hr hb hx I1 r q⟩
end

/-! ### repr -/
/-- how far a value is shown -/
def rRepr (K : PySem.W.Frag) : List V → Hp → VK → Prop := fun xs H Q => ∃ (v : V) (d : PyData), xs = [v] ∧ Dp K H v d ∧ d.showable = true ∧ d.hasDict = false ∧ d.depth ≤ 60 ∧ d.shown.length ≤ sizeLine ∧ Q (.str d.shown) H
theorem call_repr {X : Cx} (g : X.A.guards = some []) {k : Nat} (hr : Room k X.A) : CallR X (.builtin "repr") (rRepr X.K) := by
  intro pins s σ H xs us Q I r ⟨v, d, hv, hd, h1, h2, h3, h4, q⟩
  subst hv
  obtain ⟨u, hu, ru⟩ := r.one
  subst hu
  obtain ⟨as, rd⟩ := Dp.reads I d v u hd ru
  have hun := hr.un
  have done : ∀ t, EP X pins σ Q (.str d.shown t) { s with toks := s.toks + 1 } := fun t => ⟨.str d.shown, H, I.tok _, ⟨_, rfl⟩, q⟩
  cases rd with
  | none => exact PySem.P.repr_of_none (done _)
  | bool b => exact PySem.P.repr_of_bool (done _)
  | int i t => exact PySem.P.repr_of_int (by simpa [PyData.showable] using h1) (done _)
  | str y t => exact PySem.P.repr_of_str (done _) h4
  | list a1 a2 a3 a4 =>
    refine repr_of_reads' (.list a1 a2 a3 a4) h1 (PyData.noDict_hsm h2) g (by omega) (fun _ _ e => e) ?_ h4
    exact fun h' u tk hk => ⟨.str _, H, I.kept hk, ⟨_, rfl⟩, q⟩
  | tuple a1 a2 a3 a4 =>
    refine repr_of_reads' (.tuple a1 a2 a3 a4) h1 (PyData.noDict_hsm h2) g (by omega) (fun _ _ e => e) ?_ h4
    exact fun h' u tk hk => ⟨.str _, H, I.kept hk, ⟨_, rfl⟩, q⟩
  | dict a1 a2 a3 a4 a5 => simp [PyData.hasDict] at h2

/-! ### the end of a law row, whose def wants to know that nothing is being written -/
/-- the tables of code objects T, and the script at a where it is not part of the head -/
def topH (T : List Addr) (a : Addr) (on : Bool) (ob : Obj) (xs : List V) : Hp := fun b => if b ∈ T then some (.tbl #[]) else if b = a ∧ on = true then some (.frz ob (.lst xs)) else none
section
variable {T : List Addr} {a b : Addr} {on : Bool} {ob : Obj} {xs : List V}
theorem topH_tab (h : b ∈ T) : topH T a on ob xs b = some (.tbl #[]) := if_pos h
theorem topH_scr (h : a ∉ T) (ho : on = true) : topH T a on ob xs a = some (.frz ob (.lst xs)) := (if_neg h).trans (if_pos ⟨rfl, ho⟩)
theorem topH_cases : (b ∈ T ∧ topH T a on ob xs b = some (.tbl #[])) ∨ (b = a ∧ on = true ∧ topH T a on ob xs b = some (.frz ob (.lst xs))) ∨ topH T a on ob xs b = none := by
  by_cases h : b ∈ T
  · exact .inl ⟨h, topH_tab h⟩
  · by_cases h2 : b = a ∧ on = true
    · exact .inr (.inl ⟨h2.1, h2.2, (if_neg h).trans (if_pos h2)⟩)
    · exact .inr (.inr ((if_neg h).trans (if_neg h2)))
end
theorem top_goes {P : Program} {w : World} {K : PySem.W.Frag} {mg mb : Str → Option Value} {CX : CXT} {k : Nat} {fa a : Addr} {cs : List (Addr × Addr)} {fd : FuncData} {x : Str} {sp : Sp} {s : Shared} {vs : List Value} {ns : List Int}
    (kin : K.In s.heap) (glob : s.heap.Ns mainGlobals mg) (blt : s.heap.Ns builtinsNs mb) (boot : ∀ x : Str, x ≠ "__name__" → mb x = bootBuiltins x) (lim : s.heap.NoLimit) (gens : s.gens = #[])
    (tab : ∀ p ∈ cs, s.heap.get? p.2 = some { cls := .none, data := .fields #[] }) (tabK : ∀ p ∈ cs, K.lookup p.2 = none) (code : ∀ p ∈ cs, PySem.W.CodeHd s.heap p.1 p.2)
    (bm : ∃ (m : Addr) (o : Obj), mg "__builtins__" = some (.ref m) ∧ m ≠ builtinsNs ∧ s.heap.get? m = some o ∧ o.cls = .type "module" ∧ o.dict = some builtinsNs ∧ o.data = .plain)
    (scr : s.heap.get? a = some { cls := .type "list", data := .seq vs.toArray }) (wh : IntsAre vs ns) (len : ns.length ≤ sizeLine) (hr : Room k callerA)
    (F : ∀ base : Heap, K.In base → base.Ns mainGlobals mg → (∀ p ∈ cs, LamX.TabB base mg p.1 p.2) → FnG P w K mg base CX k fa fd [x] sp) (bind : ∀ (s : Shared) (u : Value), BindsTo s fd ⟨[u], []⟩ [(x, u)])
    (hsp : ∀ H : Hp, (∀ p ∈ cs, H p.2 = some (.tbl #[])) → SqL K H a (ns.map V.int) → sp [.ref a] H (fun v _ => v = .bl true) fun _ _ _ => False) (hCX : ∀ H e s', CX [] H s (fun _ _ _ => False) e s' → False) :
    codeAny (model P w) callerA (.call (.ref fa) ⟨[.ref a], []⟩) (fun r s' => r = .ok (.ret (.bool true)) ∧ OldK s.heap s'.heap ∧ s'.os = s.os ∧ AllBare s'.gens) s := by
  obtain ⟨T, hT⟩ : ∃ T, T = cs.map (·.2) := ⟨_, rfl⟩
  obtain ⟨ob, hob⟩ : ∃ ob : Obj, ob = { cls := .type "list", data := .seq vs.toArray } := ⟨_, rfl⟩
  rw [← hob] at scr
  have inT : ∀ p ∈ cs, p.2 ∈ T := fun p hp => by rw [hT]; exact List.mem_map_of_mem hp
  have ofT : ∀ b, b ∈ T → ∃ p ∈ cs, p.2 = b := fun b hb => by rw [hT] at hb; exact List.mem_map.mp hb
  have tabT : ∀ b, b ∈ T → s.heap.get? b = some { cls := .none, data := .fields #[] } := fun b hb => by
    obtain ⟨p, hp, rfl⟩ := ofT b hb
    exact tab p hp
  have aT : a ∉ T := fun z => by
    have q := (tabT a z).symm.trans scr
    rw [hob] at q
    cases q
  obtain ⟨H, hH⟩ : ∃ H, H = topH T a (K.lookup a).isNone ob (ns.map V.int) := ⟨_, rfl⟩
  have ways : ∀ b, (b ∈ T ∧ H b = some (.tbl #[])) ∨ (b = a ∧ K.lookup a = none ∧ H b = some (.frz ob (.lst (ns.map V.int)))) ∨ H b = none := fun b => by
    rw [hH]
    rcases topH_cases (T := T) (a := a) (b := b) (on := (K.lookup a).isNone) (ob := ob) (xs := ns.map V.int) with z | ⟨z1, z2, z3⟩ | z
    · exact .inl z
    · exact .inr (.inl ⟨z1, Option.isNone_iff_eq_none.mp z2, z3⟩)
    · exact .inr (.inr z)
  -- what stands still in the head is not spoken of
  have off : ∀ {b : Addr} {o : Obj}, s.heap.get? b = some o → (∀ us m, o.data ≠ .seq us m) → o.data ≠ .fields #[] → H b = none := fun {b o} e n1 n2 => by
    rcases ways b with ⟨z, _⟩ | ⟨z, _, _⟩ | z
    · rw [tabT b z] at e
      cases e
      exact (n2 rfl).elim
    · rw [z, scr] at e
      cases e
      rw [hob] at n1
      exact (n1 _ _ rfl).elim
    · exact z
  have offD : ∀ {b : Addr} {o : Obj} {es : Array DictEntry} {m : Nat}, s.heap.get? b = some o → o.data = .dict es m → H b = none := fun e d => off e (fun _ _ z => by rw [d] at z; cases z) fun z => by rw [d] at z; cases z
  have offN : ∀ {b : Addr} {m : Str → Option Value}, s.heap.Ns b m → (hidT s.heap H).Ns b m := fun ⟨o, es, ep, e, d, r⟩ => ⟨o, es, ep, hidT_get e (offD e d), d, r⟩
  have kinB : K.In (hidT s.heap H) := fun b o e => hidT_get (kin b o e) (by
    rcases ways b with ⟨z, _⟩ | ⟨z, y, _⟩ | z
    · obtain ⟨p, hp, rfl⟩ := ofT b z
      rw [tabK p hp] at e
      cases e
    · rw [z, y] at e
      cases e
    · exact z)
  have mod : L2.Mod K mg (hidT s.heap H) := by
    obtain ⟨mc, l1, l2⟩ := lim
    exact ⟨kinB, offN glob, ⟨mb, offN blt, boot⟩, ⟨mc, offN l1, l2⟩⟩
  have globD : ∃ (o : Obj) (es : Array DictEntry) (ep : Nat), s.heap.get? mainGlobals = some o ∧ o.data = .dict es ep := by
    obtain ⟨o, es, ep, e, d, _⟩ := glob
    exact ⟨o, es, ep, e, d⟩
  have TB : ∀ p ∈ cs, LamX.TabB (hidT s.heap H) mg p.1 p.2 := fun p hp => by
    have tp := tab p hp
    obtain ⟨og, es, ep, eg, dg⟩ := globD
    have c1 : PySem.W.CodeHd (hidT s.heap H) p.1 p.2 := by
      obtain ⟨o, us, file, tf, flags, tg, inF, text, tt, e, r1, r2, r3, rest⟩ := code p hp
      refine ⟨o, us, file, tf, flags, tg, inF, text, tt, hidT_get e (off e ?_ ?_), r1, r2, r3, rest⟩
      · exact fun _ _ z => by rw [r2] at z; cases z
      · intro z
        rw [r2] at z
        cases z
        simp at r3
    have c2 : (hidT s.heap H).BuiltinsAt mg p.2 := by
      obtain ⟨m, o, b1, b2, b3, b4, b5, b6⟩ := bm
      have d1 : m ≠ mainGlobals := fun z => by
        rw [z, eg] at b3
        cases b3
        rw [dg] at b6
        cases b6
      have d2 : m ≠ p.2 := fun z => by
        rw [z, tp] at b3
        cases b3
        cases b6
      refine ⟨m, o, b1, b2, d1, d2, hidT_get b3 (off b3 ?_ ?_), b4, b5, b6⟩
      · exact fun _ _ z => by rw [b6] at z; cases z
      · exact fun z => by rw [b6] at z; cases z
    refine ⟨c1, c2, fun z => ?_⟩
    rw [z, tp] at eg
    cases eg
    cases dg
  have hok : HOk P w H s.heap := fun b o q => by
    rcases ways b with ⟨z, y⟩ | ⟨z, _, y⟩ | z
    · rw [y] at q
      cases q
      exact tabT b z
    · rw [y] at q
      cases q
      subst z
      exact ⟨scr, by rw [List.length_map]; exact len, vs, _, vals_ints wh, by rw [scr, hob]⟩
    · rw [z] at q
      cases q
  have e0 : Env0 P w K mg (hidT s.heap H) callerA [] s H :=
    { frames := rfl, mod := mod, bs := fun _ _ e => of_hidT e, bsz := Nat.le_of_eq (hidT_size _ _), funs := trivial, frf := fun _ z => absurd z List.not_mem_nil, hok := hok, bare := .of_eq gens }
  have tabH : ∀ p ∈ cs, H p.2 = some (.tbl #[]) := fun p hp => by
    rw [hH]
    exact topH_tab (inT p hp)
  have seq : SqL K H a (ns.map V.int) := by
    cases q : K.lookup a with
    | none => exact .inl (.inr ⟨ob, by rw [hH]; exact topH_scr aT (by rw [q]; rfl)⟩)
    | some o =>
      have e := (kin a o q).symm.trans scr
      cases e
      exact .inr ⟨_, vs.toArray, _, q, by rw [hob], by rw [hob], by rw [hob], by rw [List.size_toArray, wh.length]; exact len, by simpa using vals_ints wh⟩
  refine codeAny_mono ((F _ kinB (offN glob) TB).goes callerA rfl hr [] s H e0 ⟨[.ref a], []⟩ [.ref a] [.ref a] (bind s _) (.cons rfl .nil) _ _ (hsp H tabH seq)) ?_
  rintro (e | (_ | _ | _ | u)) s' z
  · exact (hCX H e s' z).elim
  all_goals first
    | exact False.elim z
    | skip
  obtain ⟨v, H', os, bare, un, hok', rv, q⟩ := z
  cases (show v = .bl true from q)
  cases (show u = Value.bool true from rv)
  have same : ∀ b o, b ∉ T → s.heap.get? b = some o → s'.heap.get? b = some o := fun b o nb e => by
    rcases ways b with ⟨z, _⟩ | ⟨_, _, y⟩ | z
    · exact (nb z).elim
    · obtain ⟨e1, _⟩ := hok b _ y
      obtain ⟨e2, _⟩ := hok' b _ (un.frzs b ob _ y)
      exact (e.symm.trans e1) ▸ e2
    · exact un.keep b o e z (fun y => List.not_mem_nil y) List.not_mem_nil
  have grown : ∀ b, b ∈ T → ∃ more : Array Value, s'.heap.get? b = some { cls := .none, data := .fields more } := fun b hb => by
    obtain ⟨p, hp, rfl⟩ := ofT b hb
    obtain ⟨more, y⟩ := un.tbls p.2 #[] (tabH p hp)
    exact ⟨_, hok' p.2 _ y⟩
  refine ⟨rfl, ⟨fun b o e => ?_, fun b o e => ?_⟩, os, bare⟩
  · by_cases hb : b ∈ T
    · obtain ⟨more, y⟩ := grown b hb
      obtain ⟨p, hp, rfl⟩ := ofT b hb
      rw [tab p hp] at e
      cases e
      exact .inr (.inl ⟨((code p hp).tab (tab p hp)).isCodeTable, rfl, #[], more, rfl, by rw [Array.empty_append]; exact y⟩)
    · exact .inl (same b o hb e)
  · by_cases hb : b ∈ T
    · obtain ⟨more, y⟩ := grown b hb
      exact ⟨_, y⟩
    · exact ⟨o, same b o hb e⟩
/-- what is known of the law's promise at the head's heap h -/
def LawG (l : PySem.W.OpenLaw) (w : World) (K : PySem.W.Frag) (CX : CXT) (k n : Nat) (x : Str) (mg : Str → Option Value) (fa : Addr) (h : Heap) : Prop :=
  ∃ (fd : FuncData) (cs : List (Addr × Addr)) (sp : Sp), (∀ p ∈ cs, h.get? p.2 = some { cls := .none, data := .fields #[] } ∧ K.lookup p.2 = none ∧ PySem.W.CodeHd h p.1 p.2) ∧ (∀ (s : Shared) (u : Value), BindsTo s fd ⟨[u], []⟩ [(x, u)]) ∧
    (∀ (H : Hp) (a : Addr) (ns : List Int), ns.length ≤ n → (∀ p ∈ cs, H p.2 = some (.tbl #[])) → SqL K H a (ns.map V.int) → sp [.ref a] H (fun v _ => v = .bl true) fun _ _ _ => False) ∧
    ∀ base : Heap, K.In base → base.Ns mainGlobals mg → (∀ p ∈ cs, LamX.TabB base mg p.1 p.2) → FnG l.prog w K mg base CX k fa fd [x] sp
theorem walk_G {l : PySem.W.OpenLaw} {n k : Nat} {q : Program} {loose : List Str} {XP : (Str → Option Value) → Heap → Prop} {YP : World → Heap → Prop} {d : DefRec} {K : PySem.Params → PySem.W.Frag} {CX : World → CXT} {x : Str} {xs : List Str}
    (h1 : l.most = some n) (h2 : n ≤ sizeLine) (h3 : d.params.defaults = []) (hr : Room k callerA) (hrec : (xs.all fun x => (recsOf q).any fun e => e.name == x) = true) (hY : ∀ (w : World) (h : Heap), YP w h → (K w.params).In h)
    (F : ∀ (w : World) (mg : Str → Option Value) (fa : Addr) (h : Heap), YP w h → (K w.params).In h → h.Ns mainGlobals mg → mg d.name = some (.ref fa) →
      (∀ x ∈ xs, ∀ c P : Addr, PySem.W.tabIn (K w.params) x = some (c, P) → PySem.W.CodeHd h c P ∧ h.get? P = some { cls := .none, data := .fields #[] }) → LawG l w (K w.params) (CX w) k n x mg fa h)
    (hCX : ∀ (w : World) (H : Hp) (s : Shared) (e : Value) (s' : Shared), CX w [] H s (fun _ _ _ => False) e s' → False) :
    PySem.W.WalkO q loose XP YP l.row.toRowW d [] (fun f vs => PySem.call f vs) := by
  apply Att.attach_callB h1 h3
  intro w s₀ s₁ mg mb fa o pm cd doc a vs ns G Y ho hd hcd hmg hobj hints hlen hbits hg
  have KX := hY w _ Y
  obtain ⟨fd, cs, sp, hT, hb, hsp, hF⟩ := F w mg fa _ Y KX G.T.g hmg fun y hy c p ht => by
    have any := List.all_eq_true.mp hrec y hy
    have some' : ((recsOf q).find? fun e => e.name == y).isSome = true := by rw [List.find?_isSome]; exact List.any_eq_true.mp any
    obtain ⟨dr, hdr⟩ := Option.isSome_iff_exists.mp some'
    exact PySem.W.tab_of G.T KX hdr ht
  exact top_goes KX G.T.g G.T.b G.T.builtins G.T.nolimit hg (fun p hp => (hT p hp).1) (fun p hp => (hT p hp).2.1) (fun p hp => (hT p hp).2.2) G.T.bmain hobj hints (Nat.le_trans hlen h2) hr hF hb (fun H hH hS => hsp H a ns hlen hH hS) fun H e s' => hCX w H s₁ e s'
end RepG

set_option Elab.async false
set_option linter.all false
set_option maxRecDepth 100000
set_option maxHeartbeats 2000000
namespace Z1
open PySem PySem.Spec PyProof.Rows L2 Cau Dr14
abbrev sIsWhole : Stmt := topS 15
abbrev sTupleOf : Stmt := topS 16
abbrev sIsList : Stmt := topS 17
abbrev sIsName : Stmt := topS 21
abbrev sLName : Stmt := topS 158
/-! ### signs of a name -/
def letT : Str := "abcdefghijklmnopqrstuvwxyz"
def digT : Str := "0123456789"
def letS (c : Nat) : Bool := decide (c ∈ letT.cps.toList)
def signS (c : Nat) : Bool := letS c || decide (c ∈ digT.cps.toList)
def nameS (s : Str) : Bool := decide (1 ≤ s.cps.size ∧ s.cps.size ≤ 8) && letS (s.cps.getD 0 0) && s.cps.toList.all signS
/-- the text of a value that is one -/
def Tx (K : PySem.W.Frag) (H : Hp) (x : V) (o : Option Str) : Prop := (∃ s : Str, x = .str s ∧ o = some s ∧ s.length ≤ 4000 ∧ PyData.strOk s = true) ∨ (o = none ∧ ∃ t, TyX K H x (.type t) ∧ kitB t "str" = some false)
def nameO : Option Str → Bool
  | some s => nameS s
  | none => false
def spName (K : PySem.W.Frag) : Sp := fun vs H Q _ => ∃ (x : V) (o : Option Str), vs = [x] ∧ Tx K H x o ∧ ∀ H', Same H H' → Q (.bl (nameO o)) H'
section
variable {P : Program} {w : World} {K : PySem.W.Frag} {mg : Str → Option Value} {base : Heap}
theorem iteT2 {c : Bool} {a b : Prop} (hc : c = true) (h : a) : if c = true then a else b := by rw [hc]; exact h
theorem iteF2 {c : Bool} {a b : Prop} (hc : c = false) (h : b) : if c = true then a else b := by rw [hc]; exact h
theorem scN : FnScope ["value", "sign"] ["value"] (defScope sIsName) := ⟨rfl, rfl, rfl, by decide +kernel, rfl, by decide +kernel, by decide +kernel⟩
theorem ok_name {f : Addr} {fd : FuncData} (F : Fun K "is_name" "is_name" sIsName f fd) (mi : mg "isinstance" = none) (ms : mg "str" = none) (ml : mg "len" = none) (ma : mg "all" = none)
    {t1 t2 : Tok} (gl : mg "LETTERS" = some (.str letT t1)) (gd : mg "DIGITS" = some (.str digT t2)) : FnOk P w K mg base CX0 1 f fd ["value"] (spName K) := by
  refine F.ok scN (fun vs H Q E h => ?_) (fun cdv A outer s H vs Q E hr h => ?_)
  · obtain ⟨x, o, rfl, _⟩ := h
    rfl
  · obtain ⟨x, o, rfl, hx, q⟩ := h
    refine ⟨_, pss_cons (ps_if (PW.pt (pw_or (pt_not (pt_val (pe_callB call_isi (by rfl) mi (by decide +kernel) (pa_cons (pv 0) (pa_cons (pe_bltn (v := .ty "str") (by rfl) ms (by decide +kernel) rfl) pa_nil)))))
        (pw_or1 (pt_not (pt_chain op_le op_le pe_int (pe_callB call_len_str (by rfl) ml PySem.boot_len (pa_cons (pv 0) pa_nil)) pe_int))))) (pss_one (ps_ret pe_bl)) pss_nil)
      (pss_one (ps_ret (pe_and (pe_cmpR op_inS (pe_item_str (pv 0) pe_int (fun _ _ => rfl)) (pe_glob (v := .str letT) (by rfl) gl ⟨_, rfl⟩) (by rfl))
        (pe_one (pe_callB (cr_all rfl) (by rfl) ma (by decide +kernel) (pa_cons
          (pe_lc (own := [("sign", 1)]) (g := gName 1) (tt := tYes) rfl scN.nd (pi_str (pv 0))
            (blkOk_by (own := [("sign", 1)]) (N := ["value", "sign"]) (sc := defScope sIsName) (by decide +kernel))
            (fun _ _ _ _ _ => pg_name (i := 1) scN.nd rfl (.inl rfl)) (fun _ _ _ _ _ => pts_nil)
            (fun _ _ _ _ _ => pe_or (pe_cmpR op_inS (pv 1) (pe_glob (v := .str letT) (by rfl) gl ⟨_, rfl⟩) (by rfl)) (pe_one (pe_cmpR op_inS (pv 1) (pe_glob (v := .str digT) (by rfl) gd ⟨_, rfl⟩) (by rfl))))) pa_nil)))))), ?_⟩
    have len0 : ∀ s : Str, s.length = s.cps.size := fun _ => rfl
    rcases hx with ⟨z, rfl, rfl, hz4, hzo⟩ | ⟨rfl, t, ht, hb⟩
    · have hz : z.length ≤ sizeLine := by rw [sizeLine_eq]; omega
      refine ⟨_, rfl, .str z, .ty "str", .type "str", .type "str", true, rfl, .ty _, .base (.str z), kit_ty (by decide +kernel), true, rfl, iteF ?_⟩
      refine ⟨_, rfl, z, rfl, hz, 1, _, rfl, rfl, _, rfl, ?_⟩
      have q' : ∀ b H', nameS z = b → Same H H' → Q (.bl b) H' := fun b H' e sm => by
        subst e
        exact q H' sm
      by_cases h1 : 1 ≤ z.cps.size
      · refine iteT2 (by rw [len0]; exact decide_eq_true (by omega)) ?_
        refine ⟨_, 8, rfl, rfl, _, rfl, ?_⟩
        by_cases h8 : z.cps.size ≤ 8
        · have e8 : decide (((z.length : Nat) : Int) ≤ 8) = true := by rw [len0]; exact decide_eq_true (by omega)
          rw [e8]
          refine iteF ?_
          obtain ⟨c, hc⟩ : ∃ c, z.cps[0]? = some c := ⟨_, Array.getElem?_eq_getElem (by omega)⟩
          refine ⟨_, rfl, z, 0, c, rfl, rfl, by decide, by decide, by rw [len0]; omega, hc, c, letT, rfl, rfl, _, rfl, ?_⟩
          have hd0 : z.cps.getD 0 0 = c := by
            rw [Array.getD_eq_getD_getElem?, hc]
            rfl
          by_cases hl : c ∈ letT.cps.toList
          · refine iteT2 (decide_eq_true hl) ?_
            refine ⟨_, rfl, z, rfl, fun D nD => ?_⟩
            refine lc_it walk_str (fun i H1 => ∃ bs : List Bool, H1 = upd H D (.lst (bs.map V.bl)) ∧ bs = (z.cps.toList.take i).map signS) ⟨[], rfl, rfl⟩ (fun _ _ _ _ => trivial) ?_ ?_
            · rintro i x H1 H2 hi ⟨bs, rfl, hbs⟩ ⟨rfl, c1, hc1, rfl⟩
              have hil : bs.length < 9 := by rw [hbs, List.length_map, List.length_take]; omega
              have step : (z.cps.toList.take (i + 1)).map signS = bs ++ [signS c1] := by
                rw [hbs, List.take_succ, List.map_append, Array.getElem?_toList, hc1]
                rfl
              refine ⟨rfl, _, rfl, c1, letT, rfl, rfl, _, rfl, ?_⟩
              have put : ∀ b, signS c1 = b → ∃ acc, (upd H D (.lst (bs.map V.bl))) D = some (.lst acc) ∧ acc.length < sizeLine ∧ ∃ bs', upd (upd H D (.lst (bs.map V.bl))) D (.lst (acc ++ [V.bl b])) = upd H D (.lst (bs'.map V.bl)) ∧ bs' = (z.cps.toList.take (i + 1)).map signS := fun b e => by
                refine ⟨_, upd_same, ?_, bs ++ [b], ?_, by rw [step, e]⟩
                · rw [List.length_map]; exact small1000 (by omega)
                · rw [upd_upd, List.map_append]; rfl
              refine ite2 (fun e => put _ (by unfold signS letS; rw [of_decide_eq_true e |> decide_eq_true]; rfl)) (fun e => ?_)
              refine ⟨_, rfl, c1, digT, rfl, rfl, put _ ?_⟩
              unfold signS letS
              rw [eq_false_of_ne_true e]
              rfl
            · rintro H1 ⟨bs, rfl, hbs⟩
              refine ⟨D, bs, rfl, .inl (.inl upd_same), q' _ _ ?_ (same_upd nD)⟩
              have e : z.cps.size = z.cps.toList.length := by simp
              rw [e, List.take_length] at hbs
              unfold nameS
              rw [hd0, decide_eq_true (show 1 ≤ z.cps.size ∧ z.cps.size ≤ 8 from ⟨h1, h8⟩), show letS c = true from decide_eq_true hl, hbs, List.all_map]
              rfl
          · refine iteF2 (decide_eq_false hl) (q' _ _ ?_ fun _ _ e => e)
            unfold nameS
            rw [hd0, show letS c = false from decide_eq_false hl]
            simp
        · have e8 : decide (((z.length : Nat) : Int) ≤ 8) = false := by rw [len0]; exact decide_eq_false (by omega)
          rw [e8]
          refine iteT (q' _ _ ?_ fun _ _ e => e)
          unfold nameS
          rw [decide_eq_false (show ¬ (1 ≤ z.cps.size ∧ z.cps.size ≤ 8) by omega)]
          rfl
      · refine iteF2 (by rw [len0]; exact decide_eq_false (by omega)) ⟨_, rfl, iteT (q' _ _ ?_ fun _ _ e => e)⟩
        unfold nameS
        rw [decide_eq_false (show ¬ (1 ≤ z.cps.size ∧ z.cps.size ≤ 8) by omega)]
        rfl
    · exact ⟨_, rfl, x, .ty "str", .type t, .type "str", false, rfl, .ty _, ht, kit_ty hb, false, rfl, iteT (q _ fun _ _ e => e)⟩
/-! ### lists of texts as data -/
theorem canLay_strs : ∀ xs : List Str, (∀ x ∈ xs, PyData.strOk x = true) → PyData.canLayAll0 (xs.map PyData.str) = true
  | [], _ => by simp [PyData.canLayAll0]
  | x :: r, h => by simp [PyData.canLayAll0, PyData.canLay0, h x List.mem_cons_self, canLay_strs r fun y hy => h y (List.mem_cons_of_mem _ hy)]
theorem depth_strs : ∀ xs : List Str, PyData.depthAll (xs.map PyData.str) = 0
  | [] => by simp [PyData.depthAll]
  | n :: r => by simp [PyData.depthAll, PyData.depth, depth_strs r]
theorem shaped_strs {xs : List Str} (h : ∀ x ∈ xs, PyData.strOk x = true) : SeqAt.shaped (.list (xs.map PyData.str)) = true := by
  unfold SeqAt.shaped
  simp only [PyData.canLay0, PyData.depth, canLay_strs xs h, depth_strs]
  decide
theorem dpAll_strs {K : PySem.W.Frag} {H : Hp} : ∀ xs : List Str, DpAll K H (xs.map V.str) (xs.map PyData.str)
  | [] => .nil
  | n :: r => .cons (.str n) (dpAll_strs r)
theorem dp_strs {K : PySem.W.Frag} {H : Hp} {l : Addr} {xs : List Str} (h : SqL K H l (xs.map V.str)) : Dp K H (.ref l) (.list (xs.map PyData.str)) := .lst h (dpAll_strs xs)
theorem dp_nil {K : PySem.W.Frag} {H : Hp} {l : Addr} (h : H l = some (.lst [])) : Dp K H (.ref l) (.list []) := .lst (.inl (.inl h)) .nil
theorem shaped_nil : SeqAt.shaped (.list []) = true := by decide
theorem eqv_nil {α : Type} (f : α → PyData) : ∀ xs : List α, PyData.eqv (.list (xs.map f)) (.list []) = xs.isEmpty
  | [] => rfl
  | x :: r => by simp [PyData.eqv, PyData.eqvAll]
/-! ### the law's look at a name -/
theorem sign_mem (c : Nat) : decide (c ∈ (letT ++ digT).cps.toList) = signS c := by
  have e : (letT ++ digT).cps.toList = letT.cps.toList ++ digT.cps.toList := Array.toList_append
  unfold signS letS
  rw [e, Bool.eq_iff_iff]
  simp
end
end Z1

set_option Elab.async false
set_option linter.all false
set_option maxRecDepth 100000
set_option maxHeartbeats 2000000
namespace Z2
open PySem PySem.Spec PyProof.Rows L2 Cau Dr14 Z1
abbrev sIsDeed : Stmt := topS 132
/-! ### values -/
def AtomV : V → Bool
  | .non | .bl _ => true
  | .int i => decide (0 ≤ i ∧ i < 10)
  | .str s => decide (s.length ≤ 4000) && PyData.strOk s
  | _ => false
def txtOf : V → Option Str
  | .str s => some s
  | _ => none
def nameV (v : V) : Bool := nameO (txtOf v)
theorem tx_atom {K : PySem.W.Frag} {H : Hp} {v : V} (h : AtomV v = true) : Tx K H v (txtOf v) := by
  cases v with
  | non => exact .inr ⟨rfl, "NoneType", .base .non, by decide +kernel⟩
  | bl b => exact .inr ⟨rfl, "bool", .base (.bl b), by decide +kernel⟩
  | int i => exact .inr ⟨rfl, "int", .base (.int i), by decide +kernel⟩
  | str s =>
    unfold AtomV at h
    simp only [Bool.and_eq_true, decide_eq_true_eq] at h
    exact .inl ⟨s, rfl, rfl, h.1, h.2⟩
  | _ => cases h
theorem flat_atom {v : V} (h : AtomV v = true) : flatV v = true := by
  cases v <;> first | rfl | cases h
/-- an item of a deed: an atom, or the list with one text -/
inductive ItV (H : Hp) : V → Prop
  | atom {v : V} (h : AtomV v = true) : ItV H v
  | lst {l : Addr} (h : H l = some (.lst [.str "a"])) : ItV H (.ref l)
theorem ItV.same {H H' : Hp} {v : V} (h : ItV H v) (s : Same H H') : ItV H' v := by
  cases h with
  | atom h => exact .atom h
  | lst h => exact .lst (s _ _ h)
theorem tx_it {K : PySem.W.Frag} {H : Hp} {v : V} (h : ItV H v) : Tx K H v (txtOf v) := by
  cases h with
  | atom h => exact tx_atom h
  | lst h => exact .inr ⟨rfl, "list", .base (.lst h), by decide +kernel⟩
/-- no tuple -/
inductive NotTup (H : Hp) : V → Prop
  | atom {v : V} (h : AtomV v = true) : NotTup H v
  | lst {p : Addr} {xs : List V} (h : H p = some (.lst xs)) : NotTup H (.ref p)
  | dK {p : Addr} {kvs : List (Key × V)} (h : H p = some (.dK kvs)) : NotTup H (.ref p)
/-- neither list nor tuple -/
inductive NotSeq (H : Hp) : V → Prop
  | atom {v : V} (h : AtomV v = true) : NotSeq H v
  | dK {p : Addr} {kvs : List (Key × V)} (h : H p = some (.dK kvs)) : NotSeq H (.ref p)
theorem NotTup.same {H H' : Hp} {v : V} (h : NotTup H v) (s : Same H H') : NotTup H' v := by
  cases h with
  | atom h => exact .atom h
  | lst h => exact .lst (s _ _ h)
  | dK h => exact .dK (s _ _ h)
theorem NotSeq.same {H H' : Hp} {v : V} (h : NotSeq H v) (s : Same H H') : NotSeq H' v := by
  cases h with
  | atom h => exact .atom h
  | dK h => exact .dK (s _ _ h)
section
variable {K : PySem.W.Frag} {H H' : Hp} {v : V} {p : Addr} {xs : List V}
theorem atom_ty (h : AtomV v = true) : ∃ t, TyX K H v (.type t) ∧ kitB t "tuple" = some false ∧ kitB t "list" = some false := by
  cases v with
  | non => exact ⟨"NoneType", .base .non, by decide +kernel, by decide +kernel⟩
  | bl b => exact ⟨"bool", .base (.bl b), by decide +kernel, by decide +kernel⟩
  | int i => exact ⟨"int", .base (.int i), by decide +kernel, by decide +kernel⟩
  | str s => exact ⟨"str", .base (.str s), by decide +kernel, by decide +kernel⟩
  | _ => cases h
theorem NotTup.ty (h : NotTup H v) : ∃ t, TyX K H v (.type t) ∧ kitB t "tuple" = some false := by
  cases h with
  | atom h =>
    obtain ⟨t, a, b, _⟩ := atom_ty (K := K) (H := H) h
    exact ⟨t, a, b⟩
  | lst h => exact ⟨"list", .base (.lst h), by decide +kernel⟩
  | dK h => exact ⟨"dict", .base (.dK h), by decide +kernel⟩
theorem NotSeq.ty (h : NotSeq H v) : ∃ t, TyX K H v (.type t) ∧ kitB t "tuple" = some false ∧ kitB t "list" = some false := by
  cases h with
  | atom h => exact atom_ty h
  | dK h => exact ⟨"dict", .base (.dK h), by decide +kernel, by decide +kernel⟩
theorem sqT_ty (h : SqT K H p xs) : TyX K H (.ref p) (.type "tuple") := by
  rcases h with (h | ⟨o, h⟩) | ⟨o, its, n, h, c, _⟩
  · exact .base (.tup h)
  · exact .fTuple h
  · exact .kTuple h c
theorem sqL_ty (h : SqL K H p xs) : TyX K H (.ref p) (.type "list") := by
  rcases h with (h | ⟨o, h⟩) | ⟨o, its, n, h, c, _⟩
  · exact .base (.lst h)
  · exact .base (.frz h)
  · exact .kList h c
theorem sqT_same (h : SqT K H p xs) (s : Same H H') : SqT K H' p xs := by
  rcases h with (h | ⟨o, h⟩) | h
  · exact .inl (.inl (s _ _ h))
  · exact .inl (.inr ⟨o, s _ _ h⟩)
  · exact .inr h
theorem same_rfl : Same H H := fun _ _ e => e
theorem sqT_len {X : Cx} {pins : List (Addr × Obj)} {σ : L2.St} {s : Shared} (I : Inv X pins σ H s) (h : SqT X.K H p xs) : xs.length ≤ sizeLine := by
  obtain ⟨_, _, _, hz⟩ := I.tuple h
  exact hz
end
/-! ### deeds -/
def formsL : List (Str × Nat) := [("meet", 4), ("upright", 5), ("gauge", 2), ("dividers", 4), ("halver", 5), ("strip", 5), ("disc", 2), ("rims", 4), ("corner", 4), ("compass", 4), ("circles", 4)]
def waysL : List Str := ["disc", "rims", "corner", "compass", "circles"]
def formOf (w : Str) : Option Nat := formsL.lookup w
def wayW (w : Str) : Bool := waysL.any fun x => x == w
def wayV (v : V) : Bool := decide (v = .int 1) || decide (v = .int 2)
/-- the items of a deed -/
def deedL (xs : List V) : Bool :=
  match xs with
  | [] => false
  | v :: r => match txtOf v with
    | none => false
    | some w => match formOf w with
      | none => false
      | some k => (r.take k).all nameV && (if wayW w = true then decide (r.length = k + 1) && wayV (r.getLastD .non) else decide (r.length = k))
theorem formOf_small {w : Str} {k : Nat} (h : formOf w = some k) : 2 ≤ k ∧ k ≤ 5 := by
  have all : ∀ p ∈ formsL, 2 ≤ p.2 ∧ p.2 ≤ 5 := by decide +kernel
  exact all (w, k) (PySem.mem_of_lookup h)
/-- the table of the words, as the program has written it -/
structure FormsK (K : PySem.W.Frag) (w : World) (d : Addr) : Prop where
  ex : ∃ (es : Array DictEntry) (n : Nat), KDict K w d es n
  no : ∀ z, formOf z = none → PySem.W.nsIn K d z = some none
  yes : ∀ z k, formOf z = some k → ∃ t, PySem.W.nsIn K d z = some (some (.int k t))
def WordsK (K : PySem.W.Frag) (d : Addr) (ws : List Str) : Prop := ∀ H, SqT K H d (ws.map V.str)
/-- a value as a deed: its items, or none -/
def Dd (K : PySem.W.Frag) (H : Hp) (x : V) (o : Option (List V)) : Prop := (∃ p xs, x = .ref p ∧ SqT K H p xs ∧ (∀ x ∈ xs, ItV H x) ∧ xs.length ≤ 100 ∧ o = some xs) ∨ (NotTup H x ∧ o = none)
def deedO : Option (List V) → Bool
  | some xs => deedL xs
  | none => false
theorem Dd.same {K : PySem.W.Frag} {H H' : Hp} {x : V} {o : Option (List V)} (h : Dd K H x o) (s : Same H H') : Dd K H' x o := by
  rcases h with ⟨p, xs, e, h, r⟩ | ⟨h, r⟩
  · exact .inl ⟨p, xs, e, sqT_same h s, fun x hx => (r.1 x hx).same s, r.2⟩
  · exact .inr ⟨h.same s, r⟩
def spDeed (K : PySem.W.Frag) : Sp := fun vs H Q _ => ∃ (x : V) (o : Option (List V)), vs = [x] ∧ Dd K H x o ∧ ∀ H', Same H H' → Q (.bl (deedO o)) H'
/-! ### small defs -/
def spWhole (K : PySem.W.Frag) : Sp := fun vs H Q _ => ∃ x : V, vs = [x] ∧ ItV H x ∧ Q (.bl (match x with | .int _ => true | _ => false)) H
def spTupleOf (K : PySem.W.Frag) : Sp := fun vs H Q _ => ∃ (x : V) (n : Nat) (b : Bool), vs = [x, .int n] ∧ ((∃ p xs, x = .ref p ∧ SqT K H p xs ∧ b = decide (xs.length = n)) ∨ (NotTup H x ∧ b = false)) ∧ Q (.bl b) H
/-- list or tuple, or neither -/
def Lv (K : PySem.W.Frag) (H : Hp) (x : V) (o : Option (List V)) : Prop := (∃ p xs, x = .ref p ∧ (SqL K H p xs ∨ SqT K H p xs) ∧ o = some xs) ∨ (NotSeq H x ∧ o = none)
def spIsList (K : PySem.W.Frag) : Sp := fun vs H Q _ => ∃ (x : V) (o : Option (List V)), vs = [x] ∧ Lv K H x o ∧ ∀ H', Same H H' → Q (.bl o.isSome) H'
section
variable {P : Program} {w : World} {K : PySem.W.Frag} {mg : Str → Option Value} {base : Heap}
theorem scW : FnScope ["value"] ["value"] (defScope sIsWhole) := ⟨rfl, rfl, rfl, by decide +kernel, rfl, by decide +kernel, by decide +kernel⟩
theorem ok_whole {f : Addr} {fd : FuncData} (F : Fun K "is_whole" "is_whole" sIsWhole f fd) (mi : mg "isinstance" = none) (mint : mg "int" = none) (mb : mg "bool" = none) : FnOk P w K mg base CX0 1 f fd ["value"] (spWhole K) := by
  refine F.ok scW (fun vs H Q E h => ?_) (fun cdv A outer s H vs Q E hr h => ?_)
  · obtain ⟨x, rfl, _⟩ := h
    rfl
  · obtain ⟨x, rfl, hk, q⟩ := h
    refine ⟨_, pss_one (ps_ret (pe_and (pe_callB call_isi (by rfl) mi (by decide +kernel) (pa_cons (pv 0) (pa_cons (pe_bltn (v := .ty "int") (by rfl) mint (by decide +kernel) rfl) pa_nil)))
      (pe_one (pe_not (pe_callB call_isi (by rfl) mi (by decide +kernel) (pa_cons (pv 0) (pa_cons (pe_bltn (v := .ty "bool") (by rfl) mb (by decide +kernel) rfl) pa_nil))))))), ?_⟩
    cases x with
    | non => exact ⟨_, rfl, .non, .ty "int", .type "NoneType", .type "int", false, rfl, .ty _, .base .non, kit_ty (by decide +kernel), false, rfl, iteF q⟩
    | str z => exact ⟨_, rfl, .str z, .ty "int", .type "str", .type "int", false, rfl, .ty _, .base (.str z), kit_ty (by decide +kernel), false, rfl, iteF q⟩
    | int i =>
      refine ⟨_, rfl, .int i, .ty "int", .type "int", .type "int", true, rfl, .ty _, .base (.int i), kit_ty (by decide +kernel), true, rfl, iteT ?_⟩
      exact ⟨_, rfl, .int i, .ty "bool", .type "int", .type "bool", false, rfl, .ty _, .base (.int i), kit_ty (by decide +kernel), false, rfl, q⟩
    | bl c =>
      refine ⟨_, rfl, .bl c, .ty "int", .type "bool", .type "int", true, rfl, .ty _, .base (.bl c), kit_ty (by decide +kernel), true, rfl, iteT ?_⟩
      exact ⟨_, rfl, .bl c, .ty "bool", .type "bool", .type "bool", true, rfl, .ty _, .base (.bl c), kit_ty (by decide +kernel), true, rfl, q⟩
    | ref l => cases hk with
      | atom h => cases h
      | lst h => exact ⟨_, rfl, .ref l, .ty "int", .type "list", .type "int", false, rfl, .ty _, .base (.lst h), kit_ty (by decide +kernel), false, rfl, iteF q⟩
    | _ => cases hk with | atom h => cases h
theorem scT : FnScope ["value", "size"] ["value", "size"] (defScope sTupleOf) := ⟨rfl, rfl, rfl, by decide +kernel, rfl, by decide +kernel, by decide +kernel⟩
theorem ok_tupleOf {f : Addr} {fd : FuncData} (F : Fun K "is_tuple_of" "is_tuple_of" sTupleOf f fd) (mi : mg "isinstance" = none) (mt : mg "tuple" = none) (ml : mg "len" = none) : FnOk P w K mg base CX0 1 f fd ["value", "size"] (spTupleOf K) := by
  refine F.ok scT (fun vs H Q E h => ?_) (fun cdv A outer s H vs Q E hr h => ?_)
  · obtain ⟨x, n, b, rfl, _⟩ := h
    rfl
  · obtain ⟨x, n, b, rfl, hk, q⟩ := h
    refine ⟨_, pss_one (ps_ret (pe_and (pe_callB call_isi (by rfl) mi (by decide +kernel) (pa_cons (pv 0) (pa_cons (pe_bltn (v := .ty "tuple") (by rfl) mt (by decide +kernel) rfl) pa_nil)))
      (pe_one (pe_cmpR op_eq (pe_callB call_len_seq (by rfl) ml PySem.boot_len (pa_cons (pv 0) pa_nil)) (pv 1) (nomark _))))), ?_⟩
    rcases hk with ⟨p, xs, rfl, hp, rfl⟩ | ⟨hn, rfl⟩
    · refine ⟨_, rfl, .ref p, .ty "tuple", .type "tuple", .type "tuple", true, rfl, .ty _, sqT_ty hp, kit_ty (by decide +kernel), true, rfl, iteT ?_⟩
      refine ⟨_, rfl, p, xs, rfl, .inr hp, _, rfl, rfl, ?_⟩
      have e : decide (V.int ((xs.length : Nat) : Int) = V.int ((n : Nat) : Int)) = decide (xs.length = n) := by
        rw [Bool.eq_iff_iff]
        simp
        omega
      rw [e]
      exact q
    · obtain ⟨t, ht, hb⟩ := hn.ty (K := K)
      exact ⟨_, rfl, x, .ty "tuple", .type t, .type "tuple", false, rfl, .ty _, ht, kit_ty hb, false, rfl, iteF q⟩
theorem scI : FnScope ["value"] ["value"] (defScope sIsList) := ⟨rfl, rfl, rfl, by decide +kernel, rfl, by decide +kernel, by decide +kernel⟩
theorem isi_lt {H : Hp} {x : V} {o : Option (List V)} (h : Lv K H x o) : ∃ t, TyX K H x t ∧ PySem.W.kitAny K t [.type "list", .type "tuple"] = some o.isSome := by
  rcases h with ⟨p, xs, rfl, h | h, rfl⟩ | ⟨h, rfl⟩
  · exact ⟨_, sqL_ty h, kitAny_cons (b := true) (kit_ty (by decide +kernel)) (fun z => by cases z) (fun _ => rfl)⟩
  · exact ⟨_, sqT_ty h, kitAny_cons (b := false) (kit_ty (by decide +kernel)) (fun _ => kitAny_cons (b := true) (kit_ty (by decide +kernel)) (fun z => by cases z) (fun _ => rfl)) (fun z => by cases z)⟩
  · obtain ⟨t, ht, h1, h2⟩ := h.ty (K := K)
    exact ⟨_, ht, kitAny_cons (b := false) (kit_ty h2) (fun _ => kitAny_cons (b := false) (kit_ty h1) (fun _ => kitAny_nil) (fun z => by cases z)) (fun z => by cases z)⟩
theorem lv_same {H H' : Hp} {x : V} {o : Option (List V)} (h : Lv K H x o) (s : Same H H') : Lv K H' x o := by
  rcases h with ⟨p, xs, e, h | h, r⟩ | ⟨h, r⟩
  · exact .inl ⟨p, xs, e, .inl (s.seq h), r⟩
  · exact .inl ⟨p, xs, e, .inr (sqT_same h s), r⟩
  · exact .inr ⟨h.same s, r⟩
theorem ok_isList {f : Addr} {fd : FuncData} (F : Fun K "is_list" "is_list" sIsList f fd) (mi : mg "isinstance" = none) (mt : mg "tuple" = none) (ml : mg "list" = none) : FnOk P w K mg base CX0 1 f fd ["value"] (spIsList K) := by
  refine F.ok scI (fun vs H Q E h => ?_) (fun cdv A outer s H vs Q E hr h => ?_)
  · obtain ⟨x, o, rfl, _⟩ := h
    rfl
  · obtain ⟨x, o, rfl, hx, q⟩ := h
    refine ⟨_, pss_one (ps_ret (pe_callB call_isiT (by rfl) mi (by decide +kernel) (pa_cons (pv 0) (pa_cons (pe_tup (pa_cons (pe_bltn (v := .ty "list") (by rfl) ml (by decide +kernel) rfl) (pa_cons (pe_bltn (v := .ty "tuple") (by rfl) mt (by decide +kernel) rfl) pa_nil))) pa_nil)))), ?_⟩
    refine ⟨_, rfl, by show 2 ≤ sizeLine; decide, fun t nt => ?_⟩
    obtain ⟨ty, h1, h2⟩ := isi_lt (lv_same hx (same_upd (o := .tup [.ty "list", .ty "tuple"]) nt))
    exact ⟨x, t, [.ty "list", .ty "tuple"], ty, [.type "list", .type "tuple"], o.isSome, rfl, upd_same, .cons (.ty _) (.cons (.ty _) .nil), h1, h2, q _ (same_upd nt)⟩
/-! ### is_deed -/
theorem cut_1 (v : V) (r : List V) (k : Nat) : cutV (v :: r) (some 1) (some ((k : Int) + 1)) = r.take k := by
  have e : ((k : Int) + 1) = ((k + 1 : Nat) : Int) := by omega
  unfold cutV
  rw [e, HT.sIx_nat, show (some (1 : Int)) = some ((1 : Nat) : Int) from rfl, HT.sIx_nat]
  have h1 : min 1 (v :: r).length = 1 := by simp
  rw [h1]
  show (r.take (min (k + 1) (r.length + 1) - 1)) = r.take k
  have h2 : min (k + 1) (r.length + 1) - 1 = min k r.length := by omega
  rw [h2, List.take_eq_take_iff]
  try omega
theorem _root_.PySem.Spec.same_none {H H' : Hp} {D : Addr} (s : Same H H') (n : H' D = none) : H D = none := by
  cases e : H D with
  | none => rfl
  | some u =>
    rw [s _ _ e] at n
    cases n
theorem same_put {H H' : Hp} {D : Addr} {o : HO} (s : Same H H') (n : H D = none) : Same H (upd H' D o) := fun b u e => by
  rw [upd_ne (ne_of_none e n)]
  exact s b u e
theorem scD : FnScope ["value", "word", "many", "name"] ["value"] (defScope sIsDeed) := ⟨rfl, rfl, rfl, by decide +kernel, rfl, by decide +kernel, by decide +kernel⟩
theorem inV_strs (z : Str) (ws : List Str) : inV (.str z) (ws.map V.str) = ws.any fun x => x == z := by
  unfold inV
  rw [List.any_map]
  rfl
theorem strs_flat (ws : List Str) : (ws.map V.str).all flatV = true := by
  rw [List.all_map, List.all_eq_true]
  intro _ _
  rfl
theorem ok_deed {f fN fW d1 d2 : Addr} {fd fdN fdW : FuncData} (F : Fun K "is_deed" "is_deed" sIsDeed f fd) (FN : Fun K "is_name" "is_name" sIsName fN fdN) (GN : FnOk P w K mg base CX0 1 fN fdN ["value"] (spName K)) (bN : Binds K fdN ["value"] []) (gN : mg "is_name" = some (.ref fN))
    (FW : Fun K "is_whole" "is_whole" sIsWhole fW fdW) (GW : FnOk P w K mg base CX0 1 fW fdW ["value"] (spWhole K)) (bW : Binds K fdW ["value"] []) (gW : mg "is_whole" = some (.ref fW))
    (T : FormsK K w d1) (gT : mg "NAME_COUNTS" = some (.ref d1)) (Ws : WordsK K d2 waysL) (gWs : mg "WORDS_WITH_WAYS" = some (.ref d2))
    (mi : mg "isinstance" = none) (mt : mg "tuple" = none) (ms : mg "str" = none) (ml : mg "len" = none) (ma : mg "all" = none) : FnOk P w K mg base CX0 2 f fd ["value"] (spDeed K) := by
  refine F.ok scD (fun vs H Q E h => ?_) (fun cdv A outer s H vs Q E hr h => ?_)
  · obtain ⟨x, o, rfl, _⟩ := h
    rfl
  · obtain ⟨x, o, rfl, hx, q⟩ := h
    obtain ⟨es, nn, KD⟩ := T.ex
    refine ⟨_, pss_cons (ps_if (PW.pt (pw_or (pt_not (pt_val (pe_callB call_isi (by rfl) mi (by decide +kernel) (pa_cons (pv 0) (pa_cons (pe_bltn (v := .ty "tuple") (by rfl) mt (by decide +kernel) rfl) pa_nil)))))
        (pw_or1 (pt_cmpR op_eq (pe_callB call_len_seq (by rfl) ml PySem.boot_len (pa_cons (pv 0) pa_nil)) pe_int (nomark _))))) (pss_one (ps_ret pe_bl)) pss_nil)
      (pss_cons (ps_set (i := 1) scD.nd rfl (.inl rfl) (pe_ix ix_tup (pv 0) pe_int (fun _ _ => rfl)))
      (pss_cons (ps_if (PW.pt (pw_or (pt_not (pt_val (pe_callB call_isi (by rfl) mi (by decide +kernel) (pa_cons (pv 1) (pa_cons (pe_bltn (v := .ty "str") (by rfl) ms (by decide +kernel) rfl) pa_nil)))))
        (pw_or1 (pt_cmpR (op_notIn_kd KD) (pv 1) (pe_glob (v := .ref d1) (by rfl) gT rfl) (by rfl))))) (pss_one (ps_ret pe_bl)) pss_nil)
      (pss_cons (ps_set (i := 2) scD.nd rfl (.inl rfl) (pe_ix ix_kdict (pe_glob (v := .ref d1) (by rfl) gT rfl) (pv 1) (fun _ _ => rfl)))
      (pss_cons (ps_if (pt_not (pt_val (pe_callB (cr_all rfl) (by rfl) ma (by decide +kernel) (pa_cons
          (pe_lc (own := [("name", 3)]) (g := gName 3) (tt := tYes) rfl scD.nd (pi_tup (pe_slice sl_tup (pv 0) (po_some pe_int) (po_some (pe_op op_add (pv 2) pe_int))))
            (blkOk_by (own := [("name", 3)]) (N := ["value", "word", "many", "name"]) (sc := defScope sIsDeed) (by decide +kernel))
            (fun _ _ _ _ _ => pg_name (i := 3) scD.nd rfl (.inl rfl)) (fun _ _ _ _ _ => pts_nil)
            (fun _ _ _ _ _ => pe_call GN (hr.mono (by decide)) (by rfl) gN FN.kp bN .nil pass0 (pa_cons (pv 3) pa_nil))) pa_nil)))) (pss_one (ps_ret pe_bl)) pss_nil)
      (pss_cons (ps_if (pt_cmpR op_in_seq (pv 1) (pe_glob (v := .ref d2) (by rfl) gWs rfl) (by rfl))
        (pss_one (ps_ret (pe_and (pe_cmpR op_eq (pe_callB call_len_seq (by rfl) ml PySem.boot_len (pa_cons (pv 0) pa_nil)) (pe_op op_add (pv 2) pe_int) (nomark _))
          (pe_and (pe_call GW (hr.mono (by decide)) (by rfl) gW FW.kp bW .nil pass0 (pa_cons (pe_ix ix_tup (pv 0) (pe_un un_neg pe_int) (fun _ _ => rfl)) pa_nil))
          (pe_one (pe_cmpR op_in_seq (pe_ix ix_tup (pv 0) (pe_un un_neg pe_int) (fun _ _ => rfl)) (pe_tup (pa_cons pe_int (pa_cons pe_int pa_nil))) (by rfl))))))) pss_nil)
      (pss_one (ps_ret (pe_cmpR op_eq (pe_callB call_len_seq (by rfl) ml PySem.boot_len (pa_cons (pv 0) pa_nil)) (pe_op op_add (pv 2) pe_int) (nomark _))))))))), ?_⟩
    have q' : ∀ b H', deedO o = b → Same H H' → Q (.bl b) H' := fun b H' e sm => by
      subst e
      exact q H' sm
    rcases hx with ⟨p, xs, rfl, hp, hat, hlen, rfl⟩ | ⟨hn, rfl⟩
    · refine ⟨_, rfl, .ref p, .ty "tuple", .type "tuple", .type "tuple", true, rfl, .ty _, sqT_ty hp, kit_ty (by decide +kernel), true, rfl, iteF ?_⟩
      refine ⟨_, rfl, p, xs, rfl, .inr hp, rfl, _, rfl, ?_⟩
      cases xs with
      | nil => exact iteT2 rfl (q' _ _ rfl same_rfl)
      | cons v r =>
        refine iteF2 (decide_eq_false fun z => by simp at z; omega) ?_
        refine ⟨_, rfl, p, _, 0, v, rfl, rfl, hp, atI_nat (j := 0) rfl, ?_⟩
        have hv : ItV H v := hat v List.mem_cons_self
        have hr' : ∀ y ∈ r, ItV H y := fun y hy => hat y (List.mem_cons_of_mem _ hy)
        rcases tx_it (K := K) hv with ⟨z, rfl, hz, _⟩ | ⟨hz, t, ht, hb⟩
        · refine ⟨_, rfl, .str z, .ty "str", .type "str", .type "str", true, rfl, .ty _, .base (.str z), kit_ty (by decide +kernel), true, rfl, iteF ?_⟩
          cases hf : formOf z with
          | none =>
            refine ⟨_, rfl, z, _, rfl, rfl, T.no z hf, _, rfl, iteT2 rfl (q' _ _ ?_ same_rfl)⟩
            show deedL (.str z :: r) = false
            unfold deedL
            simp only [txtOf, hf]
          | some k =>
            obtain ⟨t1, ht1⟩ := T.yes z k hf
            obtain ⟨hk2, hk5⟩ := formOf_small hf
            have dl : deedL (.str z :: r) = ((r.take k).all nameV && (if wayW z = true then decide (r.length = k + 1) && wayV (r.getLastD .non) else decide (r.length = k))) := by
              unfold deedL
              simp only [txtOf, hf]
            refine ⟨_, rfl, z, _, rfl, rfl, ht1, _, rfl, iteF2 rfl ?_⟩
            refine ⟨_, rfl, d1, z, .int k, rfl, rfl, ⟨es, nn, _, KD.at_, KD.lit, ht1, _, rfl⟩, ?_⟩
            -- the names
            refine ⟨_, rfl, _, rfl, _, rfl, _, _, rfl, rfl, _, rfl, p, _, rfl, hp, ?_, fun sp nsp => ?_⟩
            · rintro ⟨z1, _⟩
              have e1 : HT.sIx ((V.str z :: r).length) 0 (some ((1 : Nat) : Int)) = min 1 (V.str z :: r).length := HT.sIx_nat _ _ _
              have e2 : min 1 (V.str z :: r).length = 1 := by simp
              have z2 : HT.sIx ((V.str z :: r).length) 0 (some ((1 : Nat) : Int)) = 0 := z1
              omega
            rw [show ((k : Nat) : Int) + 1 = (k : Int) + 1 from rfl, cut_1]
            have S1 : Same H (upd H sp (.tup (r.take k))) := same_upd nsp
            refine ⟨sp, rfl, ⟨_, .inl (.inl upd_same)⟩, fun D nD => ?_⟩
            have S2 : Same (upd H sp (.tup (r.take k))) (upd (upd H sp (.tup (r.take k))) D (.lst [])) := same_upd nD
            have at_ : ∀ (i : Nat) (x : V), (r.take k)[i]? = some x → ItV H x := fun i x hx => hr' x (List.mem_of_mem_take (List.mem_of_getElem? hx))
            refine lc_it (walk_tup (K := K) (a := sp) (xs := r.take k)) (fun i H1 => ∃ bs : List Bool, H1 D = some (.lst (bs.map V.bl)) ∧ bs = ((r.take k).take i).map nameV ∧ Same (upd H sp (.tup (r.take k))) H1) ⟨[], upd_same, rfl, S2⟩ ?_ ?_ ?_
            · rintro i H1 _ ⟨bs, _, _, sm⟩
              exact .inl (.inl (sm _ _ upd_same))
            · rintro i x H1 H2 hi ⟨bs, hD, hbs, sm⟩ ⟨rfl, hx⟩
              refine ⟨rfl, _, rfl, x, _, rfl, tx_it ((at_ i x hx).same (S1.trans sm)), fun H3 sm3 => ⟨_, sm3 _ _ hD, ?_, bs ++ [nameV x], by rw [upd_same, List.map_append]; rfl, ?_, same_put (sm.trans sm3) nD⟩⟩
              · rw [List.length_map, hbs, List.length_map, List.length_take, List.length_take]
                exact small1000 (by omega)
              · rw [List.take_succ, List.map_append, hx, hbs]
                rfl
            · rintro H1 ⟨bs, hD, hbs, sm⟩
              rw [List.take_length] at hbs
              have S3 := S1.trans sm
              refine ⟨D, bs, rfl, .inl (.inl hD), _, rfl, ?_⟩
              have eall : bs.all id = (r.take k).all nameV := by
                rw [hbs, List.all_map]
                rfl
              rw [eall]
              cases e : (r.take k).all nameV with
              | false =>
                refine iteT2 rfl (q' _ _ ?_ S3)
                show deedL (.str z :: r) = false
                rw [dl, e]
                rfl
              | true =>
                refine iteF2 rfl ?_
                refine ⟨_, rfl, d2, waysL.map V.str, rfl, .inr (Ws H1), rfl, strs_flat _, _, rfl, ?_⟩
                rw [inV_strs]
                have hp3 := sqT_same hp S3
                have el : decide (V.int (((V.str z :: r).length : Nat) : Int) = V.int ((k : Nat) + 2 : Int)) = decide (r.length = k + 1) := by
                  rw [Bool.eq_iff_iff]
                  simp
                  omega
                have el1 : decide (V.int (((V.str z :: r).length : Nat) : Int) = V.int ((k : Nat) + 1 : Int)) = decide (r.length = k) := by
                  rw [Bool.eq_iff_iff]
                  simp
                  omega
                show if (wayW z) = true then _ else _
                cases ew : wayW z with
                | false =>
                  refine iteF2 rfl ?_
                  refine ⟨_, rfl, p, _, rfl, .inr hp3, _, rfl, _, _, rfl, rfl, rfl, ?_⟩
                  refine q' _ _ ?_ S3
                  show deedL (.str z :: r) = _
                  rw [dl, e, ew, el1]
                  rfl
                | true =>
                  refine iteT2 rfl ?_
                  refine ⟨_, rfl, p, _, rfl, .inr hp3, _, rfl, _, _, rfl, rfl, rfl, ?_⟩
                  have en : ∀ b, (if wayW z = true then decide (r.length = k + 1) && wayV (r.getLastD .non) else decide (r.length = k)) = b → deedO (some (V.str z :: r)) = b := fun b eb => by
                    show deedL (.str z :: r) = b
                    rw [dl, e, eb]
                    rfl
                  rw [if_pos ew] at en
                  refine ⟨_, rfl, ?_⟩
                  by_cases hl : r.length = k + 1
                  · refine iteT2 (el.trans (decide_eq_true hl)) ?_
                    obtain ⟨r', y, rfl⟩ : ∃ r' y, r = r' ++ [y] := by
                      rcases List.eq_nil_or_concat r with h0 | ⟨r', y, h0⟩
                      · rw [h0] at hl
                        simp at hl
                      · exact ⟨r', y, by rw [h0, List.concat_eq_append]⟩
                    have hy : ItV H y := hr' y (List.mem_append_right _ List.mem_cons_self)
                    have la : atI (V.str z :: (r' ++ [y])) (-1) = some y := atI_last (V.str z :: r') y
                    have gl : (r' ++ [y]).getLastD V.non = y := by simp
                    rw [gl, decide_eq_true hl, Bool.true_and] at en
                    refine ⟨_, rfl, 1, rfl, p, _, -1, y, rfl, rfl, hp3, la, y, rfl, hy.same S3, _, rfl, ?_⟩
                    cases y with
                    | int i =>
                      refine iteT2 rfl ?_
                      refine ⟨_, rfl, 1, rfl, p, _, -1, _, rfl, rfl, hp3, la, by show 2 ≤ sizeLine; decide, fun tp ntp => ?_⟩
                      refine ⟨tp, [.int 1, .int 2], rfl, .inr (.inl (.inl upd_same)), rfl, rfl, q' _ _ (en _ ?_) (same_put S3 (PySem.Spec.same_none S3 ntp))⟩
                      show (decide (V.int i = .int 1) || decide (V.int i = .int 2)) = ((1 == i) || ((2 == i) || false))
                      rw [Bool.eq_iff_iff]
                      simp
                      omega
                    | non => exact iteF2 rfl (q' _ _ (en _ rfl) S3)
                    | bl b => exact iteF2 rfl (q' _ _ (en _ rfl) S3)
                    | str b => exact iteF2 rfl (q' _ _ (en _ rfl) S3)
                    | ref l => exact iteF2 rfl (q' _ _ (en _ rfl) S3)
                    | _ => cases hy with | atom h => cases h
                  · refine iteF2 (el.trans (decide_eq_false hl)) (q' _ _ (en _ ?_) S3)
                    rw [decide_eq_false hl]
                    rfl
        · refine ⟨_, rfl, v, .ty "str", .type t, .type "str", false, rfl, .ty _, ht, kit_ty hb, false, rfl, iteT (q' _ _ ?_ same_rfl)⟩
          show deedL (v :: r) = false
          unfold deedL
          simp only [hz]
    · obtain ⟨t, ht, hb⟩ := hn.ty (K := K)
      exact ⟨_, rfl, x, .ty "tuple", .type t, .type "tuple", false, rfl, .ty _, ht, kit_ty hb, false, rfl, iteT (q' _ _ rfl same_rfl)⟩
end
end Z2

set_option Elab.async false
set_option linter.all false
set_option maxRecDepth 100000
set_option maxHeartbeats 2000000
namespace Z3
open PySem PySem.Spec PyProof.Rows L2 Cau Dr14 Z1 Z2
abbrev sDeedNames : Stmt := topS 136
abbrev sForms : Stmt := topS 155
abbrev sHasWay : Stmt := topS 156
/-! ### repr of what is no list and no tuple -/
def shA : V → Str
  | .non => "None"
  | .bl b => if b then "True" else "False"
  | .int i => toString i
  | .str s => reprText s
  | _ => ""
def rReprA : List V → Hp → VK → Prop := fun xs H Q => ∃ v, xs = [v] ∧ AtomV v = true ∧ Q (.str (shA v)) H
theorem strOk_lt {x : Str} (h : PyData.strOk x = true) : ∀ c ∈ x.cps.toList, c < 0x110000 := by
  unfold PyData.strOk at h
  rw [Array.all_eq_true'] at h
  exact fun c hc => of_decide_eq_true (h c (Array.mem_toList_iff.mp hc))
theorem repr_fits {x : Str} (h : PyData.strOk x = true) (hl : x.length ≤ 4000) : (reprText x).length ≤ 40002 := by
  have := StrLaws.reprText_len x fun c hc => Nat.lt_trans (strOk_lt h c hc) (by decide)
  omega
theorem call_reprA {X : Cx} : CallR X (.builtin "repr") rReprA := by
  intro pins s σ H xs us Q I r ⟨v, hv, ha, q⟩
  subst hv
  obtain ⟨u, hu, ru⟩ := r.one
  subst hu
  have done : ∀ x t, Q (.str x) H → EP X pins σ Q (.str x t) { s with toks := s.toks + 1 } := fun x t q => ⟨.str x, H, I.tok _, ⟨_, rfl⟩, q⟩
  cases v with
  | non => cases (show u = Value.none from ru); exact PySem.P.repr_of_none (done _ _ q)
  | bl b => cases (show u = Value.bool b from ru); exact PySem.P.repr_of_bool (done _ _ q)
  | int i =>
    obtain ⟨t, rfl⟩ := ru
    have hi : 0 ≤ i ∧ i < 10 := of_decide_eq_true ha
    refine PySem.P.repr_of_int ?_ (done _ _ q)
    have h2 : i.natAbs < 10 := by omega
    have all : ∀ n, n < 10 → n.log2 < 1920 := by decide
    exact all _ h2
  | str z =>
    obtain ⟨t, rfl⟩ := ru
    simp only [AtomV, Bool.and_eq_true, decide_eq_true_eq] at ha
    exact PySem.P.repr_of_str (done _ _ q) (Nat.le_trans (repr_fits ha.2 ha.1) (by decide))
  | _ => cases ha
theorem str_ne_len {a b : Str} (h : a.length ≠ b.length) : (a == b) = false := beq_eq_false_iff_ne.mpr fun z => h (by rw [z])
theorem shA_way {v : V} (h : AtomV v = true) : inV (.str (shA v)) [.str "1", .str "2"] = wayV v := by
  cases v with
  | non => decide +kernel
  | bl b => cases b <;> decide +kernel
  | int i =>
    have hi : 0 ≤ i ∧ i < 10 := of_decide_eq_true h
    have all : ∀ n : Nat, n < 10 → inV (.str (shA (.int (n : Int)))) [.str "1", .str "2"] = wayV (.int (n : Int)) := by decide +kernel
    have e := all i.toNat (by omega)
    rw [Int.toNat_of_nonneg hi.1] at e
    exact e
  | str z =>
    have h2 := StrLaws.reprText_ge2 z
    have e1 : ((reprText z : Str) == ("1" : Str)) = false := str_ne_len (by
      have : ("1" : Str).length = 1 := by decide +kernel
      omega)
    have e2 : ((reprText z : Str) == ("2" : Str)) = false := str_ne_len (by
      have : ("2" : Str).length = 1 := by decide +kernel
      omega)
    show ((("1" : Str) == reprText z) || ((("2" : Str) == reprText z) || false)) = _
    rw [Bool.beq_comm, e1, Bool.beq_comm, e2]
    rfl
  | _ => cases h
/-! ### the law's tables -/
def formsD : List (Key × V) := formsL.map fun p => (.inr p.1, .int p.2)
theorem forms_new : mergeK [] formsD = formsD := by
  with_unfolding_all rfl
theorem forms_get (z : Str) : valV formsD (.inr z) = (formOf z).map fun k => V.int (k : Nat) := by
  have gen : ∀ l : List (Str × Nat), valV (l.map fun p => ((.inr p.1 : Key), V.int p.2)) (.inr z) = (l.lookup z).map fun k => V.int (k : Nat) := by
    intro l
    induction l with
    | nil => rfl
    | cons p r ih =>
      obtain ⟨a, k⟩ := p
      unfold valV at ih ⊢
      rw [List.map_cons, List.find?_cons, List.lookup_cons]
      by_cases h : z = a
      · subst h
        simp
      · have e1 : (z == a) = false := beq_eq_false_iff_ne.mpr h
        have e2 : decide ((Sum.inr a : Key) = Sum.inr z) = false := decide_eq_false fun q => h (Sum.inr.inj q).symm
        rw [e1]
        simp only [e2]
        exact ih
  exact gen formsL
def spForms : Sp := fun vs H Q _ => vs = [] ∧ ∀ p, H p = none → Q (.ref p) (upd H p (.dK formsD))
def spHasWay : Sp := fun vs H Q _ => ∃ z : Str, vs = [.str z] ∧ ∀ H', Same H H' → Q (.bl (wayW z)) H'
section
variable {P : Program} {w : World} {K : PySem.W.Frag} {mg : Str → Option Value} {base : Heap}
theorem scFo : FnScope [] [] (defScope sForms) := ⟨rfl, rfl, rfl, by decide +kernel, rfl, by decide +kernel, by decide +kernel⟩
theorem ok_forms {f : Addr} {fd : FuncData} (F : Fun K "_law_forms" "_law_forms" sForms f fd) : FnOk P w K mg base CX0 1 f fd [] spForms := by
  refine F.ok scFo (fun vs H Q E h => ?_) (fun cdv A outer s H vs Q E hr h => ?_)
  · obtain ⟨rfl, _⟩ := h
    rfl
  · obtain ⟨rfl, q⟩ := h
    refine ⟨_, pss_one (ps_ret (pe_disp (pps_cons pe_str pe_int (pps_cons pe_str pe_int (pps_cons pe_str pe_int (pps_cons pe_str pe_int (pps_cons pe_str pe_int (pps_cons pe_str pe_int (pps_cons pe_str pe_int (pps_cons pe_str pe_int
      (pps_cons pe_str pe_int (pps_cons pe_str pe_int (pps_cons pe_str pe_int pps_nil))))))))))) (by rfl) (by rfl) (fun z => by cases z) (by decide))), ?_⟩
    intro p np
    refine ⟨upd_same, formsD, rfl, by show 11 ≤ 15; decide, ?_⟩
    rw [upd_upd, forms_new]
    exact q p np
theorem scHW : FnScope ["word"] ["word"] (defScope sHasWay) := ⟨rfl, rfl, rfl, by decide +kernel, rfl, by decide +kernel, by decide +kernel⟩
theorem ok_hasWay {f : Addr} {fd : FuncData} (F : Fun K "_law_has_way" "_law_has_way" sHasWay f fd) : FnOk P w K mg base CX0 1 f fd ["word"] spHasWay := by
  refine F.ok scHW (fun vs H Q E h => ?_) (fun cdv A outer s H vs Q E hr h => ?_)
  · obtain ⟨z, rfl, _⟩ := h
    rfl
  · obtain ⟨z, rfl, q⟩ := h
    refine ⟨_, pss_one (ps_ret (pe_cmpR op_in_seq (pv 0) (pe_lst (pa_cons pe_str (pa_cons pe_str (pa_cons pe_str (pa_cons pe_str (pa_cons pe_str pa_nil)))))) (by rfl))), ?_⟩
    refine ⟨_, rfl, by show 5 ≤ sizeLine; decide, fun l nl => ?_⟩
    refine ⟨l, waysL.map V.str, rfl, .inl (.inl (.inl upd_same)), rfl, strs_flat _, ?_⟩
    rw [inV_strs]
    exact q _ (same_upd nl)
/-! ### the names of a deed -/
def spDN (K : PySem.W.Frag) : Sp := fun vs H Q _ => ∃ (p : Addr) (z : Str) (r : List V) (k : Nat), vs = [.ref p] ∧ SqT K H p (.str z :: r) ∧ formOf z = some k ∧ ∀ sp, H sp = none → Q (.ref sp) (upd H sp (.tup (r.take k)))
theorem not_whole (v : V) (r : List V) (hi : Option Int) : ¬ (HT.sIx (v :: r).length 0 (some 1) = 0 ∧ HT.sIx (v :: r).length (v :: r).length hi = (v :: r).length) := by
  rintro ⟨z1, _⟩
  have e1 : HT.sIx ((v :: r).length) 0 (some ((1 : Nat) : Int)) = min 1 (v :: r).length := HT.sIx_nat _ _ _
  have e2 : min 1 (v :: r).length = 1 := by simp
  have z2 : HT.sIx ((v :: r).length) 0 (some ((1 : Nat) : Int)) = 0 := z1
  omega
theorem scDN : FnScope ["deed"] ["deed"] (defScope sDeedNames) := ⟨rfl, rfl, rfl, by decide +kernel, rfl, by decide +kernel, by decide +kernel⟩
theorem ok_dn {f d1 : Addr} {fd : FuncData} (F : Fun K "deed_names" "deed_names" sDeedNames f fd) (T : FormsK K w d1) (gT : mg "NAME_COUNTS" = some (.ref d1)) : FnOk P w K mg base CX0 1 f fd ["deed"] (spDN K) := by
  refine F.ok scDN (fun vs H Q E h => ?_) (fun cdv A outer s H vs Q E hr h => ?_)
  · obtain ⟨p, z, r, k, rfl, _⟩ := h
    rfl
  · obtain ⟨p, z, r, k, rfl, hp, hf, q⟩ := h
    obtain ⟨es, nn, KD⟩ := T.ex
    obtain ⟨t1, ht1⟩ := T.yes z k hf
    refine ⟨_, pss_one (ps_ret (pe_slice sl_tup (pv 0) (po_some pe_int) (po_some (pe_op op_add (pe_ix ix_kdict (pe_glob (v := .ref d1) (by rfl) gT rfl) (pe_ix ix_tup (pv 0) pe_int (fun _ _ => rfl)) (fun _ _ => rfl)) pe_int)))), ?_⟩
    refine ⟨_, rfl, _, rfl, _, rfl, p, _, 0, _, rfl, rfl, hp, atI_nat (j := 0) rfl, d1, z, .int k, rfl, rfl, ⟨es, nn, _, KD.at_, KD.lit, ht1, _, rfl⟩, _, _, rfl, rfl, _, rfl, p, _, rfl, hp, not_whole _ _ _, fun sp nsp => ?_⟩
    rw [cut_1]
    exact q sp nsp
theorem cut_1' (v : V) (r : List V) (k : Nat) : cutV (v :: r) (some 1) (some (1 + (k : Int))) = r.take k := by
  rw [Int.add_comm]
  exact cut_1 v r k
/-! ### atoms as data -/
def atomD : V → PyData
  | .non => .none
  | .bl b => .bool b
  | .int i => .int i
  | .str s => .str s
  | _ => .none
theorem dp_atom {K : PySem.W.Frag} {H : Hp} {v : V} (h : AtomV v = true) : Dp K H v (atomD v) := by
  cases v with
  | non => exact .non
  | bl b => exact .bl b
  | int i => exact .int i
  | str s => exact .str s
  | _ => cases h
theorem dpAll_atoms {K : PySem.W.Frag} {H : Hp} : ∀ xs : List V, (∀ x ∈ xs, AtomV x = true) → DpAll K H xs (xs.map atomD)
  | [], _ => .nil
  | x :: r, h => .cons (dp_atom (h x List.mem_cons_self)) (dpAll_atoms r fun y hy => h y (List.mem_cons_of_mem _ hy))
theorem canLay_atom {v : V} (h : AtomV v = true) : PyData.canLay0 (atomD v) = true := by
  cases v with
  | str s =>
    simp only [AtomV, Bool.and_eq_true] at h
    simp [atomD, PyData.canLay0, h.2]
  | int i => rfl
  | bl b => rfl
  | non => rfl
  | _ => cases h
theorem depth_atom (v : V) : PyData.depth (atomD v) = 0 := by
  cases v <;> simp [atomD, PyData.depth]
theorem canLay_atoms : ∀ xs : List V, (∀ x ∈ xs, AtomV x = true) → PyData.canLayAll0 (xs.map atomD) = true
  | [], _ => by simp [PyData.canLayAll0]
  | x :: r, h => by simp [PyData.canLayAll0, canLay_atom (h x List.mem_cons_self), canLay_atoms r fun y hy => h y (List.mem_cons_of_mem _ hy)]
theorem depth_atoms : ∀ xs : List V, PyData.depthAll (xs.map atomD) = 0
  | [] => by simp [PyData.depthAll]
  | n :: r => by simp [PyData.depthAll, depth_atom, depth_atoms r]
theorem shaped_atoms {xs : List V} (h : ∀ x ∈ xs, AtomV x = true) : SeqAt.shaped (.list (xs.map atomD)) = true := by
  unfold SeqAt.shaped
  simp only [PyData.canLay0, PyData.depth, canLay_atoms xs h, depth_atoms]
  decide
/-! ### the law's look at a deed -/
theorem deed_odd {v : V} (h : txtOf v = none) (r : List V) : deedL (v :: r) = false := by
  unfold deedL
  simp only [h]
theorem deed_word {z : Str} (h : formOf z = none) (r : List V) : deedL (.str z :: r) = false := by
  unfold deedL
  simp only [txtOf, h]
theorem deed_is {z : Str} {k : Nat} (h : formOf z = some k) (r : List V) : deedL (.str z :: r) = ((r.take k).all nameV && (if wayW z = true then decide (r.length = k + 1) && wayV (r.getLastD .non) else decide (r.length = k))) := by
  unfold deedL
  simp only [txtOf, h]
theorem deed_short {xs : List V} (h : xs.length < 3) : deedL xs = false := by
  match xs, h with
  | [], _ => rfl
  | v :: r, h =>
    cases hv : txtOf v with
    | none => exact deed_odd hv r
    | some z =>
      cases v <;> try (cases hv)
      cases hf : formOf z with
      | none => exact deed_word hf r
      | some k =>
        obtain ⟨hk2, hk5⟩ := formOf_small hf
        simp only [List.length_cons] at h
        rw [deed_is hf, decide_eq_false (show ¬ r.length = k + 1 by omega), decide_eq_false (show ¬ r.length = k by omega)]
        simp
end
end Z3

set_option Elab.async false
set_option linter.all false
set_option maxRecDepth 100000
set_option maxHeartbeats 2000000
namespace Z4
open PySem PySem.Spec PyProof.Rows L2 Cau Dr14 Z1 Z2 Z3
abbrev sCheckDeed : Stmt := topS 133
abbrev sAreSteps : Stmt := topS 134
abbrev sIsDrawing : Stmt := topS 135
abbrev sToolOf : Stmt := topS 139
/-! ### a walk over a list or a tuple -/
def SqX (K : PySem.W.Frag) (H : Hp) (p : Addr) (xs : List V) : Prop := SqL K H p xs ∨ SqT K H p xs
theorem SqX.same {K : PySem.W.Frag} {H H' : Hp} {p : Addr} {xs : List V} (h : SqX K H p xs) (s : Same H H') : SqX K H' p xs := by
  rcases h with h | h
  · exact .inl (s.seq h)
  · exact .inr (sqT_same h s)
def SeqAt (K : PySem.W.Frag) (a : Addr) (xs : List V) (R : It → Hp → Prop) (H1 : Hp) : Prop :=
  (SqL K H1 a xs ∧ ∀ J : It, Walk J xs.length (fun H => SqL K H a xs) (YAt xs) → R J H1) ∨ (SqT K H1 a xs ∧ ∀ J : It, Walk J xs.length (fun H => SqT K H a xs) (YAt xs) → R J H1)
theorem seq_of {K : PySem.W.Frag} {a : Addr} {xs : List V} {R : It → Hp → Prop} {H0 H1 : Hp} (h : SqX K H0 a xs) (s : Same H0 H1) (q : ∀ (J : It) (G : Hp → Prop), Walk J xs.length G (YAt xs) → (∀ H', Same H0 H' → G H') → R J H1) : SeqAt K a xs R H1 := by
  rcases h with h | h
  · exact .inl ⟨s.seq h, fun J w => q J _ w fun H' s' => s'.seq h⟩
  · exact .inr ⟨sqT_same h s, fun J w => q J _ w fun H' s' => sqT_same h s'⟩
def iSeq (K : PySem.W.Frag) (tl : TE) : TI := fun σ H R => tl σ H fun x H1 => ∃ a xs, x = .ref a ∧ SeqAt K a xs R H1
theorem pi_seq {X : Cx} {tg l : Expr} {tl : TE} (hl : PE X l tl) : PI X tg l (iSeq X.K tl) := by
  constructor
  intro pins s σ H R I h
  refine thn (hl.run pins s σ H _ I h) ?_
  rintro v s1 ⟨x, H1, I1, r1, a, xs, ex, hq⟩
  subst ex
  cases r1
  rcases hq with ⟨hq, q⟩ | ⟨hq, q⟩
  · obtain ⟨its, rv, p, hz⟩ := I1.list hq
    exact wpAny_pyIter_list p.isList (pi_one (tk := s1.toks) I1 _ (turn_list a _) ⟨_, Heap.get?_push_size _ rfl, rfl, rfl⟩ (q _ walk_list))
  · obtain ⟨its, rv, p, hz⟩ := I1.tuple hq
    exact wpAny_pyIter_tuple (show s1.heap.IsTuple a its.toArray from p) (pi_one (tk := s1.toks) I1 _ (turn_tuple a _) ⟨_, Heap.get?_push_size _ rfl, rfl, rfl⟩ (q _ walk_tup))
theorem dc_it {J : It} {n : Nat} {G : Hp → Prop} {Y : Nat → Hp → V → Hp → Prop} (w : Walk J n G Y) {g : TG} {tt : TT} {tk tv : TE} {vs : List Nat} {σ : L2.St} {H1 : Hp} {D : Addr} {Qd : Hp → Prop} (Pv : Nat → Hp → Prop) (h0 : Pv 0 (upd H1 D (.dK []))) (hG : ∀ i H, i ≤ n → Pv i H → G H)
    (hs : ∀ i x H H', i < n → Pv i H → Y i H x H' → g x (wipe σ vs) H' fun σ2 H2 => wipe σ2 vs = wipe σ vs ∧ tt σ2 H2 fun b H3 =>
      if b = true then tk σ2 H3 fun y H4 => tv σ2 H4 fun z H5 => ∃ kvs k, y = kV k ∧ H5 D = some (.dK kvs) ∧ kvs.length < sizeLine ∧ Pv (i + 1) (upd H5 D (.dK (putK kvs k z))) else Pv (i + 1) H3) (hd : ∀ H, Pv n H → Qd H) :
    ∃ W : Nat → Nat → Hp → Prop, (∃ m, W 0 m (upd H1 D (.dK []))) ∧ ∀ i m H, W i m H →
      (J.stop i H ∧ Qd H) ∨ (J.go i H ∧ ∃ Nx : Hp → Prop, (∀ H', Nx H' → ∃ m', m' < m ∧ W (i + 1) m' H') ∧ ∀ x H', J.yld i H x H' → g x (wipe σ vs) H' fun σ2 H2 => wipe σ2 vs = wipe σ vs ∧ tt σ2 H2 fun b H3 =>
        if b = true then tk σ2 H3 fun y H4 => tv σ2 H4 fun z H5 => ∃ kvs k, y = kV k ∧ H5 D = some (.dK kvs) ∧ kvs.length < sizeLine ∧ Nx (upd H5 D (.dK (putK kvs k z))) else Nx H3) := by
  refine ⟨fun i m H => m = n - i ∧ i ≤ n ∧ Pv i H, ⟨n, rfl, Nat.zero_le _, h0⟩, ?_⟩
  rintro i _ H ⟨rfl, le, pv⟩
  have gh := hG i H le pv
  rcases Nat.lt_or_eq_of_le le with lt | rfl
  · right
    refine ⟨w.goes i H lt gh, fun H' => Pv (i + 1) H', fun H' p' => ⟨_, Nat.sub_lt_sub_left lt (Nat.lt_succ_self i), rfl, lt, p'⟩, ?_⟩
    exact fun x H' y => hs i x H H' lt pv (w.yields i H x H' lt gh y)
  · exact .inl ⟨w.stops H gh, hd H pv⟩
/-! ### steps -/
/-- how a value stands as a step -/
inductive Sd
  | bad
  | pair (n : V) (d : Option (List V))
def SdOk (K : PySem.W.Frag) (H : Hp) (y : V) : Sd → Prop
  | .bad => NotTup H y ∨ ∃ p xs, y = .ref p ∧ SqT K H p xs ∧ xs.length ≠ 2
  | .pair n d => ∃ p z, y = .ref p ∧ SqT K H p [n, z] ∧ AtomV n = true ∧ Dd K H z d
theorem SdOk.same {K : PySem.W.Frag} {H H' : Hp} {y : V} {d : Sd} (h : SdOk K H y d) (s : Same H H') : SdOk K H' y d := by
  cases d with
  | bad =>
    rcases h with h | ⟨p, xs, e, h, r⟩
    · exact .inl (h.same s)
    · exact .inr ⟨p, xs, e, sqT_same h s, r⟩
  | pair n d =>
    obtain ⟨p, z, e, h, a, r⟩ := h
    exact ⟨p, z, e, sqT_same h s, a, r.same s⟩
/-- the names of a deed -/
def namesL (xs : List V) : List Str :=
  match xs with
  | .str z :: r => match formOf z with
    | some k => (r.take k).filterMap txtOf
    | none => []
  | _ => []
def stepB (d : Sd) (kn : List Str) : Option Str :=
  match d with
  | .pair n (some xs) => match txtOf n with
    | some s => if (nameS s && deedL xs && !decide (s ∈ kn) && (namesL xs).all fun u => decide (u ∈ kn)) = true then some s else none
    | none => none
  | _ => none
def goesB : List Sd → List Str → Bool
  | [], _ => true
  | d :: r, kn => match stepB d kn with
    | some s => goesB r (kn ++ [s])
    | none => false
def goesO (o : Option (List Sd)) (kn : List Str) : Bool := match o with
  | some ds => goesB ds kn
  | none => false
/-- a value as a list of steps -/
def Sv (K : PySem.W.Frag) (H : Hp) (x : V) (o : Option (List Sd)) : Prop :=
  (∃ p ys ds, x = .ref p ∧ SqX K H p ys ∧ ys.length = ds.length ∧ ys.length ≤ 200 ∧ (∀ (i : Nat) y d, ys[i]? = some y → ds[i]? = some d → SdOk K H y d) ∧ o = some ds) ∨ (NotSeq H x ∧ o = none)
theorem Sv.same {K : PySem.W.Frag} {H H' : Hp} {x : V} {o : Option (List Sd)} (h : Sv K H x o) (s : Same H H') : Sv K H' x o := by
  rcases h with ⟨p, ys, ds, e, h, l, l2, a, r⟩ | ⟨h, r⟩
  · exact .inl ⟨p, ys, ds, e, h.same s, l, l2, fun i y d e1 e2 => (a i y d e1 e2).same s, r⟩
  · exact .inr ⟨h.same s, r⟩
def spSteps (K : PySem.W.Frag) : Sp := fun vs H Q _ => ∃ (x : V) (o : Option (List Sd)) (nm : Addr) (ns : List Str), vs = [x, .ref nm] ∧ Sv K H x o ∧ SqX K H nm (ns.map V.str) ∧ ns.length ≤ 500 ∧ ∀ H', Same H H' → Q (.bl (goesO o ns)) H'
/-- a dict whose keys are these texts -/
def Keys (kvs : List (Key × V)) (kn : List Str) : Prop := ∀ s : Str, (valV kvs (.inr s)).isSome = decide (s ∈ kn)
theorem names_is {w0 : Str} {k : Nat} (h : formOf w0 = some k) (r : List V) : namesL (.str w0 :: r) = (r.take k).filterMap txtOf := by
  unfold namesL
  simp only [h]
theorem deed_shape {xs : List V} (h : deedL xs = true) : ∃ w0 r k, xs = .str w0 :: r ∧ formOf w0 = some k ∧ (r.take k).all nameV = true := by
  match xs, h with
  | v :: r, h =>
    cases hv : txtOf v with
    | none => rw [deed_odd hv] at h; cases h
    | some z =>
      cases v <;> try (cases hv)
      cases hf : formOf z with
      | none => rw [deed_word hf] at h; cases h
      | some k =>
        rw [deed_is hf, Bool.and_eq_true] at h
        exact ⟨z, r, k, rfl, hf, h.1⟩
def knownV (kn : List Str) (v : V) : Bool := match txtOf v with
  | some u => decide (u ∈ kn)
  | none => false
theorem known_all (kn : List Str) : ∀ xs : List V, xs.all nameV = true → (xs.all fun x => knownV kn x) = (xs.filterMap txtOf).all fun u => decide (u ∈ kn)
  | [], _ => rfl
  | x :: r, h => by
    rw [List.all_cons, Bool.and_eq_true] at h
    cases x with
    | str u =>
      rw [List.all_cons, List.filterMap_cons, known_all kn r h.2]
      rfl
    | _ => exact absurd h.1 (by simp [nameV, txtOf, nameO])
theorem step_odd {n : V} (h : txtOf n = none) (d : Option (List V)) (kn : List Str) : stepB (.pair n d) kn = none := by
  cases d with
  | none => rfl
  | some xs =>
    unfold stepB
    simp only [h]
theorem step_str (s : Str) (xs : List V) (kn : List Str) : stepB (.pair (.str s) (some xs)) kn = if (nameS s && deedL xs && !decide (s ∈ kn) && (namesL xs).all fun u => decide (u ∈ kn)) = true then some s else none := rfl
theorem step_name {n : V} (h : nameO (txtOf n) = false) (d : Option (List V)) (kn : List Str) : stepB (.pair n d) kn = none := by
  cases ht : txtOf n with
  | none => exact step_odd ht d kn
  | some s =>
    cases n <;> try (cases ht)
    cases d with
    | none => rfl
    | some xs =>
      have h' : nameS s = false := h
      rw [step_str, h']
      rfl
theorem Keys.nil : Keys [] [] := fun s => rfl
theorem Keys.put {kvs : List (Key × V)} {kn : List Str} (h : Keys kvs kn) (s : Str) (v : V) : Keys (putK kvs (.inr s) v) (kn ++ [s]) := fun u => by
  rw [valV_put]
  by_cases e : u = s
  · subst e
    rw [if_pos rfl]
    simp
  · rw [if_neg fun z => e (Sum.inr.inj z), h u, Bool.eq_iff_iff]
    simp [e]
section
variable {P : Program} {w : World} {K : PySem.W.Frag} {mg : Str → Option Value} {base : Heap}
def stepsN : List Str := ["value", "names", "name", "known", "pair", "deed", "used"]
theorem scS : FnScope stepsN ["value", "names"] (defScope sAreSteps) := ⟨rfl, rfl, rfl, by decide +kernel, rfl, by decide +kernel, by decide +kernel⟩
theorem ok_steps {f fL fT fN fD fDN : Addr} {fd fdL fdT fdN fdD fdDN : FuncData} (F : Fun K "are_steps" "are_steps" sAreSteps f fd)
    (FL : Fun K "is_list" "is_list" sIsList fL fdL) (GL : FnOk P w K mg base CX0 1 fL fdL ["value"] (spIsList K)) (bL : Binds K fdL ["value"] []) (gL : mg "is_list" = some (.ref fL))
    (FT : Fun K "is_tuple_of" "is_tuple_of" sTupleOf fT fdT) (GT : FnOk P w K mg base CX0 1 fT fdT ["value", "size"] (spTupleOf K)) (bT : Binds K fdT ["value", "size"] []) (gT : mg "is_tuple_of" = some (.ref fT))
    (FN : Fun K "is_name" "is_name" sIsName fN fdN) (GN : FnOk P w K mg base CX0 1 fN fdN ["value"] (spName K)) (bN : Binds K fdN ["value"] []) (gN : mg "is_name" = some (.ref fN))
    (FD : Fun K "is_deed" "is_deed" sIsDeed fD fdD) (GD : FnOk P w K mg base CX0 2 fD fdD ["value"] (spDeed K)) (bD : Binds K fdD ["value"] []) (gD : mg "is_deed" = some (.ref fD))
    (FDN : Fun K "deed_names" "deed_names" sDeedNames fDN fdDN) (GDN : FnOk P w K mg base CX0 1 fDN fdDN ["deed"] (spDN K)) (bDN : Binds K fdDN ["deed"] []) (gDN : mg "deed_names" = some (.ref fDN))
    (ma : mg "all" = none) : FnOk P w K mg base CX0 3 f fd ["value", "names"] (spSteps K) := by
  refine F.ok scS (fun vs H Q E h => ?_) (fun cdv A outer s H vs Q E hr h => ?_)
  · obtain ⟨x, o, nm, ns, rfl, _⟩ := h
    rfl
  · obtain ⟨x, o, nm, ns, rfl, hx, hns, hnl, q⟩ := h
    have hu := hu_of (hr.mono (Nat.zero_le _) : Room 0 _)
    have hr1 : Room 1 _ := hr.mono (by decide)
    refine ⟨_, pss_cons (ps_if (pt_not (pt_val (pe_call GL hr1 (by rfl) gL FL.kp bL .nil pass0 (pa_cons (pv 0) pa_nil)))) (pss_one (ps_ret pe_bl)) pss_nil)
      (pss_cons (ps_set (i := 3) scS.nd rfl (.inr rfl) (pe_dc (own := [("name", 2)]) (g := gName 2) (tt := tYes) rfl scS.nd (pi_seq (pv 1))
          (blkOk_by (own := [("name", 2)]) (N := stepsN) (sc := defScope sAreSteps) (by decide +kernel))
          (fun _ _ _ _ _ => pg_name (i := 2) scS.nd rfl (.inl rfl)) (fun _ _ _ _ _ => pts_nil) (fun _ _ _ _ _ => pv 2) (fun _ _ _ _ _ => pe_bl)))
      (pss_cons (ps_for PassesOwn.never rfl (pi_seq (pv 0)) (pg_name (i := 4) scS.nd rfl (.inl rfl))
        (pss_cons (ps_if (PW.pt (pw_or (pt_not (pt_val (pe_call GT hr1 (by rfl) gT FT.kp bT .nil pass0 (pa_cons (pv 4) (pa_cons pe_int pa_nil)))))
            (pw_or (pt_not (pt_val (pe_call GN hr1 (by rfl) gN FN.kp bN .nil pass0 (pa_cons (pe_ix ix_tup (pv 4) pe_int (fun _ _ => rfl)) pa_nil))))
            (pw_or1 (pt_not (pt_val (pe_call GD hr (by rfl) gD FD.kp bD .nil pass0 (pa_cons (pe_ix ix_tup (pv 4) pe_int (fun _ _ => rfl)) pa_nil)))))))) (pss_one (ps_ret pe_bl)) pss_nil)
        (pss_cons (ps_asg (pv 4) (pg_tup (by rfl) (pgs_cons (pg_name (i := 2) scS.nd rfl (.inl rfl)) (pgs_cons (pg_name (i := 5) scS.nd rfl (.inl rfl)) pgs_nil))))
        (pss_cons (ps_if (PW.pt (pw_or (pt_cmp (pc_din hu (pv 2) (pv 3)))
            (pw_or1 (pt_not (pt_val (pe_callB (cr_all rfl) (by rfl) ma (by decide +kernel) (pa_cons
              (pe_lc (own := [("used", 6)]) (g := gName 6) (tt := tYes) rfl scS.nd (pi_tup (pe_call GDN hr1 (by rfl) gDN FDN.kp bDN .nil pass0 (pa_cons (pv 5) pa_nil)))
                (blkOk_by (own := [("used", 6)]) (N := stepsN) (sc := defScope sAreSteps) (by decide +kernel))
                (fun _ _ _ _ _ => pg_name (i := 6) scS.nd rfl (.inl rfl)) (fun _ _ _ _ _ => pts_nil)
                (fun _ _ _ _ _ => pe_cmp (pc_din hu (pv 6) (pv 3)))) pa_nil))))))) (pss_one (ps_ret pe_bl)) pss_nil)
        (pss_one (ps_dput hu (pv 3) (pv 2) pe_bl rfl))))))
      (pss_one (ps_ret pe_bl)))), ?_⟩
    have q' : ∀ b H', goesO o ns = b → Same H H' → Q (.bl b) H' := fun b H' e sm => by
      subst e
      exact q H' sm
    rcases hx with ⟨p, ys, ds, rfl, hq, hl, hl2, hok, rfl⟩ | ⟨hn, rfl⟩
    · refine ⟨_, rfl, .ref p, some ys, rfl, .inl ⟨p, ys, rfl, hq, rfl⟩, fun H1 sm1 => ⟨_, rfl, iteF ?_⟩⟩
      refine ⟨_, rfl, nm, ns.map V.str, rfl, seq_of hns sm1 fun J G wk hG => fun D nD => ?_⟩
      have nD0 : H D = none := PySem.Spec.same_none sm1 nD
      refine dc_it wk (fun i H' => ∃ kvs, H' D = some (.dK kvs) ∧ Keys kvs (ns.take i) ∧ kvs.length ≤ i ∧ Same H H') ⟨[], upd_same, Keys.nil, Nat.le_refl _, same_put sm1 nD0⟩ (fun i H' _ ⟨_, _, _, _, sm⟩ => hG _ sm) ?_ ?_
      · rintro i x H2 H3 hi ⟨kvs, hD, hk, hkl, sm⟩ ⟨rfl, hx⟩
        obtain ⟨z, rfl, hz⟩ : ∃ z, x = V.str z ∧ ns[i]? = some z := by
          rw [List.getElem?_map] at hx
          cases e : ns[i]? with
          | none => rw [e] at hx; cases hx
          | some z => rw [e] at hx; exact ⟨z, (Option.some.inj hx).symm, rfl⟩
        rw [List.length_map] at hi
        refine ⟨rfl, _, rfl, kvs, .inr z, rfl, hD, small1000 (by omega), _, upd_same, ?_, Nat.le_trans (length_putK _ _ _) (by omega), same_put sm nD0⟩
        rw [List.take_succ, hz]
        exact hk.put z _
      · rintro H2 ⟨kvs0, hD0, hk0, hkl0, sm0⟩
        rw [List.length_map] at hk0 hkl0
        rw [List.take_length] at hk0
        -- the steps
        refine ⟨_, rfl, p, ys, rfl, seq_of hq sm0 fun J G wk hG => for_it wk (fun i σ H' => ∃ (y2 y4 y5 y6 : Option V) (kvs : List (Key × V)) (kn : List Str), σ = [some (.ref p), some (.ref nm), y2, some (.ref D), y4, y5, y6] ∧ H' D = some (.dK kvs) ∧ Keys kvs kn ∧ kvs.length ≤ 500 + i ∧ Same H H' ∧ goesB ds ns = goesB (ds.drop i) kn)
          ⟨none, none, none, none, kvs0, ns, rfl, hD0, hk0, by omega, sm0, rfl⟩ (fun i σ H' _ ⟨_, _, _, _, _, _, _, _, _, _, sm, _⟩ => hG _ sm) ?_ ?_⟩
        · rintro i y σ H3o H3 hi ⟨y2, y4, y5, y6, kvs, kn, rfl, hD, hk, hkl, sm, hg⟩ ⟨rfl, hy⟩
          have hid : i < ds.length := by omega
          have hd : ds[i]? = some ds[i] := List.getElem?_eq_getElem hid
          have hdr : ds.drop i = ds[i] :: ds.drop (i + 1) := List.drop_eq_getElem_cons hid
          have sd := (hok i y _ hy hd).same sm
          rw [hdr] at hg
          have no : stepB ds[i] kn = none → goesO (some ds) ns = false := fun z => by
            show goesB ds ns = false
            rw [hg]
            unfold goesB
            rw [z]
          generalize ds[i] = d0 at sd hg no
          have ret : stepB d0 kn = none → ∀ H', Same H H' → Q (.bl false) H' := fun z H' sm' => q' _ _ (no z) sm'
          cases d0 with
          | bad =>
            rcases sd with h | ⟨yp, xs, rfl, h, h2⟩
            · exact ⟨_, rfl, y, 2, false, rfl, .inr ⟨h, rfl⟩, _, rfl, iteT (ret rfl _ sm)⟩
            · exact ⟨_, rfl, .ref yp, 2, false, rfl, .inl ⟨yp, xs, rfl, h, (decide_eq_false h2).symm⟩, _, rfl, iteT (ret rfl _ sm)⟩
          | pair n d =>
            obtain ⟨yp, z, rfl, h, ha, dd⟩ := sd
            refine ⟨_, rfl, .ref yp, 2, true, rfl, .inl ⟨yp, _, rfl, h, rfl⟩, _, rfl, iteF ?_⟩
            refine ⟨_, rfl, yp, _, 0, n, rfl, rfl, h, atI_nat (j := 0) rfl, n, txtOf n, rfl, tx_atom ha, fun H4 sm4 => ⟨_, rfl, ?_⟩⟩
            cases hn : nameO (txtOf n) with
            | false =>
              exact iteT (ret (step_name hn d kn) _ (sm.trans sm4))
            | true =>
              obtain ⟨s, rfl⟩ : ∃ s, n = .str s := by
                cases n with
                | str s => exact ⟨s, rfl⟩
                | _ => cases hn
              have hns' : nameS s = true := hn
              refine iteF ?_
              have h4 := sqT_same h sm4
              refine ⟨_, rfl, yp, _, 1, z, rfl, rfl, h4, atI_nat (j := 1) rfl, z, d, rfl, dd.same sm4, fun H5 sm5 => ⟨_, rfl, ?_⟩⟩
              have h5 := sqT_same h4 sm5
              have S5 : Same H3 H5 := sm4.trans sm5
              cases hdd : deedO d with
              | false =>
                refine iteT (ret ?_ _ (sm.trans S5))
                cases d with
                | none => rfl
                | some xs =>
                  have hdl : deedL xs = false := hdd
                  rw [step_str, hdl]
                  simp
              | true =>
                refine iteF ?_
                cases d with
                | none => cases hdd
                | some xs =>
                  have hdl : deedL xs = true := hdd
                  rcases dd with ⟨zp, xs', rfl, hz, hat, hlen, e⟩ | ⟨_, e⟩
                  · cases e
                    obtain ⟨w0, r, k, rfl, hf, hall⟩ := deed_shape hdl
                    have hz5 := sqT_same hz S5
                    have hD5 := S5 _ _ hD
                    have g5 : DGet H5 D (.str s) (valV kvs (.inr s)) := DGet.k (k := (.inr s : Key)) hD5
                    refine ⟨_, rfl, yp, _, rfl, h5, rfl, _, _, rfl, _, _, rfl, rfl, ?_⟩
                    refine ⟨_, rfl, _, rfl, D, _, rfl, g5, _, rfl, ?_⟩
                    rw [hk s]
                    by_cases hsk : s ∈ kn
                    · refine iteT2 (decide_eq_true hsk) (ret ?_ _ (sm.trans S5))
                      rw [step_str]
                      simp [hsk]
                    · refine iteF2 (decide_eq_false hsk) ?_
                      refine ⟨_, rfl, zp, w0, r, k, rfl, hz5, hf, fun sp nsp => ⟨sp, rfl, ⟨_, .inl (.inl upd_same)⟩, fun D2 nD2 => ?_⟩⟩
                      have S6 : Same H5 (upd H5 sp (.tup (r.take k))) := same_upd nsp
                      refine lc_it (walk_tup (K := K) (a := sp) (xs := r.take k)) (fun i H1 => ∃ bs : List Bool, H1 D2 = some (.lst (bs.map V.bl)) ∧ bs = ((r.take k).take i).map (knownV kn) ∧ Same (upd H5 sp (.tup (r.take k))) H1) ⟨[], upd_same, rfl, same_upd nD2⟩ ?_ ?_ ?_
                      · rintro i H1 _ ⟨bs, _, _, sm⟩
                        exact .inl (.inl (sm _ _ upd_same))
                      · rintro i x H6 H7 hi ⟨bs, hD2, hbs, sm6⟩ ⟨rfl, hx⟩
                        have hxn : nameV x = true := List.all_eq_true.mp hall x (List.mem_of_getElem? hx)
                        obtain ⟨u, rfl⟩ : ∃ u, x = .str u := by
                          cases x with
                          | str u => exact ⟨u, rfl⟩
                          | _ => cases hxn
                        have g6 : DGet H7 D (.str u) (valV kvs (.inr u)) := DGet.k (k := (.inr u : Key)) (sm6 _ _ (S6 _ _ hD5))
                        refine ⟨rfl, _, rfl, _, rfl, D, _, rfl, g6, ?_⟩
                        rw [hk u]
                        refine ⟨_, hD2, ?_, bs ++ [knownV kn (.str u)], by rw [upd_same, List.map_append]; rfl, ?_, same_put sm6 nD2⟩
                        · have hk5 := (formOf_small hf).2
                          rw [List.length_map, hbs, List.length_map, List.length_take, List.length_take]
                          exact small1000 (by omega)
                        · rw [List.take_succ, List.map_append, hx, hbs]
                          rfl
                      · rintro H6 ⟨bs, hD2, hbs, sm6⟩
                        rw [List.take_length] at hbs
                        have S7 : Same H H6 := sm.trans (S5.trans (S6.trans sm6))
                        refine ⟨D2, bs, rfl, .inl (.inl hD2), _, rfl, ?_⟩
                        have eall : bs.all id = (namesL (.str w0 :: r)).all fun u => decide (u ∈ kn) := by
                          rw [hbs, names_is hf, List.all_map]
                          exact known_all kn _ hall
                        rw [eall]
                        cases e : (namesL (.str w0 :: r)).all fun u => decide (u ∈ kn) with
                        | false =>
                          refine iteT (ret ?_ _ S7)
                          rw [step_str, e]
                          simp
                        | true =>
                          refine iteF ?_
                          have hD7 : H6 D = some (.dK kvs) := sm6 _ _ (S6 _ _ hD5)
                          refine ⟨_, rfl, _, rfl, D, _, rfl, DPut.k (k := (.inr s : Key)) hD7 (small1000 (by omega)), ?_⟩
                          have st : stepB (.pair (.str s) (some (.str w0 :: r))) kn = some s := by
                            rw [step_str, e]
                            simp [hns', hdl, hsk]
                          refine ⟨_, _, _, _, _, kn ++ [s], rfl, upd_same, hk.put s _, Nat.le_trans (length_putK _ _ _) (by omega), same_put S7 nD0, ?_⟩
                          rw [hg]
                          show goesB (_ :: _) kn = _
                          conv => lhs; unfold goesB
                          rw [st]
                  · cases e
        · rintro σ H3 ⟨y2, y4, y5, y6, kvs, kn, rfl, hD, hk, hkl, sm, hg⟩
          refine q' _ _ ?_ sm
          show goesB ds ns = true
          rw [hg, hl, List.drop_length]
          rfl
    · exact ⟨_, rfl, x, none, rfl, .inr ⟨hn, rfl⟩, fun H1 sm1 => ⟨_, rfl, iteT (q' _ _ rfl sm1)⟩⟩
end
end Z4

set_option Elab.async false
set_option linter.all false
set_option maxRecDepth 100000
set_option maxHeartbeats 2000000
/-! enumerate over a tuple, or over a list or a tuple. -/
namespace ZE
open PySem PySem.Spec PyProof.Rows L2 Cau Dr14 Z1 Z2 Z3 Z4
section
set_option maxHeartbeats 1000000
theorem meets_enum1 {v : Value} {o : Obj} {Hs : Heap → Prop} (B : Begins v o Hs) :
    Meets (Builtin.«enumerate.__new__» ⟨[.type "enumerate", v], []⟩) (fun _ R s => Hs s.heap ∧ R (.ok (.ret (.ref (s.heap.push o).objs.size)))
      { s with heap := (s.heap.push o).push { cls := .type "enumerate", data := .fields #[.none, .bool false, .ref s.heap.objs.size, rawInt 0, .none, .none] } }) := by
  refine .of_wp fun prog w A R s h => ?_
  obtain ⟨hp, gs, dr, tk, os⟩ := s
  obtain ⟨h1, h⟩ := h
  have hsub := sub_enumerate
  have walkq : ∀ {A2 : Around} {E2 : Value → Shared → Prop} {Q2 : Value → Shared → Prop}, Q2 (.ref hp.objs.size) ⟨hp.push o, gs, dr, tk, os⟩ → wpAny (model prog w) A2 (pyIter v) Q2 E2 ⟨hp, gs, dr, tk, os⟩ :=
    fun q => B.iter prog w _ _ ⟨hp, gs, dr, tk, os⟩ _ h1 q
  wp_walk using walkq
  refine wpAny_stack_any fun st => wpAny_pure ?_
  split
  · rename_i c _ _ _ _ _
    cases (c == Value.type "enumerate") <;> (wp_walk using walkq; exact ⟨_, rfl, h⟩)
  · wp_walk using walkq
    exact ⟨_, rfl, h⟩
end
section
variable {prog : Program} {w : World} {A : Around} {E : Value → Shared → Prop} {s : Shared}
theorem call_enumT {l : Addr} {items : Array Value} {Q : Value → Shared → Prop} (hL : s.heap.IsTuple l items)
    (h : ∀ h', IsEnum h' (s.heap.objs.size + 1) s.heap.objs.size 0 .none → h'.IsTupleIter s.heap.objs.size l 0 → h'.objs.size = s.heap.objs.size + 2 →
      (∀ b u, s.heap.get? b = some u → h'.get? b = some u) → Q (.ref (s.heap.objs.size + 1)) { s with heap := h' }) :
    wpAny (model prog w) A (call (.type "enumerate") [.ref l]) Q E s := by
  refine callType_new F.called_enumerate (by decide) (F.typeCall_enumerate_1 _) (F.newCall_enumerate_1 _) (fun obj => F.args_object_init_2 obj _) F.entry_enumerate_new (meets_enum1 (begins_tuple l items)) ⟨hL, ?_⟩
  obtain ⟨oi, hoi⟩ : ∃ oi : Obj, oi = { cls := .type "tuple_iterator", data := .fields #[.ref l, .int 0 0] } := ⟨_, rfl⟩
  rw [← hoi]
  have fz : oi.isFreed = false := by rw [hoi]; rfl
  have hz : (s.heap.push oi).objs.size = s.heap.objs.size + 1 := Heap.size_push ..
  show _ ∧ _
  rw [hz]
  have he : IsEnum ((s.heap.push oi).push { cls := .type "enumerate", data := .fields #[.none, .bool false, .ref s.heap.objs.size, rawInt 0, .none, .none] }) (s.heap.objs.size + 1) s.heap.objs.size 0 .none := by
    have z := Heap.get?_push_size (s.heap.push oi) (o := { cls := .type "enumerate", data := .fields #[.none, .bool false, .ref s.heap.objs.size, rawInt 0, .none, .none] }) rfl
    rwa [hz] at z
  exact ⟨⟨_, he, rfl⟩, h _ he ⟨oi, Heap.get?_push_of_some _ (Heap.get?_push_size _ fz), by rw [hoi], by rw [hoi] <;> rfl⟩ (by rw [Heap.size_push, hz]) fun b u x => Heap.get?_push_of_some _ (Heap.get?_push_of_some _ x)⟩
end
/-- the tuple at a as it stands at each turn, each item in a new pair -/
def ItT (K : PySem.W.Frag) (a : Addr) : It :=
  ⟨fun i H => ∃ (xs : List V) (x : V), SqT K H a xs ∧ xs[i]? = some x, fun i H v H' => ∃ T x, v = .ref T ∧ H T = none ∧ H' = upd H T (.tup [.int (i : Nat), x]) ∧ ∀ xs, SqT K H a xs → xs[i]? = some x, fun i H => ∃ xs : List V, SqT K H a xs ∧ xs.length = i⟩
theorem turn_enumT {P : Program} {w : World} {K : PySem.W.Frag} {elts : List Expr} {kk : Nat} {tpos : Pos} (a e it : Addr) :
    Turn P w K (.Tuple elts kk tpos) (ItT K a) [e, it] e (fun i h => (∃ old, IsEnum h e it ((i : Nat) : Int) old) ∧ h.IsTupleIter it a i ∧ e ≠ it ∧ a ≠ it ∧ e ≠ a) where
  mem := List.mem_cons_self ..
  obj := fun i h st b hb => by
    obtain ⟨⟨old, he⟩, ⟨o, ho, hc, hd⟩, _⟩ := st
    rcases List.mem_cons.mp hb with z | z
    · subst z
      exact ⟨_, he, fun v q => nomatch q⟩
    · rw [List.mem_singleton] at z
      subst z
      exact ⟨o, ho, fun v q => by rw [hd] at q; cases q⟩
  keep := fun i h h' st k => let ⟨⟨old, he⟩, hi, hne⟩ := st; ⟨⟨old, k e (List.mem_cons_self ..) _ he⟩, hi.at fun o q => k it (by simp) o q, hne⟩
  item := by
    intro X hP hw hK hc i pins s σ H E I hf st hg
    subst hP hw hK
    obtain ⟨⟨old, he⟩, hit, hne, hai, hea⟩ := st
    obtain ⟨xs, x, hq, hx⟩ := hg
    obtain ⟨its, rv, p, hz⟩ := I.tuple hq
    obtain ⟨u, hu, ru⟩ := rv.get hx
    have lt1 : e < s.heap.objs.size := Heap.lt_size he
    have lt2 : it < s.heap.objs.size := hit.elim fun _ z => Heap.lt_size z.1
    have hp : s.heap.IsTuple a its.toArray := p
    have hi : i < its.toArray.size := by
      have := (List.getElem?_eq_some_iff.mp hu).1
      simpa using this
    refine wpAny_pyNext_enum_itemD (Draws.tuple (A := X.A.in1) (I.ok.hd hc) it a hai its.toArray) he ⟨hit, hp⟩ hi hne (by simp [hne, hea]) fun y h' tk hy ho hst hT hsz hk => ?_
    obtain ⟨hit', hp'⟩ := hst
    have eu : y = u := by
      have hy : its.toArray[i]? = some y := hy
      have hu' : its.toArray[i]? = some u := by simpa using hu
      rw [hu'] at hy
      exact (Option.some.inj hy).symm
    subst eu
    refine ⟨_, rfl, wpAny_letOwnedTupleGo_enum (s := { s with heap := h', toks := tk + 1 }) ho fun h'' he' sb => ?_⟩
    have hT2 : h''.get? s.heap.objs.size = some { cls := .type "tuple", data := .seq #[.int i tk, y] } := (sb.2 _ (Nat.ne_of_gt lt1)).trans hT
    have new : ObjOk X.prog X.w (upd H s.heap.objs.size (.tup [.int (i : Nat), x])) h'' s.heap.objs.size (.tup [.int (i : Nat), x]) :=
      ⟨by show 2 ≤ sizeLine; decide, [.int i tk, y], .cons ⟨_, rfl⟩ (.cons ru .nil), _, hT2, rfl, _, rfl⟩
    have I1 : Inv X pins σ (upd H s.heap.objs.size (.tup [.int (i : Nat), x])) { s with heap := h'', toks := tk + 1 } :=
      I.turnedNew (ch := [e, it]) (fun b ob hb q => (sb.2 b (fun z => hb (by simp [z]))).trans (hk b ob (fun z => hb (by simp [z])) (fun z => hb (by simp [z])) q)) hf (Nat.le_refl _) new
    refine ⟨.ref s.heap.objs.size, _, I1, rfl, ⟨_, x, rfl, I.hok.fresh (Nat.le_refl _), rfl, fun ys hy => by rw [I.tuple_inj hy hq]; exact hx⟩, ⟨⟨y, ?_⟩, hit'.at fun o q => (sb.2 it (Ne.symm hne)).trans q, hne, hai, hea⟩, fun b hb => ?_⟩
    · have e1 : ((i + 1 : Nat) : Int) = (i : Int) + 1 := by omega
      rw [e1]
      exact he'
    · have hb' : b < s.heap.objs.size := by
        rcases List.mem_cons.mp hb with z | z
        · rw [z]; exact lt1
        · rw [List.mem_singleton.mp z]; exact lt2
      rw [upd_ne (Nat.ne_of_lt hb')]
      exact (hf b hb).1
  done := by
    intro X hP hw hK hc i pins s σ H E I hf st hg
    subst hP hw hK
    obtain ⟨⟨old, he⟩, hit, hne, hai, hea⟩ := st
    obtain ⟨xs, hq, hx⟩ := hg
    obtain ⟨its, rv, p, hz⟩ := I.tuple hq
    obtain ⟨f0, f1, f2, f3, f4, f5⟩ := hf it (by simp)
    have hp : s.heap.IsTuple a its.toArray := p
    have en : i = its.toArray.size := by
      have := rv.length
      simp
      omega
    subst en
    exact wpAny_pyNext_enum_endD (Draws.tuple (A := X.A.in1) (I.ok.hd hc) it a hai its.toArray) he ⟨hit, hp⟩ fun h' eb => ⟨rfl, I.turned (t' := s.toks) (fun b o hb q => eb b o hb q) f0 f1 f3 f4 f5⟩
  self := fun A i s Q E st h => let ⟨⟨_, he⟩, _⟩ := st; wpAny_pyIter_enum he h
/-- over a list or a tuple -/
def EnAt (K : PySem.W.Frag) (a : Addr) (xs : List V) (R : It → Hp → Prop) (H1 : Hp) : Prop := (SqL K H1 a xs ∧ R (Ite K a) H1) ∨ (SqT K H1 a xs ∧ R (ItT K a) H1)
def iEn (K : PySem.W.Frag) (ta : TA) : TI := fun σ H R => ta σ H fun vs H1 => ∃ a xs, vs = [.ref a] ∧ EnAt K a xs R H1
theorem pi_en {X : Cx} {e : Expr} {ta : TA} {p pos tpos : Pos} {elts : List Expr} {kk : Nat} (hg : Gl X "enumerate") (hm : X.mg "enumerate" = none) (ha : PA X [e] ta) (hs : starEach [e] X.env = [(false, eval e X.env)] := by rfl) :
    PI X (.Tuple elts kk tpos) (.Call (.Name "enumerate" p) [e] [] pos) (iEn X.K ta) := by
  constructor
  intro pins s σ H R I h
  refine Call_ (ld_blt I hg hm boot_enumerate (PyProof.Rows.callWith_type1 (thn (ha.run pos pins s σ H _ I h) fun us s1 q1 => ?_) hs rfl))
  obtain ⟨vs, H1, I1, r1, a, xs, ex, q⟩ := q1
  subst ex
  obtain ⟨u, eu, ru⟩ := r1.one
  subst eu
  obtain rfl : u = Value.ref a := ru
  have apart : ∀ b, b = s1.heap.objs.size + 1 ∨ b = s1.heap.objs.size → s1.heap.objs.size ≤ b := by
    intro b hb
    rcases hb with z | z <;> omega
  rcases q with ⟨hq, q⟩ | ⟨hq, q⟩
  · obtain ⟨its, rv, p', hz⟩ := I1.list hq
    refine call_enumerate_list p'.isList fun h' he hit hsz hk => wpAny_pyIter_enum he ?_
    refine ⟨s1.heap.objs.size + 1, [s1.heap.objs.size + 1, s1.heap.objs.size], _, _, H1, rfl, I1.kept (t' := s1.toks) hk, turn_enum a (s1.heap.objs.size + 1) s1.heap.objs.size, ⟨⟨.none, he⟩, hit, Nat.succ_ne_self _⟩, fun b hb => ?_, q⟩
    have hle := apart b (by simpa using hb)
    exact I1.fpOk hle (I1.hok.fresh hle)
  · obtain ⟨its, rv, p', hz⟩ := I1.tuple hq
    have hp : s1.heap.IsTuple a its.toArray := p'
    have lt : a < s1.heap.objs.size := hp.elim fun _ z => Heap.lt_size z.1
    refine call_enumT hp fun h' he hit hsz hk => wpAny_pyIter_enum he ?_
    refine ⟨s1.heap.objs.size + 1, [s1.heap.objs.size + 1, s1.heap.objs.size], _, _, H1, rfl, I1.kept (t' := s1.toks) hk, turn_enumT a (s1.heap.objs.size + 1) s1.heap.objs.size, ⟨⟨.none, he⟩, hit, Nat.succ_ne_self _, Nat.ne_of_lt lt, Nat.ne_of_gt (Nat.lt_succ_of_lt lt)⟩, fun b hb => ?_, q⟩
    have hle := apart b (by simpa using hb)
    exact I1.fpOk hle (I1.hok.fresh hle)
theorem walk_enT {K : PySem.W.Frag} {a : Addr} {xs : List V} : Walk (ItT K a) xs.length (fun H => SqT K H a xs) (YPair (fun i => some (.int (i : Nat))) (fun i => xs[i]?)) := by
  refine ⟨fun i _ hi q => ⟨xs, xs[i], q, List.getElem?_eq_getElem hi⟩, fun _ q => ⟨xs, q, rfl⟩, fun i H v H' _ q y => ?_⟩
  obtain ⟨T, x, h1, h2, h3, h4⟩ := y
  exact ⟨T, .int (i : Nat), x, h1, h2, h3, rfl, h4 xs q⟩
theorem en_of {K : PySem.W.Frag} {a : Addr} {xs : List V} {R : It → Hp → Prop} {H0 H1 : Hp} (h : SqX K H0 a xs) (s : Same H0 H1) (q : ∀ (J : It) (G : Hp → Prop), Walk J xs.length G (YPair (fun i => some (.int (i : Nat))) (fun i => xs[i]?)) → (∀ H', Same H0 H' → G H') → R J H1) : EnAt K a xs R H1 := by
  rcases h with h | h
  · exact .inl ⟨s.seq h, q _ _ walk_enum fun H' s' => s'.seq h⟩
  · exact .inr ⟨sqT_same h s, q _ _ walk_enT fun H' s' => sqT_same h s'⟩
end ZE

set_option Elab.async false
set_option linter.all false
set_option maxRecDepth 100000
set_option maxHeartbeats 2000000
/-! The five points of the sheet: what is made, over no row. -/
namespace Z5
open PySem PySem.Spec PyProof.Rows L2 Cau Dr14 Z1 Z2 Z3 Z4
abbrev sBasisI : Stmt := inClass (topS 43) 0
abbrev sTowerI : Stmt := inClass (topS 68) 0
abbrev sNumI : Stmt := inClass (topS 72) 0
abbrev sIsFr : Stmt := topS 18
abbrev sAreFr : Stmt := topS 19
abbrev sBare : Stmt := topS 44
abbrev sSettled : Stmt := topS 45
abbrev sValOf : Stmt := topS 46
abbrev sParOf : Stmt := topS 47
abbrev sBasOf : Stmt := topS 50
abbrev sIsNum : Stmt := topS 73
abbrev sNumOn : Stmt := topS 74
abbrev sFrac : Stmt := topS 76
/-! ### what is never reached -/
def tNot : TS := fun _ _ _ => False
theorem ps_not {X : Cx} {st : Stmt} : PS X st tNot := ⟨fun _ _ _ _ _ _ h => h.elim⟩
theorem pss_not {X : Cx} {st : List Stmt} : PSs X st tNot := ⟨fun _ _ _ _ _ _ h => h.elim⟩
/-! ### classes and their objects -/
structure InsC (K : PySem.W.Frag) (C : Addr) : Prop where
  cl : Cls K C
  ca : PySem.W.findIn K (.ref C) "__class__" = some (some (.builtin "object.__class__"))
  hn : PySem.W.specialIn K (.builtin "object.__class__") "__get__" = some (some (.builtin "getset_descriptor.__get__"))
  tk : PySem.W.takesIn K (.builtin "object.__class__") = some true
  mr : PySem.W.mroIn K C (.type "object") = some true
  self : PySem.W.kitOne K (.ref C) (.ref C) = some true
theorem InsC.ty {K : PySem.W.Frag} {C : Addr} (c : InsC K C) {H : Hp} {p dx : Addr} {fs : List (Str × V)} (h : H p = some (.ins C dx fs)) : TyX K H (.ref p) (.ref C) := .base (.ins h c.cl c.ca c.hn c.tk c.mr)
def bF (a b c d : V) : List (Str × V) := [("squares", a), ("rows", b), ("weights", c), ("near", d), ("bare", .non)]
def tF (a b : V) : List (Str × V) := [("squares", a), ("basis", b)]
def nF (a b c : V) : List (Str × V) := [("tower", a), ("parts", b), ("value", c)]
/-- the basis without rows -/
def BasAt (K : PySem.W.Frag) (CB : Addr) (H : Hp) (p : Addr) : Prop := ∃ (dx sq wt : Addr) (b d : V), H p = some (.ins CB dx (bF (.ref sq) b (.ref wt) d)) ∧ SqT K H wt [.int 1]
def TowAt (K : PySem.W.Frag) (CB CT : Addr) (H : Hp) (p : Addr) : Prop := ∃ (dx q : Addr) (a : V), H p = some (.ins CT dx (tF a (.ref q))) ∧ BasAt K CB H q
def NumAt (CN : Addr) (H : Hp) (p : Addr) : Prop := ∃ (dx : Addr) (fs : List (Str × V)), H p = some (.ins CN dx fs)
theorem BasAt.same {K : PySem.W.Frag} {CB p : Addr} {H H' : Hp} (h : BasAt K CB H p) (s : Same H H') : BasAt K CB H' p := by
  obtain ⟨dx, sq, wt, b, d, h1, h2⟩ := h
  exact ⟨dx, sq, wt, b, d, s _ _ h1, sqT_same h2 s⟩
theorem TowAt.same {K : PySem.W.Frag} {CB CT p : Addr} {H H' : Hp} (h : TowAt K CB CT H p) (s : Same H H') : TowAt K CB CT H' p := by
  obtain ⟨dx, q, a, h1, h2⟩ := h
  exact ⟨dx, q, a, s _ _ h1, h2.same s⟩
theorem NumAt.same {CN p : Addr} {H H' : Hp} (h : NumAt CN H p) (s : Same H H') : NumAt CN H' p := by
  obtain ⟨dx, fs, h1⟩ := h
  exact ⟨dx, fs, s _ _ h1⟩
/-- a value's pair: one whole and a whole -/
def PairAt (K : PySem.W.Frag) (H : Hp) (v : V) (n d : Int) : Prop := ∃ p q : Addr, v = .ref p ∧ SqT K H p [.ref q, .int d] ∧ SqT K H q [.int n]
theorem PairAt.same {K : PySem.W.Frag} {H H' : Hp} {v : V} {n d : Int} (h : PairAt K H v n d) (s : Same H H') : PairAt K H' v n d := by
  obtain ⟨p, q, e, h1, h2⟩ := h
  exact ⟨p, q, e, sqT_same h1 s, sqT_same h2 s⟩
/-- one part: a tuple with a tuple of two wholes -/
def PartAt (K : PySem.W.Frag) (H : Hp) (v : V) (n d : Int) : Prop := ∃ p q : Addr, v = .ref p ∧ SqT K H p [.ref q] ∧ SqT K H q [.int n, .int d]
theorem PartAt.same {K : PySem.W.Frag} {H H' : Hp} {v : V} {n d : Int} (h : PartAt K H v n d) (s : Same H H') : PartAt K H' v n d := by
  obtain ⟨p, q, e, h1, h2⟩ := h
  exact ⟨p, q, e, sqT_same h1 s, sqT_same h2 s⟩
/-- made: a new object, its own dict beside it -/
theorem same_made {H : Hp} {x dx : Addr} {o1 o2 : HO} (hx : H x = none) (hd : H dx = none) : Same H (upd (upd H dx o1) x o2) := fun b o e => by
  rw [upd_ne (ne_of_none e hx), upd_ne (ne_of_none e hd)]
  exact e
/-! ### the wholes of the sheet -/
def sheetW (n : Int) : Prop := n = 0 ∨ n = 1 ∨ n = 2
theorem sheetW.atom {n : Int} (h : sheetW n) : ItV H (.int n) := .atom (by rcases h with rfl | rfl | rfl <;> decide)
theorem lt_puts {f : Str} {v : V} {fs : List (Str × V)} {n : Nat} (h : fs.length ≤ n) : (putF f v fs).length ≤ n + 1 := Nat.le_trans (length_putF f v fs) (Nat.succ_le_succ h)
def spBasisI (CB : Addr) : Sp := fun vs H Q _ => ∃ (p dx : Addr) (a b c d : V), vs = [.ref p, a, b, c, d] ∧ H p = some (.ins CB dx []) ∧ ∀ H', H' p = some (.ins CB dx (bF a b c d)) → (∀ q o, H q = some o → q ≠ p → H' q = some o) → Q .non H'
def spBare (K : PySem.W.Frag) (CB : Addr) : Sp := fun vs H Q _ => vs = [] ∧ ∀ H' p, Same H H' → H p = none → BasAt K CB H' p → Q (.ref p) H'
def spBasOf (K : PySem.W.Frag) (CB : Addr) : Sp := fun vs H Q _ => ∃ sq : Addr, vs = [.ref sq] ∧ SqT K H sq [] ∧ ∀ H' p, Same H H' → H p = none → BasAt K CB H' p → Q (.ref p) H'
def spTowerI (K : PySem.W.Frag) (CB CT : Addr) : Sp := fun vs H Q _ => ∃ (p dx sq : Addr), vs = [.ref p, .ref sq] ∧ H p = some (.ins CT dx []) ∧ SqT K H sq [] ∧ ∀ H', TowAt K CB CT H' p → (∀ q o, H q = some o → q ≠ p → H' q = some o) → Q .non H'
def spSettled (K : PySem.W.Frag) : Sp := fun vs H Q _ => ∃ (q : Addr) (n : Int), vs = [.ref q, .int 1] ∧ SqT K H q [.int n] ∧ ∀ H' v, Same H H' → PairAt K H' v n 1 → Q v H'
def spValOf (K : PySem.W.Frag) : Sp := fun vs H Q _ => ∃ (b v : V) (n d : Int), vs = [b, v] ∧ PartAt K H v n d ∧ ∀ H' v, Same H H' → PairAt K H' v n d → Q v H'
def spParOf (K : PySem.W.Frag) : Sp := fun vs H Q _ => ∃ (b v : V) (n d : Int), vs = [b, v] ∧ PairAt K H v n d ∧ ∀ H' v, Same H H' → PartAt K H' v n d → Q v H'
def spIsFr (K : PySem.W.Frag) : Sp := fun vs H Q _ => ∃ (q : Addr) (n : Int), vs = [.ref q] ∧ SqT K H q [.int n, .int 1] ∧ sheetW n ∧ Q (.bl true) H
def spAreFr (K : PySem.W.Frag) : Sp := fun vs H Q _ => ∃ (v : V) (n : Int), vs = [v, .int 1] ∧ PartAt K H v n 1 ∧ sheetW n ∧ Q (.bl true) H
def spNumI (K : PySem.W.Frag) (CB CT CN : Addr) : Sp := fun vs H Q _ => ∃ (p dx t : Addr) (v : V) (n : Int), vs = [.ref p, .ref t, v] ∧ H p = some (.ins CN dx []) ∧ TowAt K CB CT H t ∧ t ≠ p ∧ PartAt K H v n 1 ∧ sheetW n ∧ ∀ H', NumAt CN H' p → (∀ q o, H q = some o → q ≠ p → H' q = some o) → Q .non H'
def spNumOn (K : PySem.W.Frag) (CB CT CN : Addr) : Sp := fun vs H Q _ => ∃ (t : Addr) (v : V) (n : Int), vs = [.ref t, v] ∧ TowAt K CB CT H t ∧ PairAt K H v n 1 ∧ sheetW n ∧ ∀ H' p, Same H H' → NumAt CN H' p → Q (.ref p) H'
def spFrac (CN : Addr) : Sp := fun vs H Q _ => ∃ n : Int, vs = [.int n, .int 1] ∧ sheetW n ∧ ∀ H' p, Same H H' → NumAt CN H' p → Q (.ref p) H'
def spIsNum (K : PySem.W.Frag) (CN : Addr) : Sp := fun vs H Q _ => ∃ (x : V) (b : Bool) (t : Value), vs = [x] ∧ TyX K H x t ∧ PySem.W.kitOne K t (.ref CN) = some b ∧ Q (.bl b) H
section
variable {P : Program} {w : World} {K : PySem.W.Frag} {mg : Str → Option Value} {base : Heap} {CB CT CN : Addr}
theorem scBI : FnScope ["self", "squares", "rows", "weights", "near"] ["self", "squares", "rows", "weights", "near"] (defScope sBasisI) := ⟨rfl, rfl, rfl, by decide +kernel, rfl, by decide +kernel, by decide +kernel⟩
structure BasT (K : PySem.W.Frag) (C : Addr) : Prop where
  i : InsC K C
  n1 : NoAttr K C "squares"
  n2 : NoAttr K C "rows"
  n3 : NoAttr K C "weights"
  n4 : NoAttr K C "near"
  n5 : NoAttr K C "bare"
theorem ok_basisI {f : Addr} {fd : FuncData} (F : Fun K "__init__" "Basis.__init__" sBasisI f fd) (T : BasT K CB) : FnOk P w K mg base CX0 1 f fd ["self", "squares", "rows", "weights", "near"] (spBasisI CB) := by
  refine F.ok scBI (fun vs H Q E h => ?_) (fun cdv A outer s H vs Q E hr h => ?_)
  · obtain ⟨p, dx, a, b, c, d, rfl, _⟩ := h
    rfl
  · obtain ⟨p, dx, a, b, c, d, rfl, hp, q⟩ := h
    refine ⟨_, pss_cons (ps_fld (pv 0) (pv 1) rfl) (pss_cons (ps_fld (pv 0) (pv 2) rfl) (pss_cons (ps_fld (pv 0) (pv 3) rfl) (pss_cons (ps_fld (pv 0) (pv 4) rfl) (pss_one (ps_fld (pv 0) pe_non rfl))))), ?_⟩
    refine ⟨_, rfl, _, rfl, p, CB, dx, [], rfl, hp, T.i.cl, T.n1, by decide, ?_⟩
    refine ⟨_, rfl, _, rfl, p, CB, dx, _, rfl, upd_same, T.i.cl, T.n2, Nat.lt_of_le_of_lt (lt_puts (show ([] : List (Str × V)).length ≤ 0 from Nat.le_refl 0)) (by decide), ?_⟩
    refine ⟨_, rfl, _, rfl, p, CB, dx, _, rfl, upd_same, T.i.cl, T.n3, Nat.lt_of_le_of_lt (lt_puts (lt_puts (show ([] : List (Str × V)).length ≤ 0 from Nat.le_refl 0))) (by decide), ?_⟩
    refine ⟨_, rfl, _, rfl, p, CB, dx, _, rfl, upd_same, T.i.cl, T.n4, Nat.lt_of_le_of_lt (lt_puts (lt_puts (lt_puts (show ([] : List (Str × V)).length ≤ 0 from Nat.le_refl 0)))) (by decide), ?_⟩
    refine ⟨_, rfl, p, CB, dx, _, rfl, upd_same, T.i.cl, T.n5, Nat.lt_of_le_of_lt (lt_puts (lt_puts (lt_puts (lt_puts (show ([] : List (Str × V)).length ≤ 0 from Nat.le_refl 0))))) (by decide), ?_⟩
    refine q _ (upd_same.trans ?_) fun b o e hb => by
      rw [upd_ne hb, upd_ne hb, upd_ne hb, upd_ne hb, upd_ne hb]
      exact e
    with_unfolding_all rfl
theorem scBa : FnScope [] [] (defScope sBare) := ⟨rfl, rfl, rfl, by decide +kernel, rfl, by decide +kernel, by decide +kernel⟩
theorem ok_bare {f fI : Addr} {fd fdI : FuncData} (F : Fun K "bare_basis" "bare_basis" sBare f fd) (M : Mk K CB fI) (T : BasT K CB) (GI : FnOk P w K mg base CX0 1 fI fdI ["self", "squares", "rows", "weights", "near"] (spBasisI CB)) (bI : Binds K fdI ["self", "squares", "rows", "weights", "near"] [])
    (gB : mg "Basis" = some (.ref CB)) {tk : Tok} (gN : mg "NEAR_BITS" = some (.int 128 tk)) : FnOk P w K mg base CX0 3 f fd [] (spBare K CB) := by
  refine F.ok scBa (fun vs H Q E h => ?_) (fun cdv A outer s H vs Q E hr h => ?_)
  · obtain ⟨rfl, _⟩ := h
    rfl
  · obtain ⟨rfl, q⟩ := h
    refine ⟨_, pss_one (ps_ret (pe_make M GI hr (by rfl) gB bI .nil pass0 (pa_cons (pe_tup pa_nil) (pa_cons (pe_tup pa_nil) (pa_cons (pe_tup (pa_cons pe_int pa_nil)) (pa_cons (pe_tup (pa_cons (pe_tup (pa_cons (pe_op op_shl pe_int (pe_glob (v := .int 128) (by rfl) gN ⟨_, rfl⟩)) (pa_cons (pe_op op_shl pe_int (pe_glob (v := .int 128) (by rfl) gN ⟨_, rfl⟩)) pa_nil))) pa_nil)) pa_nil)))))), ?_⟩
    refine ⟨Nat.zero_le _, fun a na => ⟨Nat.zero_le _, fun b nb => ⟨by show 1 ≤ sizeLine; decide, fun c nc => ?_⟩⟩⟩
    refine ⟨_, _, rfl, rfl, ⟨by decide, by decide, by decide⟩, _, _, rfl, rfl, ⟨by decide, by decide, by decide⟩, by show 2 ≤ sizeLine; decide, fun d nd => ⟨by show 1 ≤ sizeLine; decide, fun e ne => ?_⟩⟩
    intro x dx hx hd hdx
    refine ⟨x, dx, _, _, _, _, rfl, upd_same, fun H' h1 h2 => ⟨rfl, ?_⟩⟩
    generalize hG : upd (upd (upd (upd (upd H a (.tup [])) b (.tup [])) c (.tup [.int 1])) d _) e _ = G at hx hd h1 h2
    have S : Same H G := by
      rw [← hG]
      exact (same_upd na).trans ((same_upd nb).trans ((same_upd nc).trans ((same_upd nd).trans (same_upd ne))))
    have hc : SqT K G c [.int 1] := by
      rw [← hG]
      exact sqT_same (sqT_same (.inl (.inl upd_same)) (same_upd nd)) (same_upd ne)
    have S2 : Same G H' := fun p o ep => h2 p o ((same_made hx hd) p o ep) fun z => by
      rw [z, hx] at ep
      cases ep
    exact q H' x (S.trans S2) (PySem.Spec.same_none S hx) ⟨dx, a, c, _, _, h1, sqT_same hc S2⟩
end
end Z5

set_option Elab.async false
set_option linter.all false
set_option maxRecDepth 100000
set_option maxHeartbeats 2000000
namespace Z6
open PySem PySem.Spec PyProof.Rows L2 Cau Dr14 Z1 Z2 Z3 Z4 ZE Z5
section
variable {P : Program} {w : World} {K : PySem.W.Frag} {mg : Str → Option Value} {base : Heap} {CB CT CN : Addr}
/-! ### the basis and the tower -/
theorem seqT_but {H H' : Hp} {p t : Addr} {xs : List V} (h : SqT K H t xs) (k : ∀ c o, H c = some o → c ≠ p → H' c = some o) (n : ∀ o, H p = some o → ∀ ys ob, o ≠ .tup ys ∧ o ≠ .frz ob (.tup ys)) : SqT K H' t xs := by
  rcases h with (h | ⟨o, h⟩) | h
  · exact .inl (.inl (k _ _ h fun z => (n _ (z ▸ h) xs default).1 rfl))
  · exact .inl (.inr ⟨o, k _ _ h fun z => (n _ (z ▸ h) xs o).2 rfl⟩)
  · exact .inr h
def basN : List Str := ["squares", "basis", "at", "parts", "value"]
theorem _root_.Z5.PartAt.but {H H' : Hp} {p : Addr} {v : V} {n d : Int} (h : PartAt K H v n d) (k : ∀ c o, H c = some o → c ≠ p → H' c = some o) (m : ∀ o, H p = some o → ∀ ys ob, o ≠ .tup ys ∧ o ≠ .frz ob (.tup ys)) : PartAt K H' v n d := by
  obtain ⟨a, b, e, h1, h2⟩ := h
  exact ⟨a, b, e, seqT_but h1 k m, seqT_but h2 k m⟩
theorem scBO : FnScope basN ["squares"] (defScope sBasOf) := ⟨rfl, rfl, rfl, by decide +kernel, rfl, by decide +kernel, by decide +kernel⟩
theorem ok_basOf {f fB : Addr} {fd fdB : FuncData} (F : Fun K "basis_of" "basis_of" sBasOf f fd) (FB : Fun K "bare_basis" "bare_basis" sBare fB fdB) (GB : FnOk P w K mg base CX0 3 fB fdB [] (spBare K CB)) (bB : Binds K fdB [] []) (gB : mg "bare_basis" = some (.ref fB))
    {tk : Tok} (gM : mg "MOST_ROWS" = some (.int 6 tk)) (mi : mg "isinstance" = none) (mt : mg "tuple" = none) (ml : mg "len" = none) (me : mg "enumerate" = none) : FnOk P w K mg base CX0 4 f fd ["squares"] (spBasOf K CB) := by
  refine F.ok scBO (fun vs H Q E h => ?_) (fun cdv A outer s H vs Q E hr h => ?_)
  · obtain ⟨sq, rfl, _⟩ := h
    rfl
  · obtain ⟨sq, rfl, hq, q⟩ := h
    refine ⟨_, pss_cons (ps_if (PW.pt (pw_or (pt_not (pt_val (pe_callB call_isi (by rfl) mi (by decide +kernel) (pa_cons (pv 0) (pa_cons (pe_bltn (v := .ty "tuple") (by rfl) mt (by decide +kernel) rfl) pa_nil)))))
        (pw_or1 (pt_cmpR op_gt (pe_callB call_len_seq (by rfl) ml PySem.boot_len (pa_cons (pv 0) pa_nil)) (pe_glob (v := .int 6) (by rfl) gM ⟨_, rfl⟩) (by rfl))))) pss_not pss_nil)
      (pss_cons (ps_set (i := 1) scBO.nd rfl (.inl rfl) (pe_call0 GB hr (by rfl) gB FB.kp bB .nil pass0))
      (pss_cons (ps_for PassesOwn.never rfl (pi_en (by rfl) me (pa_cons (pv 0) pa_nil)) (pg_tup (by rfl) (pgs_cons (pg_name (i := 2) scBO.nd rfl (.inl rfl)) (pgs_cons (pg_name (i := 3) scBO.nd rfl (.inl rfl)) pgs_nil))) pss_not)
      (pss_one (ps_ret (pv 1))))), ?_⟩
    refine ⟨_, rfl, .ref sq, .ty "tuple", .type "tuple", .type "tuple", true, rfl, .ty _, sqT_ty hq, kit_ty (by decide +kernel), true, rfl, iteF ?_⟩
    refine ⟨_, rfl, sq, [], rfl, .inr hq, _, _, rfl, rfl, _, rfl, iteF2 (by decide) ?_⟩
    refine ⟨rfl, fun H1 p S1 np hb => ?_⟩
    refine ⟨_, rfl, sq, [], rfl, en_of (.inr hq) S1 fun J G wk hG => for_it wk (fun i σ H' => σ = [some (.ref sq), some (.ref p), none, none, none] ∧ Same H1 H') ⟨rfl, same_rfl⟩ (fun i σ H' _ ⟨_, sm⟩ => hG _ (S1.trans sm)) ?_ ?_⟩
    · rintro i y σ H2 H3 hi
      exact absurd hi (Nat.not_lt_zero _)
    · rintro σ H2 ⟨rfl, sm⟩
      exact ⟨_, rfl, q H2 p (S1.trans sm) np (hb.same sm)⟩
theorem scTI : FnScope ["self", "squares", "basis"] ["self", "squares"] (defScope sTowerI) := ⟨rfl, rfl, rfl, by decide +kernel, rfl, by decide +kernel, by decide +kernel⟩
structure TowT (K : PySem.W.Frag) (C : Addr) : Prop where
  i : InsC K C
  n1 : NoAttr K C "squares"
  n2 : NoAttr K C "basis"
theorem ok_towerI {f fB : Addr} {fd fdB : FuncData} {dvs : List V} (F : FunD K "__init__" "Tower.__init__" (defArgs sTowerI) (defBody sTowerI) (defScope sTowerI) dvs [] f fd) (T : TowT K CT) (TB : BasT K CB)
    (FB : Fun K "basis_of" "basis_of" sBasOf fB fdB) (GB : FnOk P w K mg base CX0 4 fB fdB ["squares"] (spBasOf K CB)) (bB : Binds K fdB ["squares"] []) (gB : mg "basis_of" = some (.ref fB)) : FnOk P w K mg base CX0 5 f fd ["self", "squares"] (spTowerI K CB CT) := by
  refine F.ok scTI (fun vs H Q E h => ?_) (fun cdv A outer s H vs Q E hr h => ?_)
  · obtain ⟨p, dx, sq, rfl, _⟩ := h
    rfl
  · obtain ⟨p, dx, sq, rfl, hp, hq, q⟩ := h
    refine ⟨_, PSs.nox (pss_cons (ps_set (i := 2) scTI.nd rfl (.inl rfl) (pe_call GB hr (by rfl) gB FB.kp bB .nil pass0 (pa_cons (pv 1) pa_nil)))
      (pss_cons (ps_if (pt_cmpR op_isN (pv 2) pe_non (nomark _)) pss_not pss_nil)
      (pss_cons (ps_fld (pv 0) (pe_fld (pv 2) rfl) rfl) (pss_one (ps_fld (pv 0) (pv 2) rfl))))), ?_⟩
    refine ⟨_, rfl, sq, rfl, hq, fun H1 b S1 nb hb => ?_⟩
    obtain ⟨dx2, s2, wt, b2, d2, h1, h2⟩ := hb
    refine ⟨_, rfl, rfl, _, rfl, iteF2 rfl ?_⟩
    have hp1 := S1 _ _ hp
    have bp : b ≠ p := (ne_of_none hp nb).symm
    refine ⟨_, rfl, b, CB, dx2, _, _, rfl, h1, TB.i.cl, TB.n1, by with_unfolding_all rfl, ?_⟩
    refine ⟨_, rfl, p, CT, dx, [], rfl, hp1, T.i.cl, T.n1, by decide, ?_⟩
    refine ⟨_, rfl, _, rfl, p, CT, dx, _, rfl, upd_same, T.i.cl, T.n2, Nat.lt_of_le_of_lt (lt_puts (show ([] : List (Str × V)).length ≤ 0 from Nat.le_refl 0)) (by decide), ?_⟩
    refine q _ ⟨dx, b, .ref s2, upd_same.trans (by with_unfolding_all rfl), dx2, s2, wt, b2, d2, (upd_ne bp).trans ((upd_ne bp).trans h1), ?_⟩ fun c o e hc => by
      rw [upd_ne hc, upd_ne hc]
      exact S1 c o e
    have S2 : ∀ c o, H1 c = some o → c ≠ p → (upd (upd H1 p (.ins CT dx (putF "squares" (.ref s2) []))) p (.ins CT dx (putF "basis" (.ref b) (putF "squares" (.ref s2) [])))) c = some o := fun c o e hc => by
      rw [upd_ne hc, upd_ne hc]
      exact e
    exact seqT_but h2 S2 (fun o z ys ob => by rw [hp1] at z; cases z; exact ⟨(fun e => by cases e), (fun e => by cases e)⟩)
end
end Z6

set_option Elab.async false
set_option linter.all false
set_option maxRecDepth 100000
set_option maxHeartbeats 2000000
namespace Z7
open PySem PySem.Spec PyProof.Rows L2 Cau Dr14 Z1 Z2 Z3 Z4 ZE Z5 Z6
section
variable {P : Program} {w : World} {K : PySem.W.Frag} {mg : Str → Option Value} {base : Heap} {CB CT CN : Addr}
/-! ### values and parts -/
def setN : List Str := ["xs", "den", "common", "x"]
theorem scSet : FnScope setN ["xs", "den"] (defScope sSettled) := ⟨rfl, rfl, rfl, by decide +kernel, rfl, by decide +kernel, by decide +kernel⟩
theorem ok_settled {f : Addr} {fd : FuncData} (F : Fun K "settled_value" "settled_value" sSettled f fd) (mt : mg "tuple" = none) : FnOk P w K mg base CX0 1 f fd ["xs", "den"] (spSettled K) := by
  refine F.ok scSet (fun vs H Q E h => ?_) (fun cdv A outer s H vs Q E hr h => ?_)
  · obtain ⟨q, n, rfl, _⟩ := h
    rfl
  · obtain ⟨qd, n, rfl, hq, q⟩ := h
    refine ⟨_, pss_cons (ps_set (i := 2) scSet.nd rfl (.inr rfl) (pv 1))
      (pss_cons (ps_for PassesOwn.never rfl (pi_seq (pv 0)) (pg_name (i := 3) scSet.nd rfl (.inl rfl))
        (pss_cons (ps_if (pt_cmpR op_eq (pv 2) pe_int (nomark _)) (pss_one (ps_ret (pe_tup (pa_cons (pe_callTy call_tupleT (by rfl) mt (by decide +kernel) (pa_cons (pv 0) pa_nil)) (pa_cons (pv 1) pa_nil))))) pss_nil) pss_not))
      pss_not), ?_⟩
    refine ⟨_, rfl, _, rfl, qd, [.int n], rfl, seq_of (.inr hq) same_rfl fun J G wk hG => for_it wk (fun i σ H' => i = 0 ∧ σ = [some (.ref qd), some (.int 1), some (.int 1), none] ∧ Same H H') ⟨rfl, rfl, same_rfl⟩ (fun i σ H' _ ⟨_, _, sm⟩ => hG _ sm) ?_ ?_⟩
    · rintro i y σ H2 H3 hi ⟨rfl, rfl, sm⟩ ⟨rfl, hy⟩
      refine ⟨_, rfl, rfl, _, rfl, iteT2 rfl ?_⟩
      refine ⟨_, rfl, qd, [.int n], rfl, sqT_same hq sm, _, rfl, by show 2 ≤ sizeLine; decide, fun p np => ?_⟩
      exact q _ _ (sm.trans (same_upd np)) ⟨p, qd, rfl, .inl (.inl upd_same), sqT_same (sqT_same hq sm) (same_upd np)⟩
    · rintro σ H2 ⟨e, _⟩
      cases e
/-- one part's value -/
def valN : List Str := ["basis", "parts", "n", "d", "part", "dens", "den", "under"]
theorem scVal : FnScope valN ["basis", "parts"] (defScope sValOf) := ⟨rfl, rfl, rfl, by decide +kernel, rfl, by decide +kernel, by decide +kernel⟩
theorem ok_valOf {f : Addr} {fd : FuncData} (F : Fun K "value_of_parts" "value_of_parts" sValOf f fd) (ml : mg "len" = none) : FnOk P w K mg base CX0 1 f fd ["basis", "parts"] (spValOf K) := by
  refine F.ok scVal (fun vs H Q E h => ?_) (fun cdv A outer s H vs Q E hr h => ?_)
  · obtain ⟨b, v, n, d, rfl, _⟩ := h
    rfl
  · obtain ⟨b, v, n, d, rfl, ⟨p, pq, rfl, h1, h2⟩, q⟩ := h
    refine ⟨_, pss_cons (ps_if (pt_cmpR op_eq (pe_callB call_len_seq (by rfl) ml PySem.boot_len (pa_cons (pv 1) pa_nil)) pe_int (nomark _))
        (pss_cons (ps_asg (pe_ix ix_tup (pv 1) pe_int (fun _ _ => rfl)) (pg_tup (by rfl) (pgs_cons (pg_name (i := 2) scVal.nd rfl (.inl rfl)) (pgs_cons (pg_name (i := 3) scVal.nd rfl (.inl rfl)) pgs_nil))))
        (pss_one (ps_ret (pe_tup (pa_cons (pe_tup (pa_cons (pv 2) pa_nil)) (pa_cons (pv 3) pa_nil)))))) pss_nil) pss_not, ?_⟩
    refine ⟨_, rfl, p, _, rfl, .inr h1, rfl, _, rfl, iteT2 rfl ?_⟩
    refine ⟨_, rfl, p, _, 0, _, rfl, rfl, h1, atI_nat (j := 0) rfl, pq, _, rfl, h2, rfl, _, _, rfl, _, _, rfl, rfl, ?_⟩
    refine ⟨_, rfl, by show 1 ≤ sizeLine; decide, fun r nr => ⟨_, rfl, by show 2 ≤ sizeLine; decide, fun t nt => ?_⟩⟩
    exact q _ _ ((same_upd nr).trans (same_upd nt)) ⟨t, r, rfl, .inl (.inl upd_same), sqT_same (.inl (.inl upd_same)) (same_upd nt)⟩
def parN : List Str := ["basis", "value", "xs", "den", "a", "b", "first", "second", "parts", "x", "weight", "n", "common"]
theorem scPar : FnScope parN ["basis", "value"] (defScope sParOf) := ⟨rfl, rfl, rfl, by decide +kernel, rfl, by decide +kernel, by decide +kernel⟩
theorem ok_parOf {f : Addr} {fd : FuncData} (F : Fun K "parts_of_value" "parts_of_value" sParOf f fd) (ml : mg "len" = none) : FnOk P w K mg base CX0 1 f fd ["basis", "value"] (spParOf K) := by
  refine F.ok scPar (fun vs H Q E h => ?_) (fun cdv A outer s H vs Q E hr h => ?_)
  · obtain ⟨b, v, n, d, rfl, _⟩ := h
    rfl
  · obtain ⟨b, v, n, d, rfl, ⟨p, pq, rfl, h1, h2⟩, q⟩ := h
    refine ⟨_, pss_cons (ps_asg (pv 1) (pg_tup (by rfl) (pgs_cons (pg_name (i := 2) scPar.nd rfl (.inl rfl)) (pgs_cons (pg_name (i := 3) scPar.nd rfl (.inl rfl)) pgs_nil))))
      (pss_cons (ps_if (pt_cmpR op_eq (pe_callB call_len_seq (by rfl) ml PySem.boot_len (pa_cons (pv 2) pa_nil)) pe_int (nomark _))
        (pss_one (ps_ret (pe_tup (pa_cons (pe_tup (pa_cons (pe_ix ix_tup (pv 2) pe_int (fun _ _ => rfl)) (pa_cons (pv 3) pa_nil))) pa_nil)))) pss_nil) pss_not), ?_⟩
    refine ⟨_, rfl, p, _, rfl, h1, rfl, _, _, rfl, _, _, rfl, rfl, ?_⟩
    refine ⟨_, rfl, pq, _, rfl, .inr h2, rfl, _, rfl, iteT2 rfl ?_⟩
    refine ⟨_, rfl, pq, _, 0, _, rfl, rfl, h2, atI_nat (j := 0) rfl, _, rfl, by show 2 ≤ sizeLine; decide, fun r nr => ⟨by show 1 ≤ sizeLine; decide, fun t nt => ?_⟩⟩
    exact q _ _ ((same_upd nr).trans (same_upd nt)) ⟨t, r, rfl, .inl (.inl upd_same), sqT_same (.inl (.inl upd_same)) (same_upd nt)⟩
def frN : List Str := ["value", "n", "d"]
theorem scFr : FnScope frN ["value"] (defScope sIsFr) := ⟨rfl, rfl, rfl, by decide +kernel, rfl, by decide +kernel, by decide +kernel⟩
theorem int_ty (H : Hp) (i : Int) : TyX K H (.int i) (.type "int") := .base (.int i)
theorem ok_isFr {f : Addr} {fd : FuncData} (F : Fun K "is_fraction" "is_fraction" sIsFr f fd) (mi : mg "isinstance" = none) (mt : mg "tuple" = none) (ml : mg "len" = none) (mint : mg "int" = none) (mb : mg "bool" = none) (mgc : mg "gcd" = some (.builtin "math.gcd")) : FnOk P w K mg base CX0 1 f fd ["value"] (spIsFr K) := by
  refine F.ok scFr (fun vs H Q E h => ?_) (fun cdv A outer s H vs Q E hr h => ?_)
  · obtain ⟨qd, n, rfl, _⟩ := h
    rfl
  · obtain ⟨qd, n, rfl, hq, hn, q⟩ := h
    refine ⟨_, pss_cons (ps_if (PW.pt (pw_or (pt_not (pt_val (pe_callB call_isi (by rfl) mi (by decide +kernel) (pa_cons (pv 0) (pa_cons (pe_bltn (v := .ty "tuple") (by rfl) mt (by decide +kernel) rfl) pa_nil)))))
        (pw_or1 (pt_cmpR op_ne (pe_callB call_len_seq (by rfl) ml PySem.boot_len (pa_cons (pv 0) pa_nil)) pe_int (nomark _))))) pss_not pss_nil)
      (pss_cons (ps_asg (pv 0) (pg_tup (by rfl) (pgs_cons (pg_name (i := 1) scFr.nd rfl (.inl rfl)) (pgs_cons (pg_name (i := 2) scFr.nd rfl (.inl rfl)) pgs_nil))))
      (pss_cons (ps_if (PW.pt (pw_or (pt_not (pt_val (pe_callB call_isi (by rfl) mi (by decide +kernel) (pa_cons (pv 1) (pa_cons (pe_bltn (v := .ty "int") (by rfl) mint (by decide +kernel) rfl) pa_nil)))))
        (pw_or (pt_not (pt_val (pe_callB call_isi (by rfl) mi (by decide +kernel) (pa_cons (pv 2) (pa_cons (pe_bltn (v := .ty "int") (by rfl) mint (by decide +kernel) rfl) pa_nil)))))
        (pw_or (pt_val (pe_callB call_isi (by rfl) mi (by decide +kernel) (pa_cons (pv 1) (pa_cons (pe_bltn (v := .ty "bool") (by rfl) mb (by decide +kernel) rfl) pa_nil))))
        (pw_or1 (pt_val (pe_callB call_isi (by rfl) mi (by decide +kernel) (pa_cons (pv 2) (pa_cons (pe_bltn (v := .ty "bool") (by rfl) mb (by decide +kernel) rfl) pa_nil))))))))) pss_not pss_nil)
      (pss_one (ps_ret (pe_and (pe_cmpR op_ge (pv 2) pe_int (by rfl)) (pe_one (pe_cmpR op_eq (pe_callBfun cr_gcd (by rfl) mgc (pa_cons (pv 1) (pa_cons (pv 2) pa_nil))) pe_int (nomark _)))))))), ?_⟩
    have ii : ∀ i : Int, PySem.W.kitOne K (.type "int") (.type "int") = some true := fun _ => kit_ty (by decide +kernel)
    have ib : ∀ i : Int, PySem.W.kitOne K (.type "int") (.type "bool") = some false := fun _ => kit_ty (by decide +kernel)
    refine ⟨_, rfl, .ref qd, .ty "tuple", .type "tuple", .type "tuple", true, rfl, .ty _, sqT_ty hq, kit_ty (by decide +kernel), true, rfl, iteF ?_⟩
    refine ⟨_, rfl, qd, _, rfl, .inr hq, rfl, _, rfl, iteF2 rfl ?_⟩
    refine ⟨_, rfl, qd, _, rfl, hq, rfl, _, _, rfl, _, _, rfl, rfl, ?_⟩
    refine ⟨_, rfl, .int n, .ty "int", .type "int", .type "int", true, rfl, .ty _, int_ty _ _, ii 0, true, rfl, iteF ?_⟩
    refine ⟨_, rfl, .int 1, .ty "int", .type "int", .type "int", true, rfl, .ty _, int_ty _ _, ii 0, true, rfl, iteF ?_⟩
    refine ⟨_, rfl, .int n, .ty "bool", .type "int", .type "bool", false, rfl, .ty _, int_ty _ _, ib 0, false, rfl, iteF2 rfl ?_⟩
    refine ⟨_, rfl, .int 1, .ty "bool", .type "int", .type "bool", false, rfl, .ty _, int_ty _ _, ib 0, false, rfl, iteF2 rfl ?_⟩
    refine ⟨_, rfl, _, _, rfl, rfl, _, rfl, iteT2 rfl ?_⟩
    refine ⟨_, rfl, _, rfl, _, _, rfl, rfl, ?_⟩
    have e : (V.int ((Nat.gcd n.natAbs (1 : Int).natAbs : Nat) : Int)) = V.int 1 := by
      rw [show (1 : Int).natAbs = 1 from rfl, Nat.gcd_one_right]
      rfl
    rw [e]
    exact q
def afN : List Str := ["value", "size", "part"]
theorem scAf : FnScope afN ["value", "size"] (defScope sAreFr) := ⟨rfl, rfl, rfl, by decide +kernel, rfl, by decide +kernel, by decide +kernel⟩
theorem ok_areFr {f fF : Addr} {fd fdF : FuncData} (F : Fun K "are_fractions" "are_fractions" sAreFr f fd) (FF : Fun K "is_fraction" "is_fraction" sIsFr fF fdF) (GF : FnOk P w K mg base CX0 1 fF fdF ["value"] (spIsFr K)) (bF : Binds K fdF ["value"] []) (gF : mg "is_fraction" = some (.ref fF))
    (mi : mg "isinstance" = none) (mt : mg "tuple" = none) (ml : mg "len" = none) : FnOk P w K mg base CX0 2 f fd ["value", "size"] (spAreFr K) := by
  refine F.ok scAf (fun vs H Q E h => ?_) (fun cdv A outer s H vs Q E hr h => ?_)
  · obtain ⟨v, n, rfl, _⟩ := h
    rfl
  · obtain ⟨v, n, rfl, ⟨p, pq, rfl, h1, h2⟩, hn, q⟩ := h
    refine ⟨_, pss_cons (ps_if (PW.pt (pw_or (pt_not (pt_val (pe_callB call_isi (by rfl) mi (by decide +kernel) (pa_cons (pv 0) (pa_cons (pe_bltn (v := .ty "tuple") (by rfl) mt (by decide +kernel) rfl) pa_nil)))))
        (pw_or1 (pt_cmpR op_ne (pe_callB call_len_seq (by rfl) ml PySem.boot_len (pa_cons (pv 0) pa_nil)) (pv 1) (nomark _))))) pss_not pss_nil)
      (pss_cons (ps_for PassesOwn.never rfl (pi_seq (pv 0)) (pg_name (i := 2) scAf.nd rfl (.inl rfl))
        (pss_one (ps_if (pt_not (pt_val (pe_call GF hr (by rfl) gF FF.kp bF .nil pass0 (pa_cons (pv 2) pa_nil)))) pss_not pss_nil)))
      (pss_one (ps_ret pe_bl))), ?_⟩
    refine ⟨_, rfl, .ref p, .ty "tuple", .type "tuple", .type "tuple", true, rfl, .ty _, sqT_ty h1, kit_ty (by decide +kernel), true, rfl, iteF ?_⟩
    refine ⟨_, rfl, p, _, rfl, .inr h1, _, rfl, rfl, _, rfl, iteF2 rfl ?_⟩
    refine ⟨_, rfl, p, _, rfl, seq_of (.inr h1) same_rfl fun J G wk hG => for_it wk (fun i σ H' => (∃ y, σ = [some (.ref p), some (.int 1), y]) ∧ H' = H) ⟨⟨none, rfl⟩, rfl⟩ (fun i σ H' _ ⟨_, e⟩ => hG _ (e ▸ same_rfl)) ?_ ?_⟩
    · rintro i y σ H2 H3 hi ⟨⟨z, rfl⟩, rfl⟩ ⟨rfl, hy⟩
      obtain rfl : i = 0 := by
        have : i < 1 := hi
        omega
      cases hy
      refine ⟨_, rfl, pq, n, rfl, h2, hn, _, rfl, iteF ?_⟩
      exact ⟨⟨_, rfl⟩, rfl⟩
    · rintro σ H2 ⟨⟨z, rfl⟩, rfl⟩
      exact q
end
end Z7

set_option Elab.async false
set_option linter.all false
set_option maxRecDepth 100000
set_option maxHeartbeats 2000000
namespace Z8
open PySem PySem.Spec PyProof.Rows L2 Cau Dr14 Z1 Z2 Z3 Z4 ZE Z5 Z6 Z7
abbrev sIsPt : Stmt := topS 124
abbrev sArePts : Stmt := topS 125
abbrev sCkPts : Stmt := topS 126
abbrev sSheet : Stmt := topS 127
section
variable {P : Program} {w : World} {K : PySem.W.Frag} {mg : Str → Option Value} {base : Heap} {CB CT CN : Addr}
/-! ### Numbers -/
structure NumT (K : PySem.W.Frag) (C : Addr) : Prop where
  i : InsC K C
  n1 : NoAttr K C "tower"
  n2 : NoAttr K C "parts"
  n3 : NoAttr K C "value"
theorem scNI : FnScope ["self", "tower", "parts"] ["self", "tower", "parts"] (defScope sNumI) := ⟨rfl, rfl, rfl, by decide +kernel, rfl, by decide +kernel, by decide +kernel⟩
theorem sqT_off {H : Hp} {p t : Addr} {xs : List V} {C dx : Addr} {fs : List (Str × V)} (hp : H p = some (.ins C dx fs)) : ∀ o, H p = some o → ∀ ys ob, o ≠ .tup ys ∧ o ≠ .frz ob (.tup ys) := fun o z ys ob => by
  rw [hp] at z
  cases z
  exact ⟨(fun e => by cases e), (fun e => by cases e)⟩
theorem ok_numI {f fA fV : Addr} {fd fdA fdV : FuncData} (F : Fun K "__init__" "Number.__init__" sNumI f fd) (T : NumT K CN) (TT : TowT K CT) (TB : BasT K CB) (gT : mg "Tower" = some (.ref CT))
    (FA : Fun K "are_fractions" "are_fractions" sAreFr fA fdA) (GA : FnOk P w K mg base CX0 2 fA fdA ["value", "size"] (spAreFr K)) (bA : Binds K fdA ["value", "size"] []) (gA : mg "are_fractions" = some (.ref fA))
    (FV : Fun K "value_of_parts" "value_of_parts" sValOf fV fdV) (GV : FnOk P w K mg base CX0 1 fV fdV ["basis", "parts"] (spValOf K)) (bV : Binds K fdV ["basis", "parts"] []) (gV : mg "value_of_parts" = some (.ref fV))
    (mi : mg "isinstance" = none) (ml : mg "len" = none) : FnOk P w K mg base CX0 3 f fd ["self", "tower", "parts"] (spNumI K CB CT CN) := by
  refine F.ok scNI (fun vs H Q E h => ?_) (fun cdv A outer s H vs Q E hr h => ?_)
  · obtain ⟨p, dx, t, v, n, rfl, _⟩ := h
    rfl
  · obtain ⟨p, dx, t, v, n, rfl, hp, ⟨tx, bq, ta, ht, hb⟩, ntp, hv, hn, q⟩ := h
    refine ⟨_, pss_cons (ps_if (pt_not (pt_val (pe_callB call_isi (by rfl) mi (by decide +kernel) (pa_cons (pv 1) (pa_cons (pe_glob (v := .ref CT) (by rfl) gT rfl) pa_nil))))) pss_not pss_nil)
      (pss_cons (ps_if (pt_not (pt_val (pe_call GA hr (by rfl) gA FA.kp bA .nil pass0 (pa_cons (pv 2) (pa_cons (pe_callB call_len_seq (by rfl) ml PySem.boot_len (pa_cons (pe_fld (pe_fld (pv 1) rfl) rfl) pa_nil)) pa_nil))))) pss_not pss_nil)
      (pss_cons (ps_fld (pv 0) (pv 1) rfl) (pss_cons (ps_fld (pv 0) (pv 2) rfl)
      (pss_one (ps_fld (pv 0) (pe_call GV (hr.mono (by decide)) (by rfl) gV FV.kp bV .nil pass0 (pa_cons (pe_fld (pv 1) rfl) (pa_cons (pv 2) pa_nil))) rfl))))), ?_⟩
    obtain ⟨bx, sq, wt, b1, b2, hb1, hb2⟩ := hb
    have lkb : (tF ta (V.ref bq)).lookup ("basis" : Str) = some (V.ref bq) := by with_unfolding_all rfl
    refine ⟨_, rfl, .ref t, .ref CT, .ref CT, .ref CT, true, rfl, .own _, TT.i.ty ht, TT.i.self, _, rfl, iteF ?_⟩
    refine ⟨_, rfl, _, rfl, t, CT, tx, _, _, rfl, ht, TT.i.cl, TT.n2, lkb, bq, CB, bx, _, _, rfl, hb1, TB.i.cl, TB.n3, by with_unfolding_all rfl, wt, _, rfl, .inr hb2, ?_⟩
    refine ⟨v, n, rfl, hv, hn, _, rfl, iteF ?_⟩
    refine ⟨_, rfl, _, rfl, p, CN, dx, [], rfl, hp, T.i.cl, T.n1, by decide, ?_⟩
    refine ⟨_, rfl, _, rfl, p, CN, dx, _, rfl, upd_same, T.i.cl, T.n2, Nat.lt_of_le_of_lt (lt_puts (show ([] : List (Str × V)).length ≤ 0 from Nat.le_refl 0)) (by decide), ?_⟩
    have k2 : ∀ c o, H c = some o → c ≠ p → (upd (upd H p (.ins CN dx (putF "tower" (.ref t) []))) p (.ins CN dx (putF "parts" v (putF "tower" (.ref t) [])))) c = some o := fun c o e hc => by
      rw [upd_ne hc, upd_ne hc]
      exact e
    have hv2 := hv.but k2 (sqT_off (xs := []) (t := p) hp)
    refine ⟨_, rfl, t, CT, tx, _, _, rfl, k2 _ _ ht ntp, TT.i.cl, TT.n2, lkb, _, rfl, .ref bq, v, n, 1, rfl, hv2, fun H3 v3 S3 _ => ?_⟩
    refine ⟨_, rfl, p, CN, dx, _, rfl, S3 _ _ upd_same, T.i.cl, T.n3, Nat.lt_of_le_of_lt (lt_puts (lt_puts (show ([] : List (Str × V)).length ≤ 0 from Nat.le_refl 0))) (by decide), ?_⟩
    refine q _ ⟨dx, _, upd_same⟩ fun c o e hc => ?_
    rw [upd_ne hc]
    exact S3 _ _ (k2 c o e hc)
/-! ### what makes them -/
theorem scNO : FnScope ["tower", "value", "basis", "parts", "number"] ["tower", "value"] (defScope sNumOn) := ⟨rfl, rfl, rfl, by decide +kernel, rfl, by decide +kernel, by decide +kernel⟩
theorem ok_numOn {f fP fI : Addr} {fd fdP fdI : FuncData} (F : Fun K "number_on" "number_on" sNumOn f fd) (M : Mk K CN fI) (TT : TowT K CT) (gN : mg "Number" = some (.ref CN))
    (GI : FnOk P w K mg base CX0 3 fI fdI ["self", "tower", "parts"] (spNumI K CB CT CN)) (bI : Binds K fdI ["self", "tower", "parts"] [])
    (FP : Fun K "parts_of_value" "parts_of_value" sParOf fP fdP) (GP : FnOk P w K mg base CX0 1 fP fdP ["basis", "value"] (spParOf K)) (bP : Binds K fdP ["basis", "value"] []) (gP : mg "parts_of_value" = some (.ref fP))
    (ml : mg "len" = none) : FnOk P w K mg base CX0 5 f fd ["tower", "value"] (spNumOn K CB CT CN) := by
  refine F.ok scNO (fun vs H Q E h => ?_) (fun cdv A outer s H vs Q E hr h => ?_)
  · obtain ⟨t, v, n, rfl, _⟩ := h
    rfl
  · obtain ⟨t, v, n, rfl, hT, hv, hn, q⟩ := h
    refine ⟨_, pss_cons (ps_set (i := 2) scNO.nd rfl (.inl rfl) (pe_fld (pv 0) rfl))
      (pss_cons (ps_set (i := 3) scNO.nd rfl (.inl rfl) (pe_call GP (hr.mono (by decide)) (by rfl) gP FP.kp bP .nil pass0 (pa_cons (pv 2) (pa_cons (pv 1) pa_nil))))
      (pss_cons (ps_if (pt_cmpR op_eq (pe_callB call_len_seq (by rfl) ml PySem.boot_len (pa_cons (pv 3) pa_nil)) pe_int (nomark _)) (pss_one (ps_ret (pe_make M GI hr (by rfl) gN bI .nil pass0 (pa_cons (pv 0) (pa_cons (pv 3) pa_nil))))) pss_nil) pss_not)), ?_⟩
    obtain ⟨tx, bq, ta, ht, hb⟩ := hT
    refine ⟨_, rfl, t, CT, tx, _, _, rfl, ht, TT.i.cl, TT.n2, by with_unfolding_all rfl, _, rfl, _, rfl, .ref bq, v, n, 1, rfl, hv, fun H1 v1 S1 h1 => ?_⟩
    have h1' := h1
    obtain ⟨p1, q1, rfl, s1, s2⟩ := h1'
    refine ⟨_, rfl, p1, _, rfl, .inr s1, rfl, _, rfl, iteT2 rfl ?_⟩
    refine ⟨_, rfl, _, rfl, fun x dx hx hd hdx => ?_⟩
    have Sm := same_made (o1 := .own x) (o2 := .ins CN dx []) hx hd
    have ntx : t ≠ x := ne_of_none (S1 _ _ ht) hx
    refine ⟨x, dx, t, _, n, rfl, upd_same, ⟨tx, bq, ta, Sm _ _ (S1 _ _ ht), (hb.same S1).same Sm⟩, ntx, h1.same Sm, hn, fun H' hN k => ⟨rfl, ?_⟩⟩
    refine q H' x (fun c o e => ?_) hN
    have e1 := S1 c o e
    exact k c o (Sm _ _ e1) (ne_of_none e1 hx)
theorem scFra : FnScope ["n", "d"] ["n", "d"] (defScope sFrac) := ⟨rfl, rfl, rfl, by decide +kernel, rfl, by decide +kernel, by decide +kernel⟩
theorem ok_frac {f fW fI fS fO e0 : Addr} {fd fdW fdI fdS fdO : FuncData} {dvs : List V} {ds : List Value} (F : FunD K "fraction" "fraction" (defArgs sFrac) (defBody sFrac) (defScope sFrac) dvs [] f fd)
    (FW : Fun K "is_whole" "is_whole" sIsWhole fW fdW) (GW : FnOk P w K mg base CX0 1 fW fdW ["value"] (spWhole K)) (bW : Binds K fdW ["value"] []) (gW : mg "is_whole" = some (.ref fW))
    (M : Mk K CT fI) (GI : FnOk P w K mg base CX0 5 fI fdI ["self", "squares"] (spTowerI K CB CT)) (bI : Binds K fdI ["self", "squares"] ds) (dI : Vals [.ref e0] ds) (hE : ∀ H, SqT K H e0 []) (gT : mg "Tower" = some (.ref CT))
    (FS : Fun K "settled_value" "settled_value" sSettled fS fdS) (GS : FnOk P w K mg base CX0 1 fS fdS ["xs", "den"] (spSettled K)) (bS : Binds K fdS ["xs", "den"] []) (gS : mg "settled_value" = some (.ref fS))
    (FO : Fun K "number_on" "number_on" sNumOn fO fdO) (GO : FnOk P w K mg base CX0 5 fO fdO ["tower", "value"] (spNumOn K CB CT CN)) (bO : Binds K fdO ["tower", "value"] []) (gO : mg "number_on" = some (.ref fO)) :
    FnOk P w K mg base CX0 7 f fd ["n", "d"] (spFrac CN) := by
  refine F.ok scFra (fun vs H Q E h => ?_) (fun cdv A outer s H vs Q E hr h => ?_)
  · obtain ⟨n, rfl, _⟩ := h
    rfl
  · obtain ⟨n, rfl, hn, q⟩ := h
    have hr1 : Room 1 _ := hr.mono (by decide)
    refine ⟨_, PSs.nox (pss_cons (ps_if (PW.pt (pw_or (pt_not (pt_val (pe_call GW hr1 (by rfl) gW FW.kp bW .nil pass0 (pa_cons (pv 0) pa_nil))))
        (pw_or (pt_not (pt_val (pe_call GW hr1 (by rfl) gW FW.kp bW .nil pass0 (pa_cons (pv 1) pa_nil)))) (pw_or1 (pt_cmpR op_lt (pv 1) pe_int (by rfl)))))) pss_not pss_nil)
      (pss_one (ps_ret (pe_call GO (hr.mono (by decide)) (by rfl) gO FO.kp bO .nil pass0 (pa_cons (pe_make0 M GI hr (by rfl) gT bI dI pass0) (pa_cons (pe_call GS hr1 (by rfl) gS FS.kp bS .nil pass0 (pa_cons (pe_tup (pa_cons (pv 0) pa_nil)) (pa_cons (pv 1) pa_nil))) pa_nil)))))), ?_⟩
    refine ⟨_, rfl, .int n, rfl, hn.atom, _, rfl, iteF ?_⟩
    refine ⟨_, rfl, .int 1, rfl, .atom (by decide), _, rfl, iteF ?_⟩
    refine ⟨_, rfl, _, _, rfl, rfl, _, rfl, iteF2 (by decide) ?_⟩
    intro x dx hx hd hdx
    have Sm := same_made (o1 := .own x) (o2 := .ins CT dx []) hx hd
    refine ⟨x, dx, e0, rfl, upd_same, hE _, fun H1 hT k => ⟨rfl, ?_⟩⟩
    have S1 : Same H H1 := fun c o e => k c o (Sm _ _ e) (ne_of_none e hx)
    refine ⟨_, rfl, by show 1 ≤ sizeLine; decide, fun r nr => ⟨_, rfl, r, n, rfl, .inl (.inl upd_same), fun H2 v S2 hv => ?_⟩⟩
    have S3 : Same H1 H2 := (same_upd nr).trans S2
    exact ⟨x, v, n, rfl, hT.same S3, hv, hn, fun H' p S4 hN => q H' p (S1.trans (S3.trans S4)) hN⟩
theorem scIN : FnScope ["value"] ["value"] (defScope sIsNum) := ⟨rfl, rfl, rfl, by decide +kernel, rfl, by decide +kernel, by decide +kernel⟩
theorem ok_isNum {f : Addr} {fd : FuncData} (F : Fun K "is_number" "is_number" sIsNum f fd) (gN : mg "Number" = some (.ref CN)) (mi : mg "isinstance" = none) : FnOk P w K mg base CX0 1 f fd ["value"] (spIsNum K CN) := by
  refine F.ok scIN (fun vs H Q E h => ?_) (fun cdv A outer s H vs Q E hr h => ?_)
  · obtain ⟨x, b, t, rfl, _⟩ := h
    rfl
  · obtain ⟨x, b, t, rfl, hx, hk, q⟩ := h
    refine ⟨_, pss_one (ps_ret (pe_callB call_isi (by rfl) mi (by decide +kernel) (pa_cons (pv 0) (pa_cons (pe_glob (v := .ref CN) (by rfl) gN rfl) pa_nil)))), ?_⟩
    exact ⟨_, rfl, x, .ref CN, t, .ref CN, b, rfl, .own _, hx, hk, q⟩
end
end Z8

set_option Elab.async false
set_option linter.all false
set_option maxRecDepth 100000
set_option maxHeartbeats 2000000
namespace Z9
open PySem PySem.Spec PyProof.Rows L2 Cau Dr14 Z1 Z2 Z3 Z4 ZE Z5 Z6 Z7 Z8
/-! ### points and their tables -/
inductive PtV (CN : Addr) (H : Hp) : V → Bool → Prop
  | int {i : Int} (h : AtomV (.int i) = true) : PtV CN H (.int i) false
  | duo {p : Addr} {i j : Int} (h : H p = some (.tup [.int i, .int j])) : PtV CN H (.ref p) false
  | pt {p a c : Addr} (h : H p = some (.tup [.ref a, .ref c])) (na : NumAt CN H a) (nc : NumAt CN H c) : PtV CN H (.ref p) true
theorem NumAt.but {CN p d : Addr} {H H' : Hp} {kvs : List (Key × V)} (h : NumAt CN H p) (hd : H d = some (.dK kvs)) (k : ∀ c o, H c = some o → c ≠ d → H' c = some o) : NumAt CN H' p := by
  obtain ⟨dx, fs, h1⟩ := h
  exact ⟨dx, fs, k _ _ h1 fun z => by rw [z, hd] at h1; cases h1⟩
theorem PtV.but {CN d : Addr} {H H' : Hp} {v : V} {b : Bool} {kvs : List (Key × V)} (h : PtV CN H v b) (hd : H d = some (.dK kvs)) (k : ∀ c o, H c = some o → c ≠ d → H' c = some o) : PtV CN H' v b := by
  cases h with
  | int h => exact .int h
  | duo h => exact .duo (k _ _ h fun z => by rw [z, hd] at h; cases h)
  | pt h na nc => exact .pt (k _ _ h fun z => by rw [z, hd] at h; cases h) (NumAt.but na hd k) (NumAt.but nc hd k)
theorem PtV.same {CN : Addr} {H H' : Hp} {v : V} {b : Bool} (h : PtV CN H v b) (s : Same H H') : PtV CN H' v b := by
  cases h with
  | int h => exact .int h
  | duo h => exact .duo (s _ _ h)
  | pt h na nc => exact .pt (s _ _ h) (na.same s) (nc.same s)
abbrev PtR := Str × V × Bool
def ptE (r : PtR) : Key × V := (.inr r.1, r.2.1)
inductive PtsV (CN : Addr) (H : Hp) : V → Bool → Prop
  | non : PtsV CN H .non false
  | lst {p : Addr} {xs : List V} (h : H p = some (.lst xs)) : PtsV CN H (.ref p) false
  | dict {d : Addr} {rs : List PtR} (h : H d = some (.dK (rs.map ptE))) (l : rs.length ≤ 10) (nd : (rs.map (·.1)).Nodup) (ok : ∀ r ∈ rs, AtomV (.str r.1) = true ∧ PtV CN H r.2.1 r.2.2) : PtsV CN H (.ref d) (rs.all fun r => nameS r.1 && r.2.2)
theorem PtsV.same {CN : Addr} {H H' : Hp} {v : V} {b : Bool} (h : PtsV CN H v b) (s : Same H H') : PtsV CN H' v b := by
  cases h with
  | non => exact .non
  | lst h => exact .lst (s _ _ h)
  | dict h l nd ok => exact .dict (s _ _ h) l nd fun r hr => ⟨(ok r hr).1, (ok r hr).2.same s⟩
theorem val_at : ∀ {rs : List PtR} {i : Nat} {r : PtR}, (rs.map (·.1)).Nodup → rs[i]? = some r → valV (rs.map ptE) (.inr r.1) = some r.2.1
  | [], i, r, _, h => by simp at h
  | q :: l, 0, r, nd, h => by
    cases h
    unfold valV
    rw [List.map_cons, List.find?_cons]
    simp [ptE]
  | q :: l, i + 1, r, nd, h => by
    rw [List.map_cons, List.nodup_cons] at nd
    have h' : l[i]? = some r := h
    have ih := val_at nd.2 h'
    have ne : q.1 ≠ r.1 := fun z => nd.1 (z ▸ List.mem_map.mpr ⟨r, List.mem_of_getElem? h', rfl⟩)
    unfold valV at ih ⊢
    rw [List.map_cons, List.find?_cons]
    have e2 : decide ((ptE q).1 = (Sum.inr r.1 : Key)) = false := decide_eq_false fun z => ne (Sum.inr.inj z)
    simp only [e2]
    exact ih
def spPt (CN : Addr) : Sp := fun vs H Q _ => ∃ (v : V) (b : Bool), vs = [v] ∧ PtV CN H v b ∧ Q (.bl b) H
def spPts (CN : Addr) : Sp := fun vs H Q _ => ∃ (v : V) (b : Bool), vs = [v] ∧ PtsV CN H v b ∧ ∀ H', Same H H' → Q (.bl b) H'
section
variable {P : Program} {w : World} {K : PySem.W.Frag} {mg : Str → Option Value} {base : Heap} {CB CT CN : Addr}
theorem scPt : FnScope ["value"] ["value"] (defScope sIsPt) := ⟨rfl, rfl, rfl, by decide +kernel, rfl, by decide +kernel, by decide +kernel⟩
theorem ok_pt {f fT fN : Addr} {fd fdT fdN : FuncData} (F : Fun K "is_point" "is_point" sIsPt f fd) (TN : NumT K CN) (kI : PySem.W.kitOne K (.type "int") (.ref CN) = some false)
    (FT : Fun K "is_tuple_of" "is_tuple_of" sTupleOf fT fdT) (GT : FnOk P w K mg base CX0 1 fT fdT ["value", "size"] (spTupleOf K)) (bT : Binds K fdT ["value", "size"] []) (gT : mg "is_tuple_of" = some (.ref fT))
    (FN : Fun K "is_number" "is_number" sIsNum fN fdN) (GN : FnOk P w K mg base CX0 1 fN fdN ["value"] (spIsNum K CN)) (bN : Binds K fdN ["value"] []) (gN : mg "is_number" = some (.ref fN)) : FnOk P w K mg base CX0 2 f fd ["value"] (spPt CN) := by
  refine F.ok scPt (fun vs H Q E h => ?_) (fun cdv A outer s H vs Q E hr h => ?_)
  · obtain ⟨v, b, rfl, _⟩ := h
    rfl
  · obtain ⟨v, b, rfl, hv, q⟩ := h
    refine ⟨_, pss_one (ps_ret (pe_and (pe_call GT hr (by rfl) gT FT.kp bT .nil pass0 (pa_cons (pv 0) (pa_cons pe_int pa_nil)))
      (pe_and (pe_call GN hr (by rfl) gN FN.kp bN .nil pass0 (pa_cons (pe_ix ix_tup (pv 0) pe_int (fun _ _ => rfl)) pa_nil)) (pe_one (pe_call GN hr (by rfl) gN FN.kp bN .nil pass0 (pa_cons (pe_ix ix_tup (pv 0) pe_int (fun _ _ => rfl)) pa_nil)))))), ?_⟩
    cases hv with
    | @int i h => exact ⟨_, rfl, .int i, 2, false, rfl, .inr ⟨.atom h, rfl⟩, _, rfl, iteF q⟩
    | @duo p i j h =>
      refine ⟨_, rfl, .ref p, 2, true, rfl, .inl ⟨p, _, rfl, .inl (.inl h), rfl⟩, _, rfl, iteT ?_⟩
      exact ⟨_, rfl, p, _, 0, _, rfl, rfl, .inl (.inl h), atI_nat (j := 0) rfl, .int i, false, _, rfl, int_ty _ _, kI, _, rfl, iteF q⟩
    | @pt p a c h na nc =>
      obtain ⟨d1, f1, h1⟩ := na
      obtain ⟨d2, f2, h2⟩ := nc
      refine ⟨_, rfl, .ref p, 2, true, rfl, .inl ⟨p, _, rfl, .inl (.inl h), rfl⟩, _, rfl, iteT ?_⟩
      refine ⟨_, rfl, p, _, 0, _, rfl, rfl, .inl (.inl h), atI_nat (j := 0) rfl, .ref a, true, _, rfl, TN.i.ty h1, TN.i.self, _, rfl, iteT ?_⟩
      exact ⟨_, rfl, p, _, 1, _, rfl, rfl, .inl (.inl h), atI_nat (j := 1) rfl, .ref c, true, _, rfl, TN.i.ty h2, TN.i.self, q⟩
theorem scPts : FnScope ["value", "name"] ["value"] (defScope sArePts) := ⟨rfl, rfl, rfl, by decide +kernel, rfl, by decide +kernel, by decide +kernel⟩
theorem ok_pts {f fP fN : Addr} {fd fdP fdN : FuncData} (F : Fun K "are_points" "are_points" sArePts f fd)
    (FP : Fun K "is_point" "is_point" sIsPt fP fdP) (GP : FnOk P w K mg base CX0 2 fP fdP ["value"] (spPt CN)) (bP : Binds K fdP ["value"] []) (gP : mg "is_point" = some (.ref fP))
    (FN : Fun K "is_name" "is_name" sIsName fN fdN) (GN : FnOk P w K mg base CX0 1 fN fdN ["value"] (spName K)) (bN : Binds K fdN ["value"] []) (gN : mg "is_name" = some (.ref fN))
    (mi : mg "isinstance" = none) (md : mg "dict" = none) (ma : mg "all" = none) : FnOk P w K mg base CX0 3 f fd ["value"] (spPts CN) := by
  refine F.ok scPts (fun vs H Q E h => ?_) (fun cdv A outer s H vs Q E hr h => ?_)
  · obtain ⟨v, b, rfl, _⟩ := h
    rfl
  · obtain ⟨v, b, rfl, hv, q⟩ := h
    have hu := hu_of (hr.mono (Nat.zero_le _) : Room 0 _)
    refine ⟨_, pss_cons (ps_if (pt_not (pt_val (pe_callB call_isi (by rfl) mi (by decide +kernel) (pa_cons (pv 0) (pa_cons (pe_bltn (v := .ty "dict") (by rfl) md (by decide +kernel) rfl) pa_nil))))) (pss_one (ps_ret pe_bl)) pss_nil)
      (pss_one (ps_ret (pe_callB (cr_all rfl) (by rfl) ma (by decide +kernel) (pa_cons
        (pe_lock (pe_lc (own := [("name", 1)]) (g := gName 1) (tt := tYes) rfl scPts.nd (pi_keys (pv 0))
          (blkOk_by (own := [("name", 1)]) (N := ["value", "name"]) (sc := defScope sArePts) (by decide +kernel))
          (fun _ _ _ _ _ => pg_name (i := 1) scPts.nd rfl (.inl rfl)) (fun _ _ _ _ _ => pts_nil)
          (fun _ _ _ _ _ => pe_and (pe_call GN (hr.mono (by decide)) (by rfl) gN FN.kp bN .nil pass0 (pa_cons (pv 1) pa_nil))
            (pe_one (pe_call GP hr (by rfl) gP FP.kp bP .nil pass0 (pa_cons (pe_dget hu (pv 0) (pv 1) (fun _ _ => rfl)) pa_nil)))))) pa_nil)))), ?_⟩
    cases hv with
    | non => exact ⟨_, rfl, .non, .ty "dict", .type "NoneType", .type "dict", false, rfl, .ty _, .base .non, kit_ty (by decide +kernel), false, rfl, iteT (q _ same_rfl)⟩
    | @lst p xs h => exact ⟨_, rfl, .ref p, .ty "dict", .type "list", .type "dict", false, rfl, .ty _, .base (.lst h), kit_ty (by decide +kernel), false, rfl, iteT (q _ same_rfl)⟩
    | @dict d rs h l nd ok =>
      refine ⟨_, rfl, .ref d, .ty "dict", .type "dict", .type "dict", true, rfl, .ty _, .base (.dK h), kit_ty (by decide +kernel), true, rfl, iteF ?_⟩
      refine ⟨d, _, h, trivial, fun od => ?_⟩
      generalize hG : upd H d (.frz od (.dK (rs.map ptE))) = G
      have hGd : G d = some (.frz od (.dK (rs.map ptE))) := by rw [← hG]; exact upd_same
      have kG : ∀ c o, H c = some o → c ≠ d → G c = some o := fun c o e hc => by
        rw [← hG, upd_ne hc]
        exact e
      have back : ∀ H', Same G H' → Same H (upd H' d (.dK (rs.map ptE))) := fun H' s c o e => by
        by_cases z : c = d
        · rw [z, upd_same]
          rw [z, h] at e
          exact e
        · rw [upd_ne z]
          exact s _ _ (kG c o e z)
      refine ⟨_, rfl, d, od, rfl, .inl ⟨_, hGd, fun D nD => ?_⟩⟩
      refine lc_it walk_keys (fun i H1 => ∃ bs : List Bool, H1 D = some (.lst (bs.map V.bl)) ∧ bs = (rs.take i).map (fun r => nameS r.1 && r.2.2) ∧ Same G H1) ⟨[], upd_same, rfl, same_upd nD⟩ ?_ ?_ ?_
      · rintro i H1 _ ⟨bs, _, _, sm⟩
        exact sm _ _ hGd
      · rintro i x H1 H2 hi ⟨bs, hD, hbs, sm⟩ ⟨rfl, k, v, hk, rfl⟩
        rw [List.getElem?_map] at hk
        obtain ⟨r, hr', hk⟩ : ∃ r, rs[i]? = some r ∧ ptE r = (k, v) := by
          cases e : rs[i]? with
          | none => rw [e] at hk; cases hk
          | some r => rw [e] at hk; exact ⟨r, rfl, Option.some.inj hk⟩
        cases hk
        obtain ⟨hat, hpt⟩ := ok r (List.mem_of_getElem? hr')
        have hil : bs.length < 20 := by
          have : i < rs.length := (List.getElem?_eq_some_iff.mp hr').1
          rw [hbs, List.length_map, List.length_take]
          omega
        have step : (rs.take (i + 1)).map (fun r => nameS r.1 && r.2.2) = bs ++ [nameS r.1 && r.2.2] := by
          rw [hbs, List.take_succ, List.map_append, hr']
          rfl
        have put : ∀ b H3, (nameS r.1 && r.2.2) = b → Same H2 H3 → ∃ acc, H3 D = some (.lst acc) ∧ acc.length < sizeLine ∧ ∃ bs', (upd H3 D (.lst (acc ++ [V.bl b]))) D = some (.lst (bs'.map V.bl)) ∧ bs' = (rs.take (i + 1)).map (fun r => nameS r.1 && r.2.2) ∧ Same G (upd H3 D (.lst (acc ++ [V.bl b]))) := fun b H3 e s3 => by
          refine ⟨_, s3 _ _ hD, ?_, bs ++ [b], by rw [upd_same, List.map_append]; rfl, by rw [step, e], same_put (sm.trans s3) nD⟩
          rw [List.length_map]
          exact small1000 (by omega)
        refine ⟨rfl, _, rfl, .str r.1, txtOf (.str r.1), rfl, tx_atom hat, fun H3 s3 => ⟨_, rfl, ?_⟩⟩
        show if nameS r.1 = true then _ else _
        cases en : nameS r.1 with
        | false => exact iteF2 rfl (put _ _ (by rw [en]; rfl) s3)
        | true =>
          refine iteT2 rfl ?_
          have hg : DGet H3 d (.str r.1) (some r.2.1) := .inl ⟨_, .inr r.1, .inr ⟨od, s3 _ _ (sm _ _ hGd)⟩, rfl, (val_at nd hr').symm⟩
          refine ⟨_, rfl, _, rfl, d, r.2.1, rfl, hg, r.2.1, r.2.2, rfl, (hpt.but h kG).same (sm.trans s3), put _ _ (by rw [en]; rfl) s3⟩
      · rintro H1 ⟨bs, hD, hbs, sm⟩
        rw [List.length_map, List.take_length] at hbs
        refine ⟨sm _ _ hGd, D, bs, rfl, .inl (.inl ?_), ?_⟩
        · rw [upd_ne (fun z => by rw [z, sm _ _ hGd] at hD; cases hD)]
          exact hD
        · have e : bs.all id = rs.all fun r => nameS r.1 && r.2.2 := by
            rw [hbs, List.all_map]
            rfl
          rw [e]
          exact q _ (back _ sm)
end
end Z9

set_option Elab.async false
set_option linter.all false
set_option maxRecDepth 100000
set_option maxHeartbeats 2000000
namespace ZN5
open PySem PySem.Spec PyProof.Rows L2 Cau Dr14 Z1 Z2 Z3 Z4
section
variable {P : Program} {w : World} {K : PySem.W.Frag} {mg : Str → Option Value} {base : Heap}
theorem inV_kn (s : Str) (kn : List Str) : inV (.str s) (kn.map V.str) = decide (s ∈ kn) := by
  rw [inV_strs, Bool.eq_iff_iff]
  simp
end
end ZN5

set_option Elab.async false
set_option linter.all false
set_option maxRecDepth 100000
set_option maxHeartbeats 2000000
/-! Sets of texts: made of a list or tuple, counted, sorted. -/
namespace TxtSet
open PySem PySem.Spec PyProof.Rows L2 Cau
/-- the text of an entry -/
def txE (e : Int × Value) : Str := match e.2 with
  | .str z _ => z
  | _ => ""
/-- an entry that is a text -/
def TxE (w : World) (e : Int × Value) : Prop := ∃ z tk, e.2 = Value.str z tk ∧ e.1 = hashStr w z
/-- the set of the texts L at a -/
structure SetS (w : World) (h : Heap) (a : Addr) (L : List Str) (o : Obj) (es : Array (Int × Value)) (ep : Nat) (t : SetTable) : Prop where
  ob : h.get? a = some o
  ex : o.ExactSet
  dat : o.data = .set es ep t
  tx : ∀ e ∈ es.toList, TxE w e
  nd : L.Nodup
  pm : (es.toList.map txE).Perm L
  few : L.length < 100
  fit : t.fits es.size = true
  ris : Ris t.place.toList
  led : w.params.followText "set-order" = true ∨ t.led = true
section
variable {P : Program} {w : World} {h h' : Heap} {a : Addr} {L : List Str} {o : Obj} {es : Array (Int × Value)} {ep : Nat} {t : SetTable}
theorem SetS.size (R : SetS w h a L o es ep t) : es.size = L.length := by
  rw [← Array.length_toList, ← List.length_map (f := txE), R.pm.length_eq]
theorem SetS.keep (R : SetS w h a L o es ep t) (k : ∀ o, h.get? a = some o → h'.get? a = some o) : SetS w h' a L o es ep t :=
  { ob := k o R.ob, ex := R.ex, dat := R.dat, tx := R.tx, nd := R.nd, pm := R.pm, few := R.few, fit := R.fit, ris := R.ris, led := R.led }
theorem tx_elems {l : List (Int × Value)} (g : ∀ e ∈ l, TxE w e) : ElemsOf (strKind P w) l := fun e he => by
  obtain ⟨z, tk, h1, h2⟩ := g e he
  refine ⟨⟨z, ?_, h2⟩, ?_⟩
  · rw [h1]
    exact strKind_is P w z tk
  · rw [h1]
    rfl
theorem tx_is {e : Int × Value} (g : TxE w e) (z : Str) : (strKind P w).is z e.2 = true ↔ txE e = z := by
  obtain ⟨y, tk, h1, _⟩ := g
  unfold txE
  rw [h1]
  constructor
  · intro q
    exact (strKind P w).inj _ _ _ (strKind_is P w y tk) q
  · intro q
    have q' : y = z := q
    subst q'
    exact strKind_is P w y tk
theorem SetS.bound (R : SetS w h a L o es ep t) : es.size < scanBound := by
  rw [R.size]
  exact Nat.lt_trans R.few (by decide)
end
section
variable {P : Program} {w : World} {A : Around} {E : Value → Shared → Prop} {s : Shared} {a : Addr} {L : List Str}
/-- once the entry has its place: the table may be laid anew -/
theorem put_end {g : Bool → Sem Unit} (hg : ∀ (b : Bool) (s₁ : Shared) (Q' : Unit → Shared → Prop), Q' () s₁ → wpAny (model P w) A (g b) Q' E s₁) {o : Obj} {es : Array (Int × Value)} {ep : Nat} {t : SetTable}
    (ho : s.heap.get? a = some o) (hex : o.ExactSet) (hd : o.data = .set es ep t) {new : Array (Int × Value)} {tab : SetTable} (tx : ∀ e ∈ new.toList, TxE w e) (nd : L.Nodup) (pm : (new.toList.map txE).Perm L) (few : L.length < 100)
    (fit : tab.fits new.size = true) (ris : Ris tab.place.toList) (led : w.params.followText "set-order" = true ∨ tab.led = true) {dummy : Bool} {R : Option Bool → Shared → Prop}
    (hR : ∀ h' o' es' ep' t', Heap.SameBut a s.heap h' → SetS w h' a L o' es' ep' t' → R (some true) { s with heap := h' }) :
    wpAny (model P w) A (do
        storeSet a new tab
        if (!dummy && tab.tooFull) = true then do
            g (relayAll tab new (SetTable.grown new.size)).2.2
            storeSet a (relayAll tab new (SetTable.grown new.size)).1 (relayAll tab new (SetTable.grown new.size)).2.1
            pure (some true)
          else pure (some true)) R E s := by
  have small : new.size < scanBound := by
    rw [← Array.length_toList, ← List.length_map (f := txE), pm.length_eq]
    exact Nat.lt_trans few (by decide)
  have fits1 := fits_of_scanBound small
  have at1 := store_at (es' := new) (t' := tab) ho hd
  have sb1 := Heap.SameBut.update s.heap a (Obj.putSet new tab)
  have plain : R (some true) { s with heap := s.heap.update a (Obj.putSet new tab) } := hR _ _ _ _ _ sb1 { ob := at1, ex := hex, dat := rfl, tx := tx, nd := nd, pm := pm, few := few, fit := fit, ris := ris, led := led }
  refine wpAny_bind (wpAny_storeSet_of ho hd ?_ fits1)
  split
  case isTrue =>
    obtain ⟨Z, hZ⟩ : ∃ Z, Z = relayAll tab new (SetTable.grown new.size) := ⟨_, rfl⟩
    have p2 := relayAll_perm tab new (SetTable.grown new.size)
    have f2 := relayAll_fits tab new (SetTable.grown new.size)
    have r2 := relayAll_ris tab new (SetTable.grown new.size)
    have l2 := relayAll_led tab new (SetTable.grown new.size)
    rw [← hZ] at p2 f2 r2 l2 ⊢
    have sz : Z.1.size = new.size := by
      have q := p2.length_eq
      rw [Array.length_toList, Array.length_toList] at q
      exact q
    refine wpAny_bind (hg _ _ _ ?_)
    have small2 : Z.1.size < scanBound := sz ▸ small
    refine wpAny_bind (wpAny_storeSet_of at1 rfl ?_ (fits_of_scanBound small2))
    have at2 := store_at (es' := Z.1) (t' := Z.2.1) at1 rfl
    have fin : SetS w _ a L _ Z.1 _ Z.2.1 := { ob := at2, ex := hex, dat := rfl, tx := fun e he => tx e (p2.mem_iff.mp he), nd := nd, pm := (p2.map txE).trans pm, few := few, fit := f2, ris := r2, led := led.imp id fun z => l2.trans z }
    exact wpAny_pure (hR _ _ _ _ _ (sb1.trans (Heap.SameBut.update _ a _)) fin)
  all_goals exact wpAny_pure plain
/-- the set behind an add -/
def added (L : List Str) (z : Str) : List Str := if z ∈ L then L else z :: L
theorem put_txt {z : Str} {tk : Tok} {o : Obj} {es : Array (Int × Value)} {ep : Nat} {t : SetTable} {Q : Bool → Shared → Prop} (R : SetS w s.heap a L o es ep t) (room : L.length + 1 < 100)
    (hQ : ∀ b h' o' es' ep' t', Heap.SameBut a s.heap h' → SetS w h' a (added L z) o' es' ep' t' → Q b { s with heap := h' }) : wpAny (model P w) A (setAddHashed a (.str z tk) (hashStr w z)) Q E s := by
  have key : (strKind P w).is z (.str z tk) = true := strKind_is P w z tk
  have scn : (Value.str z tk).scannable = true := rfl
  have el : ElemsOf (strKind P w) es.toList := tx_elems R.tx
  have hh : hashStr w z = (strKind P w).hash z := rfl
  have bnd := R.bound
  rw [hh]
  unfold setAddHashed setAddHashedIn
  refine wpAny_holding (wpAny_bind (wpAny_setState_of R.ob R.dat R.fit ?_))
  dsimp only
  rw [byScan_of scn bnd el]
  simp only [↓reduceIte]
  unfold setAddByScan
  refine wpAny_bind (wpAny_bind (wpAny_rule ?_))
  refine wpAny_bind (wpAny_setScan_of key R.ob R.dat R.fit el ?_)
  have there : z ∈ L ↔ ∃ e ∈ es.toList, (strKind P w).is z e.2 = true := by
    rw [← R.pm.mem_iff, List.mem_map]
    exact ⟨fun ⟨e, he, q⟩ => ⟨e, he, (tx_is (R.tx e he) z).mpr q⟩, fun ⟨e, he, q⟩ => ⟨e, he, (tx_is (R.tx e he) z).mp q⟩⟩
  cases hf : List.findIdx? (fun e => (strKind P w).is z e.2) es.toList with
  | some j =>
    obtain ⟨hj, pj, _⟩ := List.findIdx?_eq_some_iff_getElem.mp hf
    have hz : z ∈ L := there.mpr ⟨_, List.getElem_mem hj, pj⟩
    refine wpAny_pure (wpAny_pure (hQ _ s.heap o es ep t (Heap.SameBut.refl a s.heap) ?_))
    unfold added
    rw [if_pos hz]
    exact R
  | none =>
    have hz : z ∉ L := fun q => by
      obtain ⟨e, he, y⟩ := there.mp q
      have c := List.findIdx?_eq_none_iff.mp hf e he
      rw [y] at c
      cases c
    have hL : added L z = z :: L := if_neg hz
    rw [hL] at hQ
    have way : ∀ (b : Bool) {s₁ : Shared} {Q' : Unit → Shared → Prop}, Q' () s₁ → wpAny (model P w) A (match b with | true => rule "set.scan.the-table-gave-way" | false => pure ()) Q' E s₁ := by
      intro b s₁ Q' q
      cases b
      · exact wpAny_pure q
      · exact wpAny_rule q
    have p1 := layNew_perm t es ((strKind P w).hash z) (.str z tk)
    have f1 := layNew_fits t es ((strKind P w).hash z) (.str z tk)
    have r1 := layNew_ris t es ((strKind P w).hash z) (.str z tk) R.ris
    have l1 := layNew_led t es ((strKind P w).hash z) (.str z tk)
    dsimp only
    obtain ⟨Z, hZ⟩ : ∃ Z, Z = layNew t es ((strKind P w).hash z) (.str z tk) := ⟨_, rfl⟩
    rw [← hZ] at p1 f1 r1 l1 ⊢
    clear hZ
    obtain ⟨new, tab, dummy, gave⟩ := Z
    dsimp only at p1 f1 r1 l1 ⊢
    rw [Array.toList_push] at p1
    have pc := p1.trans (List.perm_append_singleton _ _)
    have tx : ∀ e ∈ new.toList, TxE w e := fun e he => by
      rcases List.mem_cons.mp (pc.mem_iff.mp he) with q | q
      · exact ⟨z, tk, by rw [q], by rw [q]; rfl⟩
      · exact R.tx e q
    have pm : (new.toList.map txE).Perm (z :: L) := (pc.map txE).trans (List.Perm.cons _ R.pm)
    have nd : (z :: L).Nodup := List.nodup_cons.mpr ⟨hz, R.nd⟩
    have few : (z :: L).length < 100 := room
    have led : w.params.followText "set-order" = true ∨ tab.led = true := R.led.imp id fun q => l1.trans q
    refine wpAny_bind (way _ ?_)
    split
    · refine wpAny_bind ?_
      rw [hashByValue_scannable 8 scn]
      refine wpAny_pure ?_
      refine put_end (L := z :: L) ?_ R.ob R.ex R.dat tx nd pm few ?_ ?_ ?_ ?_
      · intro b s₁ Q' q
        exact way b q
      · first | (split <;> first | exact f1 | exact SetTable.fits_plain_off f1) | exact f1
      · first | (split <;> exact r1) | exact r1
      · first | (split <;> exact led) | exact led
      · intro h' o' es' ep' t' sb r
        exact wpAny_pure (hQ _ h' _ _ _ _ sb r)
    · refine wpAny_bind (wpAny_pure ?_)
      simp only [↓reduceIte]
      refine put_end (L := z :: L) ?_ R.ob R.ex R.dat tx nd pm few f1 r1 led ?_
      · intro b s₁ Q' q
        exact way b q
      · intro h' o' es' ep' t' sb r
        exact wpAny_pure (hQ _ h' _ _ _ _ sb r)
end
/-! ### set(..) -/
/-- behind the first i of the texts -/
def met (zs : List Str) (i : Nat) : List Str := (zs.take i).foldl added []
theorem added_mem {L : List Str} {z y : Str} : y ∈ added L z ↔ y = z ∨ y ∈ L := by
  unfold added
  split
  · rename_i h
    exact ⟨.inr, fun q => q.elim (fun e => e ▸ h) id⟩
  · exact List.mem_cons
theorem added_len (L : List Str) (z : Str) : (added L z).length ≤ L.length + 1 := by
  unfold added
  split
  · exact Nat.le_succ _
  · exact Nat.le_refl _
theorem met_next {zs : List Str} {i : Nat} {z : Str} (h : zs[i]? = some z) : met zs (i + 1) = added (met zs i) z := by
  unfold met
  rw [List.take_succ, h, List.foldl_append]
  rfl
theorem met_len (zs : List Str) : ∀ i, (met zs i).length ≤ i
  | 0 => by simp [met]
  | i + 1 => by
    cases h : zs[i]? with
    | none =>
      have e : met zs (i + 1) = met zs i := by
        unfold met
        rw [List.take_succ, h]
        simp
      rw [e]
      exact Nat.le_succ_of_le (met_len zs i)
    | some z =>
      rw [met_next h]
      exact Nat.le_trans (added_len _ _) (Nat.succ_le_succ (met_len zs i))
theorem met_mem {zs : List Str} {y : Str} : ∀ i, y ∈ met zs i ↔ y ∈ zs.take i
  | 0 => by simp [met]
  | i + 1 => by
    cases h : zs[i]? with
    | none =>
      have e : zs.take (i + 1) = zs.take i := by
        rw [List.take_succ, h]
        simp
      have e2 : met zs (i + 1) = met zs i := by
        unfold met
        rw [e]
      rw [e, e2]
      exact met_mem i
    | some z =>
      rw [met_next h, added_mem, met_mem i, List.take_succ, h]
      simp [or_comm]
/-- a set as it is made -/
def newOb (w : World) : Obj := { cls := .type "set", dict := none, data := .set #[] 0 (.fresh 0 0 (!w.params.followText "set-order")) }
theorem setS_new {w : World} {h : Heap} {a : Addr} (e : h.get? a = some (newOb w)) : SetS w h a [] (newOb w) #[] 0 (.fresh 0 0 (!w.params.followText "set-order")) where
  ob := e
  ex := ⟨rfl, rfl, rfl⟩
  dat := rfl
  tx := fun _ q => by cases q
  nd := List.nodup_nil
  pm := List.Perm.refl _
  few := by decide
  fit := rfl
  ris := List.Pairwise.nil
  led := by
    show _ ∨ (!w.params.followText "set-order") = true
    cases w.params.followText "set-order"
    · exact .inr rfl
    · exact .inl rfl
section
variable {P : Program} {w : World} {A : Around} {E : Value → Shared → Prop} {s : Shared}
theorem upd_loop {I : Addr} {fp wr : List Addr} {G : Array GenState → Array GenState → Prop} {n : Nat} {Pv : Nat → Value → Prop} {St : Nat → Shared → Prop} {R : Result → Shared → Prop} (W : WalksS P w A.in1 I fp wr G n Pv St) (S : Addr) (hS : S ∉ fp) (zs : List Str) (hn : n = zs.length) (few : n < 99)
    (val : ∀ i v, Pv i v → ∃ z t, zs[i]? = some z ∧ v = .str z t) : ∀ (k i : Nat) (s : Shared), n - i = k → i ≤ n → St i s → (∃ o es ep t, SetS w s.heap S (met zs i) o es ep t) →
      (∀ s' o es ep t, Moved (S :: wr) G s s' → SetS w s'.heap S (met zs n) o es ep t → R (.ok (.ret .none)) s') → codeAny (model P w) A (.builtin "set.update.loop" ⟨[.ref S, .ref I], []⟩) R s := by
  have offW : S ∉ wr := fun q => hS (W.sub _ q)
  have wide : ∀ b ∈ wr, b ∈ S :: wr := fun _ q => List.mem_cons_of_mem _ q
  intro k
  induction k with
  | zero =>
    rintro i s hk hi st ⟨o, es, ep, t, r⟩ hR
    obtain rfl : i = n := by omega
    refine codeAny_builtin F.entry_set_update_loop ?_
    rw [Around.under_plainId F.plain_set_update_loop _]
    change wpAny _ A.in1 (pyNext (.ref I) >>= _) _ _ s
    refine wpAny_bind (W.done s _ _ st ?_)
    intro s' mv
    change wpAny _ A.in1 (ret Value.none) _ _ s'
    exact wpAny_pure (hR s' _ _ _ _ (mv.mono wide) (r.keep fun _ e => mv.heap S _ offW e))
  | succ k ih =>
    rintro i s hk hi st ⟨o, es, ep, t, r⟩ hR
    have lt : i < n := by omega
    refine codeAny_builtin F.entry_set_update_loop ?_
    rw [Around.under_plainId F.plain_set_update_loop _]
    change wpAny _ A.in1 (pyNext (.ref I) >>= _) _ _ s
    refine wpAny_bind (W.item i s _ _ lt st ?_)
    intro v s' pv st' mv
    obtain ⟨z, tz, hz, rfl⟩ := val i v pv
    have r' : SetS w s'.heap S (met zs i) o es ep t := r.keep fun _ e => mv.heap S _ offW e
    change wpAny _ A.in1 (holding [Value.str z tz] (setAdd S (.str z tz)) >>= _) _ _ s'
    refine wpAny_bind (wpAny_holding ?_)
    unfold setAdd
    refine wpAny_holding (wpAny_bind ((strKind P w).pyHash (strKind_is P w z tz) ?_))
    have room : (met zs i).length + 1 < 100 := by
      have := met_len zs i
      omega
    refine put_txt (s := { s' with toks := s'.toks + 1 }) r' room ?_
    intro b h' o' es' ep' t' sb r2
    rw [← met_next hz] at r2
    refine wpAny_pure ⟨plainId_quiet F.plain_set_update_loop _, ih (i + 1) _ (by omega) lt (W.frame _ s' _ _ st' (Nat.le_succ _) ?_) ⟨_, _, _, _, r2⟩ ?_⟩
    · intro b hb o e
      rw [sb.2 b fun q : b = S => hS (q ▸ hb)]
      exact e
    · intro s'' o2 es2 ep2 t2 mv2 r3
      refine hR s'' _ _ _ _ (Moved.trans W.gtrans ((mv.mono wide).then_heap (Nat.le_succ _) ?_) mv2) r3
      intro b o hb e
      rw [sb.2 b fun q : b = S => hb (q ▸ List.mem_cons_self)]
      exact e
theorem strs_at : ∀ {us : List Value} {zs : List Str}, StrsAre us zs → ∀ (i : Nat) (v : Value), us[i]? = some v → ∃ z t, zs[i]? = some z ∧ v = .str z t
  | _, _, .nil, i, v, h => by simp at h
  | _, _, .cons z t r, 0, v, h => ⟨z, t, rfl, (Option.some.inj h).symm⟩
  | _, _, .cons z t r, i + 1, v, h => by
    rw [List.getElem?_cons_succ] at h
    exact strs_at r i v h
set_option maxHeartbeats 4000000 in
theorem set_of_list {l : Addr} {items : Array Value} (zs : List Str) {Q : Value → Shared → Prop} (calm : A.handled = none) (seq : s.heap.IsList l items) (txt : StrsAre items.toList zs) (few : zs.length < 99)
    (h : ∀ (h' : Heap) (tk : Nat) o es ep t, SetS w h' s.heap.objs.size (met zs zs.length) o es ep t → (∀ b o, s.heap.get? b = some o → h'.get? b = some o) → Q (.ref s.heap.objs.size) { s with heap := h', toks := tk }) :
    wpAny (model P w) A (call (.type "set") [.ref l]) Q E s := by
  have size : items.size = zs.length := by
    rw [← Array.length_toList]
    exact txt.length
  obtain ⟨c, tl, mro⟩ := F.called_set.mro
  have made := F.called_set.made
  have subs := F.called_set.sub
  refine wpAny_call (codeAny_of_tree ?_)
  change wpAny _ _ (callAny (.type "set") _) _ _ _
  refine wpAny_pure ⟨Code.quiet_builtin _ (by decide +kernel), codeAny_builtin F.entry_type_call ?_⟩
  rw [Around.under_plain (weight_type_call_type "set" [.ref l] []) rfl]
  have n1 := F.called_set.notType
  have n2 := F.called_set.canCreate
  have n3 := F.typeCall_set_1 (.ref l)
  repeat (any_goals (first | assumption | wp_step))
  refine codeAny_mono (code_set_led1 (.ref l) (E := E) (Q₁ := fun ob s₁ => ob = .ref s.heap.objs.size ∧ s₁ = { s with heap := s.heap.push (newOb w) }) ⟨rfl, rfl⟩) ?_
  intro r s₁ hr
  match r, hr with
  | .ok (.ret ob), hr =>
    obtain ⟨rfl, rfl⟩ := hr
    have atS : (s.heap.push (newOb w)).get? s.heap.objs.size = some (newOb w) := Heap.get?_push_size _ rfl
    have isS : Shared.TypeIs { s with heap := s.heap.push (newOb w) } (.ref s.heap.objs.size) "set" := ⟨_, atS, rfl⟩
    have i1 := F.called_set.init.lookup
    have i2 := F.called_set.init.bind (.ref s.heap.objs.size)
    repeat (any_goals (first | assumption | wp_step))
    refine codeAny_mono (codeAny_call_builtin (R := wants (fun r s₂ => r = .none ∧ ∃ h' tk o es ep t, s₂ = { s with heap := h', toks := tk } ∧ SetS w h' s.heap.objs.size (met zs zs.length) o es ep t ∧ ∀ b o, s.heap.get? b = some o → h'.get? b = some o) E) F.called_set.init.plain F.entry_set_init (check_set_init_1 isS ?_)) ?_
    · obtain ⟨ol, el, cl, nl, dl⟩ := seq
      obtain ⟨oc, od, oda, osl⟩ := ol
      simp only at cl dl
      subst cl dl
      have el' : (s.heap.push (newOb w)).get? l = some { cls := .type "list", dict := od, data := .seq items nl, slots := osl } := Heap.get?_push_of_some _ el
      have s1 := F.sub_list_set
      have s2 := F.sub_list_frozenset
      have s3 : (Value.type "list" == Value.type "dict") = false := by decide
      have seq1 : (s.heap.push (newOb w)).IsList l items := ⟨_, el', rfl, nl, rfl⟩
      unfold Builtin.«set.__init__» noKeywords Builtin.Frozenset.updateFrom
      generalize hPI : pyIter = PI
      wp_walk
      subst hPI
      refine wpAny_pyIter_list seq1 ?_
      refine wpAny_bind (wpAny_runValue ?_)
      have below : l < s.heap.objs.size := Heap.lt_size el
      have calm3 : A.in1.in1.in1.handled = none := by simp [calm]
      have pushed : (s.heap.push (newOb w)).objs.size = s.heap.objs.size + 1 := Heap.size_push ..
      have offI : l ≠ (s.heap.push (newOb w)).objs.size := pushed ▸ Nat.ne_of_lt (Nat.lt_succ_of_lt below)
      have offS : s.heap.objs.size ∉ [(s.heap.push (newOb w)).objs.size, l] := by
        rw [pushed]
        intro q
        rcases List.mem_cons.mp q with q | q
        · exact Nat.ne_of_lt (Nat.lt_succ_self _) q
        · exact Nat.ne_of_gt below (List.mem_singleton.mp q)
      have val : ∀ (i : Nat) (v : Value), items[i]? = some v → ∃ z t, zs[i]? = some z ∧ v = .str z t := fun i v hv => strs_at txt i v (by rw [Array.getElem?_toList]; exact hv)
      have start : ((s.heap.push (newOb w)).push { cls := .type "list_iterator", data := .fields #[.ref l, .int 0 0] }).get? s.heap.objs.size = some (newOb w) := Heap.get?_push_of_some _ atS
      refine upd_loop ((Walks.list calm3 _ l offI items).toS) s.heap.objs.size offS zs size (by omega) val (items.size - 0) 0 _ (by omega) (Nat.zero_le _) ⟨⟨_, Heap.get?_push_size _ rfl, rfl, rfl⟩, (seq1.push _)⟩ ⟨_, _, _, _, setS_new start⟩ ?_
      intro s' o es ep t mv r
      obtain ⟨h', g', d', tk', os'⟩ := s'
      obtain rfl : g' = s.gens := mv.gens
      obtain rfl : d' = s.drawn := mv.drawn
      obtain rfl : os' = s.os := mv.os
      change wpAny _ _ _ _ _ _
      refine wpAny_pure ?_
      change wpAny _ _ (ret Value.none) _ _ _
      rw [size] at r
      refine wpAny_pure ⟨rfl, h', tk', o, es, ep, t, rfl, r, fun b ob e => ?_⟩
      have hb := Heap.lt_size e
      refine mv.heap b ob ?_ (Heap.get?_push_of_some _ (Heap.get?_push_of_some _ e))
      rw [pushed]
      intro q
      rcases List.mem_cons.mp q with q | q
      · exact Nat.ne_of_lt hb q
      · exact Nat.ne_of_lt (Nat.lt_succ_of_lt hb) (List.mem_singleton.mp q)
    · intro r₂ s₂ hr₂
      match r₂, hr₂ with
      | .ok (.ret rv), hr₂ =>
        obtain ⟨rfl, h', tk, o, es, ep, t, rfl, r, kept⟩ := hr₂
        repeat (any_goals (first | assumption | wp_step))
        exact h _ _ _ _ _ _ r kept
      | .error e, hr₂ => exact hr₂
      | .ok .next, hr₂ => exact hr₂.elim
      | .ok .brk, hr₂ => exact hr₂.elim
      | .ok .cont, hr₂ => exact hr₂.elim
  | .error e, hr => exact hr
  | .ok .next, hr => exact hr.elim
  | .ok .brk, hr => exact hr.elim
  | .ok .cont, hr => exact hr.elim
set_option maxHeartbeats 4000000 in
theorem set_of_tuple {l : Addr} {items : Array Value} (zs : List Str) {Q : Value → Shared → Prop} (calm : A.handled = none) (seq : s.heap.IsTuple l items) (txt : StrsAre items.toList zs) (few : zs.length < 99)
    (h : ∀ (h' : Heap) (tk : Nat) o es ep t, SetS w h' s.heap.objs.size (met zs zs.length) o es ep t → (∀ b o, s.heap.get? b = some o → h'.get? b = some o) → Q (.ref s.heap.objs.size) { s with heap := h', toks := tk }) :
    wpAny (model P w) A (call (.type "set") [.ref l]) Q E s := by
  have size : items.size = zs.length := by
    rw [← Array.length_toList]
    exact txt.length
  obtain ⟨c, tl, mro⟩ := F.called_set.mro
  have made := F.called_set.made
  have subs := F.called_set.sub
  refine wpAny_call (codeAny_of_tree ?_)
  change wpAny _ _ (callAny (.type "set") _) _ _ _
  refine wpAny_pure ⟨Code.quiet_builtin _ (by decide +kernel), codeAny_builtin F.entry_type_call ?_⟩
  rw [Around.under_plain (weight_type_call_type "set" [.ref l] []) rfl]
  have n1 := F.called_set.notType
  have n2 := F.called_set.canCreate
  have n3 := F.typeCall_set_1 (.ref l)
  repeat (any_goals (first | assumption | wp_step))
  refine codeAny_mono (code_set_led1 (.ref l) (E := E) (Q₁ := fun ob s₁ => ob = .ref s.heap.objs.size ∧ s₁ = { s with heap := s.heap.push (newOb w) }) ⟨rfl, rfl⟩) ?_
  intro r s₁ hr
  match r, hr with
  | .ok (.ret ob), hr =>
    obtain ⟨rfl, rfl⟩ := hr
    have atS : (s.heap.push (newOb w)).get? s.heap.objs.size = some (newOb w) := Heap.get?_push_size _ rfl
    have isS : Shared.TypeIs { s with heap := s.heap.push (newOb w) } (.ref s.heap.objs.size) "set" := ⟨_, atS, rfl⟩
    have i1 := F.called_set.init.lookup
    have i2 := F.called_set.init.bind (.ref s.heap.objs.size)
    repeat (any_goals (first | assumption | wp_step))
    refine codeAny_mono (codeAny_call_builtin (R := wants (fun r s₂ => r = .none ∧ ∃ h' tk o es ep t, s₂ = { s with heap := h', toks := tk } ∧ SetS w h' s.heap.objs.size (met zs zs.length) o es ep t ∧ ∀ b o, s.heap.get? b = some o → h'.get? b = some o) E) F.called_set.init.plain F.entry_set_init (check_set_init_1 isS ?_)) ?_
    · obtain ⟨ol, el, cl, nl, dl⟩ := seq
      obtain ⟨oc, od, oda, osl⟩ := ol
      simp only at cl dl
      subst cl dl
      have el' : (s.heap.push (newOb w)).get? l = some { cls := .type "tuple", dict := od, data := .seq items nl, slots := osl } := Heap.get?_push_of_some _ el
      have s1 := F.sub_tuple_set
      have s2 := F.sub_tuple_frozenset
      have s3 : (Value.type "tuple" == Value.type "dict") = false := by decide
      have seq1 : (s.heap.push (newOb w)).IsTuple l items := ⟨_, el', rfl, nl, rfl⟩
      unfold Builtin.«set.__init__» noKeywords Builtin.Frozenset.updateFrom
      generalize hPI : pyIter = PI
      wp_walk
      subst hPI
      refine wpAny_pyIter_tuple seq1 ?_
      refine wpAny_bind (wpAny_runValue ?_)
      have below : l < s.heap.objs.size := Heap.lt_size el
      have calm3 : A.in1.in1.in1.handled = none := by simp [calm]
      have pushed : (s.heap.push (newOb w)).objs.size = s.heap.objs.size + 1 := Heap.size_push ..
      have offI : l ≠ (s.heap.push (newOb w)).objs.size := pushed ▸ Nat.ne_of_lt (Nat.lt_succ_of_lt below)
      have offS : s.heap.objs.size ∉ [(s.heap.push (newOb w)).objs.size, l] := by
        rw [pushed]
        intro q
        rcases List.mem_cons.mp q with q | q
        · exact Nat.ne_of_lt (Nat.lt_succ_self _) q
        · exact Nat.ne_of_gt below (List.mem_singleton.mp q)
      have val : ∀ (i : Nat) (v : Value), items[i]? = some v → ∃ z t, zs[i]? = some z ∧ v = .str z t := fun i v hv => strs_at txt i v (by rw [Array.getElem?_toList]; exact hv)
      have start : ((s.heap.push (newOb w)).push { cls := .type "tuple_iterator", data := .fields #[.ref l, .int 0 0] }).get? s.heap.objs.size = some (newOb w) := Heap.get?_push_of_some _ atS
      refine upd_loop ((Walks.tuple calm3 _ l offI items).toS) s.heap.objs.size offS zs size (by omega) val (items.size - 0) 0 _ (by omega) (Nat.zero_le _) ⟨⟨_, Heap.get?_push_size _ rfl, rfl, rfl⟩, (seq1.push _)⟩ ⟨_, _, _, _, setS_new start⟩ ?_
      intro s' o es ep t mv r
      obtain ⟨h', g', d', tk', os'⟩ := s'
      obtain rfl : g' = s.gens := mv.gens
      obtain rfl : d' = s.drawn := mv.drawn
      obtain rfl : os' = s.os := mv.os
      change wpAny _ _ _ _ _ _
      refine wpAny_pure ?_
      change wpAny _ _ (ret Value.none) _ _ _
      rw [size] at r
      refine wpAny_pure ⟨rfl, h', tk', o, es, ep, t, rfl, r, fun b ob e => ?_⟩
      have hb := Heap.lt_size e
      refine mv.heap b ob ?_ (Heap.get?_push_of_some _ (Heap.get?_push_of_some _ e))
      rw [pushed]
      intro q
      rcases List.mem_cons.mp q with q | q
      · exact Nat.ne_of_lt hb q
      · exact Nat.ne_of_lt (Nat.lt_succ_of_lt hb) (List.mem_singleton.mp q)
    · intro r₂ s₂ hr₂
      match r₂, hr₂ with
      | .ok (.ret rv), hr₂ =>
        obtain ⟨rfl, h', tk, o, es, ep, t, rfl, r, kept⟩ := hr₂
        repeat (any_goals (first | assumption | wp_step))
        exact h _ _ _ _ _ _ r kept
      | .error e, hr₂ => exact hr₂
      | .ok .next, hr₂ => exact hr₂.elim
      | .ok .brk, hr₂ => exact hr₂.elim
      | .ok .cont, hr₂ => exact hr₂.elim
  | .error e, hr => exact hr
  | .ok .next, hr => exact hr.elim
  | .ok .brk, hr => exact hr.elim
  | .ok .cont, hr => exact hr.elim
end
end TxtSet

set_option Elab.async false
set_option linter.all false
set_option maxRecDepth 100000
set_option maxHeartbeats 2000000
/-! Sets of texts as rules. -/
namespace TxtSet
open PySem PySem.Spec PyProof.Rows L2 Cau
/-- the set of the texts L at a -/
def SetT (w : World) (a : Addr) (L : List Str) : HO := .ext fun h => ∃ o es ep t, SetS w h a L o es ep t
theorem setT_ok {P : Program} {w : World} {H : Hp} {h : Heap} {a : Addr} {L : List Str} {o : Obj} {es : Array (Int × Value)} {ep : Nat} {t : SetTable} (R : SetS w h a L o es ep t) : ObjOk P w H h a (SetT w a L) :=
  ⟨⟨o, es, ep, t, R⟩, ⟨o, R.ob⟩, fun _ _ ⟨o, es, ep, t, r⟩ k => ⟨o, es, ep, t, r.keep k⟩⟩
theorem strs_vals : ∀ {zs : List Str} {us : List Value}, Vals (zs.map V.str) us → StrsAre us zs
  | [], _, .nil => .nil
  | z :: r, _, .cons h t => by
    obtain ⟨tk, rfl⟩ := h
    exact .cons z tk (strs_vals t)
def rSetT (K : PySem.W.Frag) (w : World) : List V → Hp → VK → Prop := fun xs H Q => ∃ (l : Addr) (zs : List Str), xs = [.ref l] ∧ (SqL K H l (zs.map V.str) ∨ SqT K H l (zs.map V.str)) ∧ zs.length < 99 ∧
  ∀ (a : Addr) (L : List Str), H a = none → L.Nodup → (∀ z, z ∈ L ↔ z ∈ zs) → Q (.ref a) (upd H a (SetT w a L))
theorem cr_setT {X : Cx} (calm : X.calm = true) : CallR X (.type "set") (rSetT X.K X.w) := by
  intro pins s σ H xs us Q I r ⟨l, zs, hx, hq, few, q⟩
  subst hx
  rw [Vals.ref1 r]
  have fresh := I.hok.fresh (Nat.le_refl s.heap.objs.size)
  have mem : ∀ z, z ∈ met zs zs.length ↔ z ∈ zs := fun z => by rw [met_mem, List.take_length]
  have done : ∀ (h' : Heap) (tk : Nat) o es ep t, SetS X.w h' s.heap.objs.size (met zs zs.length) o es ep t → (∀ b o, s.heap.get? b = some o → h'.get? b = some o) → EP X pins σ Q (.ref s.heap.objs.size) { s with heap := h', toks := tk } :=
    fun h' tk o es ep t r k => ⟨.ref _, _, I.laid (t' := tk) k (Nat.le_refl _) (setT_ok r), rfl, q _ _ fresh r.nd mem⟩
  rcases hq with hq | hq
  · obtain ⟨its, rv, p, hz⟩ := I.list hq
    exact set_of_list zs (I.ok.hd calm) p.isList (by simpa using strs_vals rv) few done
  · obtain ⟨its, rv, p, hz⟩ := I.tuple hq
    exact set_of_tuple zs (I.ok.hd calm) (show s.heap.IsTuple l its.toArray from p) (by simpa using strs_vals rv) few done
def rLenT (w : World) : List V → Hp → VK → Prop := fun xs H Q => ∃ (a : Addr) (L : List Str), xs = [.ref a] ∧ H a = some (SetT w a L) ∧ Q (.int L.length) H
theorem cr_lenT {X : Cx} : CallR X (.builtin "len") (rLenT X.w) := by
  intro pins s σ H xs us Q I r ⟨a, L, hx, ha, q⟩
  subst hx
  rw [Vals.ref1 r]
  obtain ⟨⟨o, es, ep, t, R⟩, _⟩ := I.hok a _ ha
  have few := R.few
  have sz := R.size
  refine call_len_set R.ob R.ex R.dat R.fit ?_ ⟨.int L.length, H, I.tok _, ⟨_, by rw [sz]⟩, q⟩
  rw [sz]
  have : L.length < 2 ^ 63 := Nat.lt_trans few (by decide)
  exact_mod_cast this
def rSortT (w : World) : List V → Hp → VK → Prop := fun xs H Q => ∃ (a : Addr) (L : List Str), xs = [.ref a] ∧ H a = some (SetT w a L) ∧ L.length < 64 ∧ ∀ (zs : List Str) (p : Addr), zs.Perm L → sortedS zs = true → H p = none → Q (.ref p) (upd H p (.lst (zs.map V.str)))
theorem strs_of {us : List Value} (h : ∀ u ∈ us, ∃ z t, u = Value.str z t) : StrsAre us (us.map fun u => match u with
    | .str z _ => z
    | _ => ("" : Str)) := by
  induction us with
  | nil => exact .nil
  | cons u r ih =>
    obtain ⟨z, t, rfl⟩ := h u List.mem_cons_self
    exact .cons z t (ih fun v hv => h v (List.mem_cons_of_mem _ hv))
theorem cr_sortT {X : Cx} (calm : X.calm = true) : CallR X (.builtin "sorted") (rSortT X.w) := by
  intro pins s σ H xs us Q I r ⟨a, L, hx, ha, few, q⟩
  subst hx
  rw [Vals.ref1 r]
  obtain ⟨⟨o, es, ep, t, R⟩, _⟩ := I.hok a _ ha
  refine Calls.call_function_entry kind_sorted plain_sorted entry_sorted (args_sorted1 _) ?_
  unfold Builtin.«sorted»
  refine wpAny_bind (m := checkCount "sorted" 1 1 _) (wpAny_pure ?_)
  refine wpAny_bind (collect_set (A := X.A.in1) (I.ok.hd calm) ⟨o, R.ob, R.ex.1, R.dat⟩ R.fit R.bound R.ris R.led ?_)
  intro s1 vs k1 grown g1 o1 pm
  obtain ⟨tx, htx⟩ : ∃ tx, tx = vs.map fun u => match u with
    | .str z _ => z
    | _ => ("" : Str) := ⟨_, rfl⟩
  have all : ∀ u ∈ vs, ∃ z t, u = Value.str z t := fun u hu => by
    obtain ⟨e, he, rfl⟩ := List.mem_map.mp (pm.mem_iff.mp hu)
    obtain ⟨z, tk, h1, _⟩ := R.tx e he
    exact ⟨z, tk, h1⟩
  have are : StrsAre vs tx := htx ▸ strs_of all
  have pmL : tx.Perm L := by
    refine List.Perm.trans ?_ R.pm
    have p2 := pm.map fun u => match u with
      | Value.str z _ => z
      | _ => ("" : Str)
    rw [List.map_map] at p2
    rw [htx]
    exact p2
  have len : vs.length = L.length := by
    rw [are.length, pmL.length_eq]
  have few' : vs.length < 64 := len ▸ few
  refine wpAny_bind (wpAny_newList ?_ (small64 few'))
  have laid : (s1.heap.push (seqObj "list" vs.toArray 0)).get? s1.heap.objs.size = some (seqObj "list" vs.toArray 0) := Heap.get?_push_size _ rfl
  refine wpAny_bind (wpAny_holding (wpAny_call_entry slot_list_sort ⟨_, laid, rfl⟩ entry_list_sort (list_sort_treeK strKind_oneLt laid are.keysOf (fun v₁ v₂ rest e => keyKind_strs (by rw [← e]; exact are)) few' ?_) (args_list_sort _)))
  intro st' hp hs
  obtain ⟨zs, z1, z2, z3⟩ := sorted_out_str are hp hs
  refine ⟨_, rfl, ?_⟩
  obtain ⟨c, hc⟩ := sortedHeap_at (vs := vs) (out := (arrOf st').map (·.2)) laid
  have free : H s1.heap.objs.size = none := I.hok.fresh grown
  have old : ∀ b u, s.heap.get? b = some u → (sortedHeap (s1.heap.push (seqObj "list" vs.toArray 0)) s1.heap.objs.size vs ((arrOf st').map (·.2))).get? b = some u := fun b u e => by
    have e1 := k1 b u e
    have lt := Heap.lt_size e1
    rw [sortedHeap_old (Nat.ne_of_lt lt) (by rw [size_push']; exact Nat.lt_succ_of_lt lt)]
    exact Heap.get?_push_of_some _ e1
  have zl : (zs.map V.str).length ≤ sizeLine := by
    rw [List.length_map, z2.length_eq, pmL.length_eq]
    exact small64 few
  have J : Inv X pins σ (upd H s1.heap.objs.size (.lst (zs.map V.str))) { s with heap := sortedHeap (s1.heap.push (seqObj "list" vs.toArray 0)) s1.heap.objs.size vs ((arrOf st').map (·.2)), gens := s1.gens, drawn := s1.drawn, toks := s1.toks } :=
    I.call (ch := []) (Un.laid old grown free) (I.hok.laid old grown ⟨zl, _, c, vals_of_strs z1, hc⟩) (by rw [g1]; exact I.bare) (fun _ z => nomatch z)
  have eo : ({ s1 with heap := sortedHeap (s1.heap.push (seqObj "list" vs.toArray 0)) s1.heap.objs.size vs ((arrOf st').map (·.2)) } : Shared) =
      { s with heap := sortedHeap (s1.heap.push (seqObj "list" vs.toArray 0)) s1.heap.objs.size vs ((arrOf st').map (·.2)), gens := s1.gens, drawn := s1.drawn, toks := s1.toks } := by
    obtain ⟨_, _, _, _, _⟩ := s1
    obtain ⟨_, _, _, _, _⟩ := s
    simp only at o1
    subst o1
    rfl
  refine wpAny_pure ?_
  have fin : EP X pins σ Q (.ref s1.heap.objs.size) { s1 with heap := sortedHeap (s1.heap.push (seqObj "list" vs.toArray 0)) s1.heap.objs.size vs ((arrOf st').map (·.2)) } := by
    rw [eo]
    exact ⟨.ref _, _, J, rfl, q zs _ (z2.trans pmL) z3 free⟩
  exact ⟨_, rfl, fin⟩
end TxtSet

set_option Elab.async false
set_option linter.all false
set_option maxRecDepth 100000
set_option maxHeartbeats 2000000
namespace ZN6
open PySem PySem.Spec PyProof.Rows L2 Cau Dr14 Z1 Z2 Z3 Z4 ZN5 TxtSet
/-- what the top has written of an own error without an __init__ -/
structure TxtE (K : PySem.W.Frag) (mg : Str → Option Value) (x : Str) (C : Addr) : Prop where
  g : mg x = some (.ref C)
  x : PySem.W.excIn K C [.type "ValueError", .type "Exception", .type "BaseException", .type "object"] "ValueError.__new__" = true
  k : PySem.W.keepIn K (.ref C) = true
  b : PySem.W.subIn K (.ref C) (.type "BaseException") = some true
  t : PySem.W.typeIn K (.ref C) = some (.type "type")
/-! ### lists of names -/
/-- a value as a list of names: the text of each item that is one -/
def Nv (K : PySem.W.Frag) (H : Hp) (x : V) (o : Option (List (Option Str))) : Prop :=
  (∃ p xs os, x = .ref p ∧ SqX K H p xs ∧ xs.length = os.length ∧ xs.length ≤ 90 ∧ (∀ (i : Nat) v z, xs[i]? = some v → os[i]? = some z → Tx K H v z) ∧ o = some os) ∨ (NotSeq H x ∧ o = none)
def namesB (os : List (Option Str)) : Bool := os.all nameO && decide (os.Nodup)
def namesO : Option (List (Option Str)) → Bool
  | some os => namesB os
  | none => false
theorem tx_same {K : PySem.W.Frag} {H H' : Hp} {v : V} {z : Option Str} (h : Tx K H v z) (s : Same H H') : Tx K H' v z := by
  rcases h with h | ⟨e, t, ty, b⟩
  · exact .inl h
  · refine .inr ⟨e, t, ?_, b⟩
    cases ty with
    | base b =>
      cases b with
      | non => exact .base .non
      | bl x => exact .base (.bl x)
      | int i => exact .base (.int i)
      | str x => exact .base (.str x)
      | flt x => exact .base (.flt x)
      | lst e => exact .base (.lst (s _ _ e))
      | frz e => exact .base (.frz (s _ _ e))
      | tup e => exact .base (.tup (s _ _ e))
      | dK e => exact .base (.dK (s _ _ e))
      | dT e => exact .base (.dT (s _ _ e))
    | byt y => exact .byt y
    | set e => exact .set (s _ _ e)
    | kList e c => exact .kList e c
    | kTuple e c => exact .kTuple e c
    | kDict e c => exact .kDict e c
    | fTuple e => exact .fTuple (s _ _ e)
    | fDict e => exact .fDict (s _ _ e)
theorem Nv.same {K : PySem.W.Frag} {H H' : Hp} {x : V} {o : Option (List (Option Str))} (h : Nv K H x o) (s : Same H H') : Nv K H' x o := by
  rcases h with ⟨p, xs, os, e, h, l, l2, a, r⟩ | ⟨h, r⟩
  · exact .inl ⟨p, xs, os, e, h.same s, l, l2, fun i v z e1 e2 => tx_same (a i v z e1 e2) s, r⟩
  · exact .inr ⟨h.same s, r⟩
/-- as many members as items: none comes twice -/
def thin : List Str → List Str
  | [] => []
  | z :: r => if z ∈ r then thin r else z :: thin r
theorem thin_mem {y : Str} : ∀ zs : List Str, y ∈ thin zs ↔ y ∈ zs
  | [] => Iff.rfl
  | z :: r => by
    unfold thin
    split
    · rename_i h
      rw [thin_mem r, List.mem_cons]
      exact ⟨.inr, fun q => q.elim (fun e => e ▸ h) id⟩
    · rw [List.mem_cons, List.mem_cons, thin_mem r]
theorem thin_nodup : ∀ zs : List Str, (thin zs).Nodup
  | [] => List.nodup_nil
  | z :: r => by
    unfold thin
    split
    · exact thin_nodup r
    · rename_i h
      exact List.nodup_cons.mpr ⟨fun q => h ((thin_mem r).mp q), thin_nodup r⟩
theorem thin_le : ∀ zs : List Str, (thin zs).length ≤ zs.length
  | [] => Nat.le_refl _
  | z :: r => by
    unfold thin
    split
    · exact Nat.le_succ_of_le (thin_le r)
    · exact Nat.succ_le_succ (thin_le r)
theorem thin_eq : ∀ zs : List Str, (thin zs).length = zs.length ↔ zs.Nodup
  | [] => by simp [thin]
  | z :: r => by
    unfold thin
    rw [List.nodup_cons]
    split
    · rename_i h
      have := thin_le r
      constructor
      · intro e
        simp at e
        omega
      · intro ⟨n, _⟩
        exact absurd h n
    · rename_i h
      rw [List.length_cons, List.length_cons]
      constructor
      · intro e
        exact ⟨h, (thin_eq r).mp (by omega)⟩
      · intro ⟨_, n⟩
        rw [(thin_eq r).mpr n]
theorem nodup_le : ∀ (l d : List Str), l.Nodup → (∀ x ∈ l, x ∈ d) → l.length ≤ d.length
  | [], _, _, _ => Nat.zero_le _
  | x :: l, d, n, h => by
    obtain ⟨n1, n2⟩ := List.nodup_cons.mp n
    have hx := h x List.mem_cons_self
    have q := nodup_le l (d.erase x) n2 fun y hy => by
      have ne : y ≠ x := fun z => n1 (z ▸ hy)
      exact (List.mem_erase_of_ne ne).mpr (h y (List.mem_cons_of_mem _ hy))
    rw [List.length_erase_of_mem hx] at q
    have : 0 < d.length := List.length_pos_of_mem hx
    rw [List.length_cons]
    omega
theorem set_len {L zs : List Str} (n : L.Nodup) (h : ∀ z, z ∈ L ↔ z ∈ zs) : decide ((L.length : Int) = (zs.length : Int)) = decide (zs.Nodup) := by
  have e : L.length = (thin zs).length := Nat.le_antisymm (nodup_le _ _ n fun x hx => (thin_mem zs).mpr ((h x).mp hx)) (nodup_le _ _ (thin_nodup zs) fun x hx => (h x).mpr ((thin_mem zs).mp hx))
  have t := thin_eq zs
  rw [Bool.eq_iff_iff, decide_eq_true_eq, decide_eq_true_eq, ← t, e]
  omega
section
variable {P : Program} {w : World} {K : PySem.W.Frag} {mg : Str → Option Value} {base : Heap}
theorem all_names : ∀ (xs : List V) (os : List (Option Str)), xs.length = os.length → (∀ (i : Nat) v z, xs[i]? = some v → os[i]? = some z → ∃ s, v = .str s ∧ z = some s) → ∃ zs : List Str, xs = zs.map V.str ∧ os = zs.map some
  | [], [], _, _ => ⟨[], rfl, rfl⟩
  | x :: xs, o :: os, l, h => by
    obtain ⟨s, rfl, rfl⟩ := h 0 x o rfl rfl
    obtain ⟨zs, rfl, rfl⟩ := all_names xs os (by simpa using l) fun i v z e1 e2 => h (i + 1) v z e1 e2
    exact ⟨s :: zs, rfl, rfl⟩
theorem nodup_some (zs : List Str) : decide ((zs.map some).Nodup) = decide (zs.Nodup) := by
  have gen : ∀ zs : List Str, (zs.map some).Nodup ↔ zs.Nodup := by
    intro zs
    induction zs with
    | nil => simp
    | cons z r ih =>
      rw [List.map_cons, List.nodup_cons, List.nodup_cons, ih]
      simp
  rw [Bool.eq_iff_iff, decide_eq_true_eq, decide_eq_true_eq, gen]
end
end ZN6

set_option Elab.async false
set_option linter.all false
set_option maxRecDepth 100000
set_option maxHeartbeats 2000000
namespace ZN7
open PySem PySem.Spec PyProof.Rows L2 Cau Dr14 Z1 Z2 Z3 Z4 ZN5 ZN6 TxtSet
def sheetL : List Str := ["o", "u", "uu", "v", "vv"]
def toolsL : List (Str × Str) := [("meet", ""), ("upright", "square"), ("circles", "compass")]
def toolW (w : Str) : Str := (toolsL.lookup w).getD w
/-- the table of the tools of other words -/
structure ToolsK (K : PySem.W.Frag) (w : World) (d : Addr) : Prop where
  ex : ∃ (es : Array DictEntry) (n : Nat), KDict K w d es n
  no : ∀ z, toolsL.lookup z = none → PySem.W.nsIn K d z = some none
  yes : ∀ z y, toolsL.lookup z = some y → ∃ t, PySem.W.nsIn K d z = some (some (.str y t))
def spDrawing (K : PySem.W.Frag) : Sp := fun vs H Q _ => ∃ (x : V) (o : Option (List Sd)), vs = [x] ∧ Sv K H x o ∧ ∀ H', Same H H' → Q (.bl (goesO o sheetL)) H'
def spCheckDeed (K : PySem.W.Frag) (C : Addr) : Sp := fun vs H Q E => ∃ (x : V) (o : Option (List V)), vs = [x] ∧ Dd K H x o ∧ ((deedO o = true ∧ ∀ H', Same H H' → Q .non H') ∨ (deedO o = false ∧ ∀ H', Same H H' → E (.ref C) none H'))
def spTool (K : PySem.W.Frag) (C : Addr) : Sp := fun vs H Q E => ∃ (p : Addr) (w : Str) (r : List V), vs = [.ref p] ∧ SqT K H p (.str w :: r) ∧ (V.str w :: r).all AtomV = true ∧ (V.str w :: r).length ≤ 100 ∧ deedL (.str w :: r) = true ∧ ∀ H', Same H H' → Q (.str (toolW w)) H'
section
variable {P : Program} {w : World} {K : PySem.W.Frag} {mg : Str → Option Value} {base : Heap}
theorem scDr : FnScope ["value"] ["value"] (defScope sIsDrawing) := ⟨rfl, rfl, rfl, by decide +kernel, rfl, by decide +kernel, by decide +kernel⟩
theorem ok_drawing {f fS d : Addr} {fd fdS : FuncData} (F : Fun K "is_drawing" "is_drawing" sIsDrawing f fd) (FS : Fun K "are_steps" "are_steps" sAreSteps fS fdS) (GS : FnOk P w K mg base CX0 3 fS fdS ["value", "names"] (spSteps K)) (bS : Binds K fdS ["value", "names"] []) (gS : mg "are_steps" = some (.ref fS))
    (Wd : WordsK K d sheetL) (gW : mg "SHEET_NAMES" = some (.ref d)) : FnOk P w K mg base CX0 4 f fd ["value"] (spDrawing K) := by
  refine F.ok scDr (fun vs H Q E h => ?_) (fun cdv A outer s H vs Q E hr h => ?_)
  · obtain ⟨x, o, rfl, _⟩ := h
    rfl
  · obtain ⟨x, o, rfl, hx, q⟩ := h
    refine ⟨_, pss_one (ps_ret (pe_call GS hr (by rfl) gS FS.kp bS .nil pass0 (pa_cons (pv 0) (pa_cons (pe_glob (v := .ref d) (by rfl) gW rfl) pa_nil)))), ?_⟩
    exact ⟨_, rfl, x, o, d, sheetL, rfl, hx, .inr (Wd H), by decide, q⟩
theorem scCDe : FnScope ["value"] ["value"] (defScope sCheckDeed) := ⟨rfl, rfl, rfl, by decide +kernel, rfl, by decide +kernel, by decide +kernel⟩
theorem ok_checkDeed {f fS C : Addr} {fd fdS : FuncData} (F : Fun K "check_deed" "check_deed" sCheckDeed f fd) (FS : Fun K "is_deed" "is_deed" sIsDeed fS fdS) (GS : FnOk P w K mg base CX0 2 fS fdS ["value"] (spDeed K)) (bS : Binds K fdS ["value"] []) (gS : mg "is_deed" = some (.ref fS))
    (T : TxtE K mg "BadDeed" C) : FnOk P w K mg base (L2.CX P w) 3 f fd ["value"] (spCheckDeed K C) := by
  refine F.okX scCDe (fun vs H Q E h => ?_) (fun cdv A outer s H vs Q E hr h => ?_)
  · obtain ⟨x, o, rfl, _⟩ := h
    rfl
  · obtain ⟨x, o, rfl, hx, q⟩ := h
    refine ⟨_, pss_one (ps_if (pt_not (pt_val (pe_call GS hr (by rfl) gS FS.kp bS .nil pass0 (pa_cons (pv 0) pa_nil)))) (pss_one (ps_raise rfl (takes_of rfl rfl rfl rfl) (pmk_own PySem.F.excBase_ValueError T.x T.g T.k (raises_own T.b T.t) rfl))) pss_nil), ?_⟩
    refine ⟨_, rfl, x, o, rfl, hx, fun H1 sm => ⟨_, rfl, ?_⟩⟩
    rcases q with ⟨e, q⟩ | ⟨e, q⟩
    · rw [e]
      exact iteF (q H1 sm)
    · rw [e]
      exact iteT (q H1 sm)
theorem scTl : FnScope ["deed", "word"] ["deed"] (defScope sToolOf) := ⟨rfl, rfl, rfl, by decide +kernel, rfl, by decide +kernel, by decide +kernel⟩
theorem ok_tool {f fC C d : Addr} {fd fdC : FuncData} (F : Fun K "tool_of" "tool_of" sToolOf f fd) (FC : Fun K "check_deed" "check_deed" sCheckDeed fC fdC) (GC : FnOk P w K mg base (L2.CX P w) 3 fC fdC ["value"] (spCheckDeed K C)) (bC : Binds K fdC ["value"] []) (gC : mg "check_deed" = some (.ref fC))
    (T : ToolsK K w d) (gT : mg "TOOLS_OF_OTHER_WORDS" = some (.ref d)) : FnOk P w K mg base (L2.CX P w) 4 f fd ["deed"] (spTool K C) := by
  refine F.okX scTl (fun vs H Q E h => ?_) (fun cdv A outer s H vs Q E hr h => ?_)
  · obtain ⟨p, z, r, rfl, _⟩ := h
    rfl
  · obtain ⟨p, z, r, rfl, hp, hat, hlen, hd, q⟩ := h
    obtain ⟨es, nn, KD⟩ := T.ex
    refine ⟨_, pss_cons (ps_expr (pe_call GC hr (by rfl) gC FC.kp bC .nil (passes_call (takes_of rfl rfl rfl rfl) (fun _ _ _ _ h => h)) (pa_cons (pv 0) pa_nil)))
      (pss_cons (ps_set (i := 1) scTl.nd rfl (.inl rfl) (pe_ix ix_tup (pv 0) pe_int (fun _ _ => rfl)))
      (pss_one (ps_ret (pe_ifExp (pt_cmpR (op_in_kd KD) (pv 1) (pe_glob (v := .ref d) (by rfl) gT rfl) (by rfl)) (pe_ix ix_kdict (pe_glob (v := .ref d) (by rfl) gT rfl) (pv 1) (fun _ _ => rfl)) (pv 1))))), ?_⟩
    refine ⟨_, rfl, .ref p, some (.str z :: r), rfl, .inl ⟨p, _, rfl, hp, (fun x hx => .atom (List.all_eq_true.mp hat x hx)), hlen, rfl⟩, .inl ⟨hd, fun H1 sm => ?_⟩⟩
    refine ⟨_, rfl, p, _, 0, _, rfl, rfl, sqT_same hp sm, atI_nat (j := 0) rfl, ?_⟩
    cases e : toolsL.lookup z with
    | none =>
      refine ⟨_, rfl, z, _, rfl, rfl, T.no z e, _, rfl, iteF2 rfl ⟨_, rfl, ?_⟩⟩
      have q1 := q H1 sm
      unfold toolW at q1
      rw [e] at q1
      exact q1
    | some y =>
      obtain ⟨t, ht⟩ := T.yes z y e
      refine ⟨_, rfl, z, _, rfl, rfl, ht, _, rfl, iteT2 rfl ⟨_, rfl, d, z, .str y, rfl, rfl, ⟨es, nn, _, KD.at_, KD.lit, ht, _, rfl⟩, ?_⟩⟩
      have q1 := q H1 sm
      unfold toolW at q1
      rw [e] at q1
      exact q1
end
end ZN7

set_option Elab.async false
set_option linter.all false
set_option maxRecDepth 100000
set_option maxHeartbeats 2000000
/-! An own error over ValueError whose __init__ says super().__init__(text), then self.f = x. -/
namespace SupInit
open PySem PySem.Spec PyProof.Rows L2 Cau
def supScope (x : Str) : Scope := { kind := .function, names := [("self", .local), (x, .local), ("__class__", .free), ("super", .globalImplicit)], isGenerator := false, isCoroutine := false, more := [] }
/-- the error at a gets its field -/
def spSup (C : Addr) (fld : Str) : Sp := fun vs H Q _ => ∃ (a : Addr) (v : V), vs = [.ref a, v] ∧ H a = some (exo a C none) ∧ ∀ dx, H dx = none → dx ≠ a → Q .non (upd (upd H dx (exd dx [(fld, v)])) a (exo a C (some dx)))
/-- what the top has written of the class at C -/
structure SupC (P : Program) (K : PySem.W.Frag) (mg : Str → Option Value) (C : Addr) (fld : Str) : Prop where
  oex : OexC K C
  cd : ∃ cd, PySem.W.clsIn K C = some cd
  sub : PySem.W.mroIn K C (.ref C) = some true
  sup : mg "super" = none
  opa : PySem.W.nsIn K PySem.cStatics "thirdparty.any" = some none
  way : PySem.W.ks_superIn K C C "__init__" = some (some (.builtin "ValueError.__init__"))
  isV : PySem.W.subIn K (.ref C) (.type "ValueError") = some true
  top : (P.main.scope.names.lookup ("super" : Str)).isSome = false
  fre : PySem.W.findIn K (.ref C) fld = some none
section
variable {P : Program} {w : World} {K : PySem.W.Frag} {mg : Str → Option Value} {base : Heap}
/-- its body's context -/
def supX (P : Program) (w : World) (K : PySem.W.Frag) (mg : Str → Option Value) (base : Heap) (x qual : Str) (f cc cda : Addr) (A : Around) (outer : List Env) (s : Shared) (H : Hp) : Cx where
  prog := P
  w := w
  K := K
  mg := mg
  base := base
  A := A.deeper (PySem.W.ksEnv qual (supScope x) s.heap.objs.size f (.ref cda) cc)
  N := ["self", x]
  s_0 := s
  H_0 := H
  env := PySem.W.ksEnv qual (supScope x) s.heap.objs.size f (.ref cda) cc
  outer := outer
  stack := PySem.W.ksEnv qual (supScope x) s.heap.objs.size f (.ref cda) cc :: outer
  ex := []
  fn := fun _ => false
  calm := true
  pn := []
  xe := fun _ _ => False
theorem sup_start {x qual : Str} {f cc cda C : Addr} {A : Around} {outer : List Env} {s : Shared} {H : Hp} {u1 u2 : Value} {v1 v2 : V} {h0 : Heap} {tk : Nat} {cl : Value} {cld : Option Addr} {csl : Array (Option Value)} (hx : x ≠ "self" ∧ x ≠ "__class__" ∧ x ≠ "super") (hcell : K.lookup cc = some ⟨cl, cld, .cell (some (.ref C)), csl⟩) (hd : A.handled = none)
    (e0 : Env0 P w K mg base A outer s H) (r1 : RelV v1 u1) (r2 : RelV v2 u2) (ns : h0.Ns s.heap.objs.size fun y => ([("self", u1), (x, u2)] : List (Str × Value)).reverse.lookup y) (k : ∀ b o, s.heap.get? b = some o → h0.get? b = some o) :
    Inv (supX P w K mg base x qual f cc cda A outer s H) [] [some v1, some v2] H { s with heap := h0, toks := tk } := by
  have cellB : base.get? cc = some ⟨cl, cld, .cell (some (.ref C)), csl⟩ := e0.mod.kin _ _ hcell
  have cells : ∀ y c, (supX P w K mg base x qual f cc cda A outer s H).env.cells.lookup y = some c → y = "__class__" ∧ c = cc := fun y c h => by
    have h' : ([("__class__", cc)] : List (Str × Addr)).lookup y = some c := h
    rw [List.lookup_cons] at h'
    by_cases e : y = "__class__"
    · subst e
      simp at h'
      exact ⟨rfl, h'.symm⟩
    · have e' : (y == ("__class__" : Str)) = false := beq_eq_false_iff_ne.mpr e
      rw [e'] at h'
      simp at h'
  have lS : (supScope x).names.lookup ("self" : Str) = some NameKind.local := rfl
  have none' : ∀ b : Addr, b ∉ ([] : List Addr) := fun b z => by cases z
  exact
    { ok :=
        { mod := e0.mod, kind := rfl, glob := rfl, blt := rfl, above := Nat.le_refl _
          inj := fun y z c h1 h2 => (cells y c h1).1.trans (cells z c h2).1.symm
          has := fun y hy => by
            have hy' : (supScope x).names.lookup y = some .cell ∨ (supScope x).names.lookup y = some .free := hy
            unfold supScope at hy'
            simp only [List.lookup_cons, List.lookup_nil] at hy'
            by_cases e : y = "__class__"
            · subst e
              exact ⟨cc, rfl⟩
            · have e' : (y == ("__class__" : Str)) = false := beq_eq_false_iff_ne.mpr e
              rw [e'] at hy'
              cases e1 : (y == ("self" : Str)) <;> cases e2 : (y == x) <;> cases e3 : (y == ("super" : Str)) <;> rw [e1, e2, e3] at hy' <;> simp at hy'
          cab := fun _ _ z => by cases z
          hd := fun _ => hd
          frames := Around.frames_deeper e0.frames
          stk := .inr ⟨rfl, rfl⟩
          exf := fun b z => absurd z (none' b)
          bs := e0.bs, bsz := e0.bsz
          noex := fun b _ _ => none' b
          exfs := fun b z => absurd z (none' b)
          funs := e0.funs, frf := e0.frf }
      os := rfl, bare := e0.bare, base := Un.kept k
      loc := by
        refine ⟨_, ns, ?_⟩
        rintro i y v h1 h2 h3
        match i, h1, h2 with
        | 0, h1, h2 =>
          cases h1
          cases h2
          refine ⟨u1, r1, .inl ⟨rfl, ?_⟩⟩
          show ([(x, u2), ("self", u1)] : List (Str × Value)).lookup ("self" : Str) = some u1
          rw [List.lookup_cons, beq_eq_false_iff_ne.mpr (Ne.symm hx.1)]
          rfl
        | 1, h1, h2 =>
          cases h1
          cases h2
          refine ⟨u2, r2, .inl ⟨?_, ?_⟩⟩
          · show (supScope x).names.lookup x = some .local
            unfold supScope
            simp only [List.lookup_cons, beq_eq_false_iff_ne.mpr hx.1, beq_self_eq_true]
          · show ([(x, u2), ("self", u1)] : List (Str × Value)).lookup x = some u2
            rw [List.lookup_cons, beq_self_eq_true]
        | i + 2, h1, _ => cases h1
      cell := fun y c h => by
        obtain ⟨_, rfl⟩ := cells y c h
        exact ⟨_, _, k _ _ (e0.bs _ _ cellB).1, rfl⟩
      free := e0.hok.fresh (Nat.le_refl _)
      freeC := fun y c h => by
        obtain ⟨_, rfl⟩ := cells y c h
        exact (e0.bs _ _ cellB).2
      pin := fun p hp => absurd (show p ∈ ([] : List (Addr × Obj)) from hp) List.not_mem_nil
      hok := e0.hok.kept k
      len := rfl }
/-- super().__init__(text) -/
theorem sup_first {x qual t : Str} {f cc cda C a : Addr} {A : Around} {outer : List Env} {s s1 : Shared} {H : Hp} {y : Option V} {cl oc ccl : Value} {cld od cdd : Option Addr} {csl osl ccs : Array (Option Value)} {fd : FuncData} {ar : Arg} {vs : Array Value} {file : Str} {tf : Tok} {fld : Str} {j : Nat} {p0 p1 p2 p3 p4 p5 : Pos} {body : List Stmt}
    (T : SupC P K mg C fld) (hx : x ≠ "self" ∧ x ≠ "__class__" ∧ x ≠ "super") (hcell : K.lookup cc = some ⟨cl, cld, .cell (some (.ref C)), csl⟩) (lk : K.lookup f = some ⟨oc, od, .func fd, osl⟩) (har : (fd.params.posonlyargs ++ fd.params.args).head? = some ar) (hself : ar.arg = "self")
    (hcode : K.lookup cda = some ⟨ccl, cdd, .fields vs, ccs⟩) (hvs : vs[2]? = some (.str file tf)) (hfile : ((P.main.file : Str) == file) = true) {pl : Sem Bool}
    (he : ∀ env : Env, eval (.Call (.Attribute (.Call (.Name "super" p0) [] [] p1) "__init__" p2) [.Constant (.str t) j p3] [] p4) env = (do
      let ov ← attributeBase (.Call (.Name "super" p0) [] [] p1) "__init__" env (eval (.Call (.Name "super" p0) [] [] p1) env)
      standAt p2.atName
      let (f, first) ← holding [ov] (getMethod ov "__init__" pl)
      callWith p4 f first (backTo p4 (starEach [.Constant (.str t) j p3] env)) []))
    (I : Inv (supX P w K mg base x qual f cc cda A outer s H) [] [some (.ref a), y] H s1) (ha : H a = some (exo a C none)) {Q : Flow → Shared → Prop} {E : Value → Shared → Prop} (hQ : ∀ s2, Inv (supX P w K mg base x qual f cc cda A outer s H) [] [some (.ref a), y] H s2 → Q .next s2) :
    PySem.wpAt (model P w) (supX P w K mg base x qual f cc cda A outer s H).A (.func body (supX P w K mg base x qual f cc cda A outer s H).env) (exec (.Expr (.Call (.Attribute (.Call (.Name "super" p0) [] [] p1) "__init__" p2) [.Constant (.str t) j p3] [] p4) p5) (supX P w K mg base x qual f cc cda A outer s H).env) Q E s1 := by
  obtain ⟨cd, hcd⟩ := T.cd
  obtain ⟨nm, q, N, bs, bm, sn, sub, ab, col, dd, k0, k1, k2, k3, k5, hC, hbm⟩ := T.oex.cls
  have KI := I.kIn
  obtain ⟨t1, ho⟩ := exo_at I.hok ha
  obtain ⟨m, hns, hloc⟩ := I.loc
  obtain ⟨u1, ru, lo⟩ := hloc 0 "self" (.ref a) rfl rfl (.inl rfl)
  obtain rfl : u1 = Value.ref a := ru
  have ms : m "self" = some (.ref a) := by
    rcases lo with ⟨_, e⟩ | ⟨e | e, _⟩
    · exact e
    · have e' : some NameKind.local = some NameKind.cell := e
      cases e'
    · have e' : some NameKind.local = some NameKind.free := e
      cases e'
  obtain ⟨hh, g, d, tk, os⟩ := s1
  have hK := fun (b : Addr) (o : Obj) (e : K.lookup b = some o) => KI b o e
  have Dat := hK _ _ hC
  obtain ⟨mb, hb1, hb2⟩ := I.mod.blt
  have kX : (supX P w K mg base x qual f cc cda A outer s H).env.scope.kind = .function := rfl
  have kS : (supX P w K mg base x qual f cc cda A outer s H).env.kindOf "super" = some .globalImplicit := by
    show (supScope x).names.lookup ("super" : Str) = _
    unfold supScope
    simp only [List.lookup_cons, beq_eq_false_iff_ne.mpr (Ne.symm hx.2.2)]
    rfl
  have kC : (supX P w K mg base x qual f cc cda A outer s H).env.kindOf "__class__" = some .free := by
    show (supScope x).names.lookup ("__class__" : Str) = _
    unfold supScope
    simp only [List.lookup_cons, beq_eq_false_iff_ne.mpr (Ne.symm hx.2.1)]
    rfl
  have ne : a ≠ C := fun z => by
    rw [z, Dat] at ho
    cases ho
  refine ks_wpAt_Expr_any ?_ (by rfl) (by rfl)
  refine ks_wpAt_MethodCall ?_ (he _)
  refine ks_wpAt_super_base kS kC (by decide +kernel) rfl (hK _ _ lk) rfl har rfl (hK _ _ hcode) rfl hvs hfile T.top ?_
  refine PySem.W.ks_loadName_global kX kS (Calls.loadGlobal_builtin (show hh.Ns mainGlobals mg from I.mod.glob.keeps I.bk) T.sup (show hh.Ns builtinsNs mb from hb1.keeps I.bk) ((hb2 _ (by decide +kernel)).trans (show bootBuiltins "super" = some (.type "super") by rfl)) ⟨rfl, ?_⟩)
  refine wpAny_loadName_free kX kC (show _ = some cc from rfl) ⟨_, hK _ _ hcell, rfl⟩ ?_
  rw [hself]
  refine wpAny_loadName_local kX rfl hns ms ?_
  refine ks_wpAny_isType_cls Dat rfl ⟨rfl, ?_⟩
  refine ks_wpAny_call_super Dat rfl ho rfl (fun c z => by cases z) (PySem.W.looks_mroIn KI T.sub) fun h2 e2 k2 => ?_
  have I2 : Inv (supX P w K mg base x qual f cc cda A outer s H) [] [some (.ref a), y] H ⟨h2, g, d, tk, os⟩ := I.kept (t' := tk) k2
  have KI2 := I2.kIn
  have isV : PySem.W.Looks (model P w) h2 (isInstance (.ref a) (.type "ValueError")) true := by
    have at_ : PySem.W.InstAt h2 a _ C none := ⟨k2 _ _ ho, rfl, rfl, trivial⟩
    exact at_.type.andThen (PySem.W.looks_subIn KI2 T.isV)
  have way := T.way
  unfold PySem.W.ks_superIn at way
  rw [hcd] at way
  refine PySem.W.kxs_getMethod PySem.W.kxs_ValueError e2 (PySem.W.looks_opaque KI2 T.opa) (l₀ := cd.mro) ?_ rfl KI2 way isV ne (by decide +kernel) ?_
  · exact fun A Q E s k q => wpAny_bind ((PySem.W.looks_clsIn KI2 hcd) A _ E s k (wpAny_pure q))
  have I3 : Inv (supX P w K mg base x qual f cc cda A outer s H) [] [some (.ref a), y] H ⟨h2.push (PySem.W.kxs_mw "ValueError.__init__" a), g, d, tk + 1, os⟩ := I2.kept (t' := tk + 1) fun _ _ e => Heap.get?_push_of_some _ e
  have atU : (h2.push (PySem.W.kxs_mw "ValueError.__init__" a)).get? h2.objs.size = some (PySem.W.kxs_mw "ValueError.__init__" a) := Heap.get?_push_size _ rfl
  have offU : H h2.objs.size = none := I2.hok.fresh (Nat.le_refl _)
  refine PySem.W.kxs_callWith (i := "ValueError.__init__") (x := a) rfl (Calls.evalArgs_plain ?_)
  refine Calls.spliced_cons (Calls.Constant_str (k := j) (pos := p3) (Calls.spliced_nil ?_))
  refine ⟨atU, ?_⟩
  refine wpAny_call (codeAny_of_tree ?_)
  change wpAny _ _ (callAny (.ref h2.objs.size) _) _ _ _
  simp only [callAny]
  refine wpAny_bind (wpAny_load atU ?_)
  simp only [PySem.W.kxs_mw, show (Value.type "method-wrapper" == Value.type "method" || Value.type "method-wrapper" == Value.type "builtin_function_or_method" || Value.type "method-wrapper" == Value.type "method-wrapper") = true by decide, if_true]
  refine PySem.W.KFB.if_so (by decide) ?_
  have at3 : (h2.push (PySem.W.kxs_mw "ValueError.__init__" a)).get? a = some _ := Heap.get?_push_of_some _ (k2 _ _ ho)
  have atC : (h2.push (PySem.W.kxs_mw "ValueError.__init__" a)).get? C = some _ := I3.kIn _ _ hC
  refine wpAny_bind (PySem.W.check_bound_init F.excBase_ValueError.toExcCallFacts atC at3 rfl ?_)
  refine wpAny_bind (wpAny_pure (wpAny_pure ?_))
  refine ⟨plainId_quiet F.excBase_ValueError.init.plain _, codeAny_builtin F.excBase_ValueError.initEntry ?_⟩
  refine PySem.W.exc_init_tree at3 (show 1 ≤ sizeLine by decide) ?_
  intro h4 k4 e4 _
  have I3' : Inv (supX P w K mg base x qual f cc cda A outer s H) [] [some (.ref a), y] H ⟨h2.push (PySem.W.kxs_mw "ValueError.__init__" a), g, d, tk + 1 + 1, os⟩ := I3.tok _
  have J := I3'.write (t' := tk + 1 + 1) (x := a) (e := a) (o := exo a C none) (by rw [ha]; exact True.intro) (.inl rfl) k4 ⟨_, e4⟩ (exo_ok e4)
  have eu : upd H a (exo a C none) = H := by
    funext b
    by_cases hb : b = a
    · rw [hb, upd_same, ha]
    · rw [upd_ne hb]
  rw [eu] at J
  exact hQ _ J
theorem ok_sup {st : Stmt} {qual x t fld : Str} {f cc cda C : Addr} {cl oc ccl kV doc pm ct : Value} {cld od cdd an : Option Addr} {csl osl ccs : Array (Option Value)} {ar : Arg} {vs : Array Value} {file : Str} {tf : Tok} {j : Nat} {p0 p1 p2 p3 p4 p5 p6 p7 p8 p9 : Pos}
    (lk : K.lookup f = some ⟨oc, od, .func (PySem.W.ksFn "__init__" qual (defArgs st) (defBody st) (defScope st) .none kV doc pm an (.ref cda) ct cc), osl⟩) (hcd : PySem.W.codeIn K (.ref cda) qual = true)
    (hb : defBody st = [.Expr (.Call (.Attribute (.Call (.Name "super" p0) [] [] p1) "__init__" p2) [.Constant (.str t) j p3] [] p4) p5, .Assign [.Attribute (.Name "self" p6) fld p7] (.Name x p8) p9]) (hs : defScope st = supScope x)
    (T : SupC P K mg C fld) (hx : x ≠ "self" ∧ x ≠ "__class__" ∧ x ≠ "super") (hxd : (x == ("__debug__" : Str)) = false) (hxc : (x == ("__classdict__" : Str)) = false) (hcell : K.lookup cc = some ⟨cl, cld, .cell (some (.ref C)), csl⟩) (har : ((defArgs st).posonlyargs ++ (defArgs st).args).head? = some ar) (hself : ar.arg = "self")
    (hcode : K.lookup cda = some ⟨ccl, cdd, .fields vs, ccs⟩) (hvs : vs[2]? = some (.str file tf)) (hfile : ((P.main.file : Str) == file) = true) {pl : Sem Bool}
    (he : ∀ env : Env, eval (.Call (.Attribute (.Call (.Name "super" p0) [] [] p1) "__init__" p2) [.Constant (.str t) j p3] [] p4) env = (do
      let ov ← attributeBase (.Call (.Name "super" p0) [] [] p1) "__init__" env (eval (.Call (.Name "super" p0) [] [] p1) env)
      standAt p2.atName
      let (f, first) ← holding [ov] (getMethod ov "__init__" pl)
      callWith p4 f first (backTo p4 (starEach [.Constant (.str t) j p3] env)) []))
    (hsw : ∀ env : Env, swapsWith (.Name x p8) (some (.Attribute (.Name "self" p6) fld p7)) p9.line env = pure false) :
    FnOk P w K mg base C8.CX0 1 f (PySem.W.ksFn "__init__" qual (defArgs st) (defBody st) (defScope st) .none kV doc pm an (.ref cda) ct cc) ["self", x] (spSup C fld) := by
  refine ⟨fun vs H Q E h => ?_, fun A outer s H args us vs' Q E hr e0 hbd r h => ?_⟩
  · obtain ⟨a, v, rfl, _⟩ := h
    rfl
  · obtain ⟨a, v, rfl, ha, q⟩ := h
    obtain ⟨u1, u2, rfl, r1, r2⟩ := vals2 r
    have KS : K.In s.heap := e0.mod.kin.keeps fun b o e => (e0.bs b o e).1
    have lim : s.heap.NoLimit := e0.mod.nolimit.keeps fun b o e => (e0.bs b o e).1
    have nocell : ∀ y ∈ (supScope x).names, y.2 ≠ .cell := by
      intro y hy
      unfold supScope at hy
      simp only [List.mem_cons, List.not_mem_nil, or_false] at hy
      rcases hy with rfl | rfl | rfl | rfl <;> (intro z; cases z)
    have lx : (supScope x).names.lookup x = some NameKind.local := by
      unfold supScope
      simp only [List.lookup_cons, beq_eq_false_iff_ne.mpr hx.1, beq_self_eq_true]
    have locs : ∀ y ∈ ([("self", u1), (x, u2)] : List (Str × Value)), (supScope x).names.lookup y.1 = some NameKind.local := by
      intro y hy
      rcases List.mem_cons.mp hy with rfl | hy
      · rfl
      · cases List.mem_singleton.mp hy
        exact lx
    refine PySem.ks_codeAny_call_defAt (fd := PySem.W.ksFn "__init__" qual (defArgs st) (defBody st) (defScope st) .none kV doc pm an (.ref cda) ct cc) (binds := [("self", u1), (x, u2)]) hr.depth (KS _ _ lk) rfl lim (PySem.W.codeRec_of KS hcd) rfl hbd (by show ∀ y ∈ (defScope st).names, _; rw [hs]; exact nocell) (by intro y hy; show (defScope st).names.lookup y.1 = _; rw [hs]; exact locs y hy) ?_ (by show (defScope st).isCoroutine = false; rw [hs]; rfl) (by show (defScope st).isGenerator = false; rw [hs]; rfl) (by show (defScope st).kind = .function; rw [hs]; rfl)
    intro h0 ns k
    have env_is : callEnv (PySem.W.ksFn "__init__" qual (defArgs st) (defBody st) (defScope st) .none kV doc pm an (.ref cda) ct cc) s.heap.objs.size f = (supX P w K mg base x qual f cc cda A outer s H).env := by
      show PySem.W.ksEnv qual (defScope st) s.heap.objs.size f (.ref cda) cc = _
      rw [hs]
      rfl
    rw [env_is]
    have I := sup_start (tk := s.toks + 2) (cda := cda) (f := f) (qual := qual) hx hcell hr.hd e0 r1 r2 ns k
    obtain rfl : u1 = Value.ref a := r1
    have body_is : (PySem.W.ksFn "__init__" qual (defArgs st) (defBody st) (defScope st) .none kV doc pm an (.ref cda) ct cc).body = .stmts (defBody st) := rfl
    rw [hb]
    refine PySem.ks_wpAt_execs_cons ?_
    refine sup_first (A := A) (outer := outer) (s := s) T hx hcell lk har hself hcode hvs hfile he I ha ?_
    intro s2 I2
    refine wpAt_of_wpAny ?_
    have run := (pss_one (ps_ost (X := supX P w K mg base x qual f cc cda A outer s H) (pos := p9) (p' := p7) (f := fld) (pe_var (pos := p6) (i := 0) rfl (.inl rfl)) (pe_var (pos := p8) (i := 1) rfl (.inl lx) hxd hxc) (hsw _))).run [] s2 [some (.ref a), some v] H { nx := fun _ H' => Q .non H', rt := fun _ _ => False, bk := fun _ _ => False, ct := fun _ _ => False } I2
      ⟨v, rfl, .ref a, rfl, a, C, rfl, T.oex, T.fre, .inl ⟨ha, fun dx n ne => q dx n ne⟩⟩
    refine wpAny_mono run (fun fl s3 sp => ?_) (fun _ _ z => z.elim)
    cases fl with
    | next =>
      obtain ⟨σ', H', J, z⟩ := sp
      exact ⟨.non, H', J.os, J.bare, J.base, J.hok, rfl, z⟩
    | brk =>
      obtain ⟨_, _, _, z⟩ := sp
      exact z.elim
    | cont =>
      obtain ⟨_, _, _, z⟩ := sp
      exact z.elim
    | ret u =>
      obtain ⟨_, _, _, _, _, z⟩ := sp
      exact z.elim
end
end SupInit

set_option Elab.async false
set_option linter.all false
set_option maxRecDepth 100000
set_option maxHeartbeats 2000000
namespace ZN8
open PySem PySem.Spec PyProof.Rows L2 Cau Dr14 Z1 Z2 Z3 Z4 ZN5 ZN6 ZN7 TxtSet
abbrev St1 := Str × List V
def sdOf (p : St1) : Sd := .pair (.str p.1) (some p.2)
def wordL (xs : List V) : Str := match xs with
  | .str w :: _ => w
  | _ => ""
/-- each step of a drawing has a deed -/
theorem goes_deeds : ∀ (st : List St1) (kn : List Str), goesB (st.map sdOf) kn = true → ∀ p ∈ st, deedL p.2 = true ∧ nameS p.1 = true
  | [], _, _, p, hp => absurd hp List.not_mem_nil
  | q :: r, kn, h, p, hp => by
    rw [List.map_cons] at h
    unfold goesB at h
    cases e : stepB (sdOf q) kn with
    | none => rw [e] at h; cases h
    | some s =>
      rw [e] at h
      have h' : goesB (r.map sdOf) (kn ++ [s]) = true := h
      rcases List.mem_cons.mp hp with rfl | hp
      · have e' : stepB (.pair (.str p.1) (some p.2)) kn = some s := e
        rw [step_str] at e'
        split at e'
        · rename_i c
          simp only [Bool.and_eq_true] at c
          exact ⟨c.1.1.2, c.1.1.1⟩
        · cases e'
      · exact goes_deeds r _ h' p hp
theorem word_of {xs : List V} (h : deedL xs = true) : ∃ w r k, xs = .str w :: r ∧ formOf w = some k ∧ (r.take k).all nameV = true ∧ wordL xs = w := by
  obtain ⟨w, r, k, rfl, h1, h2⟩ := deed_shape h
  exact ⟨w, r, k, rfl, h1, h2, rfl⟩
section
variable {P : Program} {w : World} {K : PySem.W.Frag} {mg : Str → Option Value} {base : Heap}
end
end ZN8

set_option Elab.async false
set_option linter.all false
set_option maxRecDepth 100000
set_option maxHeartbeats 2000000
namespace ZN10
open PySem PySem.Spec PyProof.Rows L2 Cau Dr14 Z1 Z2 Z3 Z4 ZN5 ZN6 ZN7 ZN8 TxtSet
abbrev sShuf : Stmt := topS 152
/-! ### the state of the draws, kept -/
theorem seqL_kept {K : PySem.W.Frag} {H H' : Hp} {a w p : Addr} {xs : List V} (h : SqL K H p xs) (k : Kept a w H H') (h1 : p ≠ a) (h2 : p ≠ w) : SqL K H' p xs := by
  rcases h with (h | ⟨o, h⟩) | h
  · exact .inl (.inl (k _ _ h h1 h2))
  · exact .inl (.inr ⟨o, k _ _ h h1 h2⟩)
  · exact .inr h
theorem seqT_kept {K : PySem.W.Frag} {H H' : Hp} {a w p : Addr} {xs : List V} (h : SqT K H p xs) (k : Kept a w H H') (h1 : p ≠ a) (h2 : p ≠ w) : SqT K H' p xs := by
  rcases h with (h | ⟨o, h⟩) | h
  · exact .inl (.inl (k _ _ h h1 h2))
  · exact .inl (.inr ⟨o, k _ _ h h1 h2⟩)
  · exact .inr h
theorem St.mono {H : Hp} {a w c : Addr} {T T' : Nat} (h : St H a w c T) (l : T ≤ T') : St H a w c T' := by
  obtain ⟨h0, ws, cs, r, t, h1, h2, h3, h4, h5, h6, h7⟩ := h
  exact ⟨h0, ws, cs, r, t, h1, h2, h3, h4, h5, h6, by omega⟩
/-- but for new objects -/
theorem St.same {H H' : Hp} {a w c : Addr} {T : Nat} (h : St H a w c T) (k : Same H H') : St H' a w c T := by
  obtain ⟨h0, ws, cs, r, t, h1, h2, h3, h4⟩ := h
  exact ⟨h0, ws, cs, r, t, k _ _ h1, k _ _ h2, k _ _ h3, h4⟩
theorem Kept.of {a w : Addr} {H H' : Hp} (k : Same H H') : Kept a w H H' := fun b o e _ _ => k b o e
/-- what is new is no part of the state -/
theorem St.off {H : Hp} {a w c l : Addr} {T : Nat} (h : St H a w c T) (n : H l = none) : l ≠ a ∧ l ≠ w ∧ l ≠ c := by
  obtain ⟨_, ws, cs, r, t, h1, h2, h3, _⟩ := h
  exact ⟨(ne_of_none h1 n).symm, (ne_of_none h2 n).symm, (ne_of_none h3 n).symm⟩
/-- something else is written -/
theorem St.put {H : Hp} {a w c l : Addr} {T : Nat} {o : HO} (h : St H a w c T) (n : l ≠ a ∧ l ≠ w ∧ l ≠ c) : St (upd H l o) a w c T := by
  obtain ⟨h0, ws, cs, r, t, h1, h2, h3, h4⟩ := h
  exact ⟨h0, ws, cs, r, t, (upd_ne n.1.symm).trans h1, (upd_ne n.2.1.symm).trans h2, (upd_ne n.2.2.symm).trans h3, h4⟩
theorem kept_none {a w b : Addr} {H H' : Hp} (k : Kept a w H H') (h : H' b = none) (n : b ≠ a ∧ b ≠ w) : H b = none := by
  cases e : H b with
  | none => rfl
  | some o => rw [k b o e n.1 n.2] at h; cases h
/-- an object that was not there at the start is written -/
theorem Kept.put {a w l : Addr} {H H' : Hp} {o : HO} (k : Kept a w H H') (n : H l = none) : Kept a w H (upd H' l o) := fun b x e h1 h2 => by
  rw [upd_ne (ne_of_none e n)]
  exact k b x e h1 h2
theorem pow1000 {n : Nat} (h : n ≤ 1000) : (n : Int).natAbs < 2 ^ 1000 := Nat.lt_of_lt_of_le (show (n : Int).natAbs < 2 ^ 10 by omega) (Nat.pow_le_pow_right (by decide) (by decide))
theorem len_erase {α : Type} : ∀ (l : List α) (j : Nat), j < l.length → (l.eraseIdx j).length + 1 = l.length
  | a :: r, 0, _ => rfl
  | a :: r, j + 1, h => by
    rw [List.eraseIdx_cons_succ, List.length_cons, List.length_cons, len_erase r j (Nat.lt_of_succ_lt_succ h)]
theorem map_erase {α β : Type} (f : α → β) : ∀ (l : List α) (j : Nat), (l.map f).eraseIdx j = (l.eraseIdx j).map f
  | [], _ => rfl
  | a :: r, 0 => rfl
  | a :: r, j + 1 => by
    rw [List.map_cons, List.eraseIdx_cons_succ, List.eraseIdx_cons_succ, List.map_cons, map_erase f r j]
theorem perm_erase {α : Type} : ∀ (l : List α) (j : Nat) (h : j < l.length), (l[j] :: l.eraseIdx j).Perm l
  | a :: r, 0, _ => List.Perm.refl _
  | a :: r, j + 1, h => by
    rw [List.getElem_cons_succ, List.eraseIdx_cons_succ]
    exact (List.Perm.swap a _ _).trans ((perm_erase r j (Nat.lt_of_succ_lt_succ h)).cons a)
def spPick (K : PySem.W.Frag) : Sp := fun vs H Q _ => ∃ (a w c p : Addr) (T : Nat) (xs : List V), vs = [.ref a, .ref p] ∧ St H a w c T ∧ T ≤ 1000000 ∧ SqL K H p xs ∧ p ≠ a ∧ p ≠ w ∧ 0 < xs.length ∧ xs.length ≤ 1000 ∧
  ∀ (H' : Hp) (x : V), x ∈ xs → Kept a w H H' → St H' a w c (T + 1) → Q x H'
/-- a list of texts in another order -/
def spShuf (K : PySem.W.Frag) : Sp := fun vs H Q _ => ∃ (a w c p : Addr) (T : Nat) (xs : List Str), vs = [.ref a, .ref p] ∧ St H a w c T ∧ T + xs.length ≤ 1000000 ∧ SqL K H p (xs.map V.str) ∧ xs.length ≤ 900 ∧ (∀ x ∈ xs, PyData.strOk x = true) ∧
  ∀ (H' : Hp) (l : Addr) (ys : List Str), ys.Perm xs → H l = none → H' l = some (.lst (ys.map V.str)) → Kept a w H H' → St H' a w c (T + xs.length) → l ≠ a ∧ l ≠ w ∧ l ≠ c → Q (.ref l) H'
section
variable {P : Program} {w : World} {K : PySem.W.Frag} {mg : Str → Option Value} {base : Heap}
theorem scP : FnScope ["state", "some"] ["state", "some"] (defScope sPick) := ⟨rfl, rfl, rfl, by decide +kernel, rfl, by decide +kernel, by decide +kernel⟩
theorem ok_pick {f fD : Addr} {fd fdD : FuncData} (F : Fun K "_law_pick" "_law_pick" sPick f fd) (FD : Fun K "_law_draw" "_law_draw" sDraw fD fdD) (GD : FnOk P w K mg base CX0 2 fD fdD ["state", "room"] spDraw) (bD : Binds K fdD ["state", "room"] []) (gD : mg "_law_draw" = some (.ref fD)) (mlen : mg "len" = none) :
    FnOk P w K mg base CX0 3 f fd ["state", "some"] (spPick K) := by
  refine F.ok scP (fun vs H Q E h => ?_) (fun cdv A outer s H vs Q E hr h => ?_)
  · obtain ⟨a, w, c, p, T, xs, rfl, _⟩ := h
    rfl
  · obtain ⟨a, w, c, p, T, xs, rfl, hSt, hT, hS, npa, npw, hl0, hl1, q⟩ := h
    refine ⟨_, pss_one (ps_ret (pe_ix ix_list (pv 1) (pe_call GD hr (by rfl) gD FD.kp bD .nil pass0 (pa_cons (pv 0) (pa_cons (pe_callB call_len_seq (by rfl) mlen PySem.boot_len (pa_cons (pv 1) pa_nil)) pa_nil))) (fun _ _ => rfl))), ?_⟩
    refine ⟨_, rfl, _, rfl, _, rfl, p, xs, rfl, .inl hS, a, w, c, T, _, rfl, hSt, hT, by omega, pow1000 hl1, fun H' d h0 h1 k s' => ?_⟩
    obtain ⟨j, rfl⟩ : ∃ j : Nat, d = (j : Int) := ⟨d.toNat, by omega⟩
    have hd : j < xs.length := by omega
    exact ⟨p, xs, j, xs[j], rfl, rfl, seqL_kept hS k npa npw, atI_nat (List.getElem?_eq_getElem hd), q H' _ (List.getElem_mem _) k s'⟩
def shufN : List Str := ["state", "some", "left", "found"]
theorem scSh : FnScope shufN ["state", "some"] (defScope sShuf) := ⟨rfl, rfl, rfl, by decide +kernel, rfl, by decide +kernel, by decide +kernel⟩
theorem ok_shuf {f fD : Addr} {fd fdD : FuncData} (F : Fun K "_law_shuffled" "_law_shuffled" sShuf f fd) (FD : Fun K "_law_draw" "_law_draw" sDraw fD fdD) (GD : FnOk P w K mg base CX0 2 fD fdD ["state", "room"] spDraw) (bD : Binds K fdD ["state", "room"] []) (gD : mg "_law_draw" = some (.ref fD)) (mlen : mg "len" = none) (mli : mg "list" = none) :
    FnOk P w K mg base CX0 3 f fd ["state", "some"] (spShuf K) := by
  refine F.ok scSh (fun vs H Q E h => ?_) (fun cdv A outer s H vs Q E hr h => ?_)
  · obtain ⟨a, w, c, p, T, xs, rfl, _⟩ := h
    rfl
  · obtain ⟨a, w, c, p, T, xs, rfl, hSt, hT, hS, hl, hok, q⟩ := h
    refine ⟨_, pss_cons (ps_par (i := 2) (j := 3) rfl scSh.nd rfl rfl (by decide) rfl rfl (pa_cons (pe_callTy call_list_of (by rfl) mli (by decide +kernel) (pa_cons (pv 1) pa_nil)) (pa_cons (pe_lst pa_nil) pa_nil)) (by rfl))
      (pss_cons (ps_while PassesOwn.never (pt_cmpR (op_neD hr.units) (pv 2) (pe_lst pa_nil) (nomark _))
        (pss_one (ps_expr (pe_bm PySem.F.plainAttrs_list PySem.F.slot_list_append PySem.F.type_list_append mt_append (pv 3) (pa_cons
          (pe_bm PySem.F.plainAttrs_list PySem.F.slot_list_pop PySem.F.type_list_pop mt_popAt (pv 2) (pa_cons (pe_call GD hr (by rfl) gD FD.kp bD .nil pass0 (pa_cons (pv 0) (pa_cons (pe_callB call_len_seq (by rfl) mlen PySem.boot_len (pa_cons (pv 2) pa_nil)) pa_nil))) pa_nil)) pa_nil)))))
      (pss_one (ps_ret (pv 3)))), ?_⟩
    refine ⟨_, rfl, p, xs.map V.str, rfl, .inl hS, fun L nL => ?_⟩
    have oL := St.off hSt nL
    have S1 := St.put (o := .lst (xs.map V.str)) hSt oL
    refine ⟨Nat.zero_le _, fun Fo nF => ?_⟩
    have oF := St.off S1 nF
    have LF : L ≠ Fo := fun z => by rw [← z, upd_same] at nF; cases nF
    rw [upd_ne LF.symm] at nF
    have hL2 : (upd (upd H L (.lst (xs.map V.str))) Fo (.lst [])) L = some (.lst (xs.map V.str)) := (upd_ne LF).trans upd_same
    refine ⟨_, _, rfl, fun m σ H' => ∃ (ls fs : List Str) (T' : Nat), m = ls.length ∧ σ = [some (.ref a), some (.ref p), some (.ref L), some (.ref Fo)] ∧ H' L = some (.lst (ls.map V.str)) ∧ H' Fo = some (.lst (fs.map V.str)) ∧ Kept a w H H' ∧ St H' a w c T' ∧ T' + ls.length = T + xs.length ∧ (fs ++ ls).Perm xs,
      ⟨_, xs, [], T, rfl, rfl, hL2, upd_same, Kept.put (Kept.put (fun b o e _ _ => e) nL) nF, St.put S1 oF, rfl, List.Perm.refl _⟩, ?_⟩
    rintro m σ H' ⟨ls, fs, T', rfl, rfl, hL, hF, hK, hS', hT', hp⟩
    have hll : fs.length + ls.length = xs.length := by
      have := hp.length_eq
      rwa [List.length_append] at this
    refine ⟨_, rfl, Nat.zero_le _, fun t nt => ?_⟩
    have tL : L ≠ t := ne_of_none hL nt
    have tF : Fo ≠ t := ne_of_none hF nt
    have ot := St.off hS' nt
    have nt0 : H t = none := kept_none hK nt ⟨ot.1, ot.2.1⟩
    have hL3 : (upd H' t (.lst [])) L = some (.lst (ls.map V.str)) := (upd_ne tL).trans hL
    have hF3 : (upd H' t (.lst [])) Fo = some (.lst (fs.map V.str)) := (upd_ne tF).trans hF
    have hK3 : Kept a w H (upd H' t (.lst [])) := Kept.put hK nt0
    have hS3 : St (upd H' t (.lst [])) a w c T' := St.put hS' ot
    refine ⟨_, _, dp_strs (.inl (.inl hL3)), dp_nil upd_same, shaped_strs (fun x hx => hok x (hp.mem_iff.mp (List.mem_append_right _ hx))), shaped_nil, _, rfl, ?_⟩
    rw [eqv_nil]
    cases hls : ls with
    | nil =>
      refine iteF ?_
      refine ⟨_, rfl, ?_⟩
      subst hls
      rw [List.append_nil] at hp
      have hS4 : St (upd H' t (.lst [])) a w c (T + xs.length) := by
        have e : T' = T + xs.length := hT'
        exact e ▸ hS3
      exact q _ Fo fs hp nF hF3 hK3 hS4 oF
    | cons z0 r0 =>
      rw [← hls]
      have pos : 0 < ls.length := by rw [hls]; simp
      refine iteT2 (by rw [hls]; rfl) ?_
      refine ⟨_, fun _ _ z => z, ?_⟩
      refine ⟨_, rfl, .inl ⟨rfl, _, .inl (.inl hF3)⟩, _, rfl, .inl ⟨rfl, _, .inl (.inl hL3)⟩, _, rfl, _, rfl, L, ls.map V.str, rfl, .inl (.inl (.inl hL3)), a, w, c, T', _, rfl, hS3, by omega, ?_, ?_, fun H4 d h0 h1 k s4 => ?_⟩
      · rw [List.length_map]
        omega
      · rw [List.length_map]
        exact pow1000 (by omega)
      · obtain ⟨j, rfl⟩ : ∃ j : Nat, d = (j : Int) := ⟨d.toNat, by omega⟩
        rw [List.length_map] at h1
        have hj : j < ls.length := by omega
        have hL4 : H4 L = some (.lst (ls.map V.str)) := k _ _ hL3 oL.1 oL.2.1
        have hF4 : H4 Fo = some (.lst (fs.map V.str)) := k _ _ hF3 oF.1 oF.2.1
        have hK4 : Kept a w H H4 := hK3.trans k
        refine ⟨L, _, _, j, .str ls[j], rfl, rfl, hL4, by omega, by omega, ?_, by rw [List.getElem?_map, List.getElem?_eq_getElem hj]; rfl, ?_⟩
        · rw [List.length_map]
          unfold seqIndex?
          rw [if_neg (show ¬ ((j : Int) < 0) by omega)]
          simp [hj]
        · refine ⟨Fo, _, _, rfl, rfl, (upd_ne LF.symm).trans hF4, ?_, ?_⟩
          · rw [List.length_map]
            exact small1000 (by omega)
          · refine ⟨_, by have := len_erase ls j hj; omega, ls.eraseIdx j, fs ++ [ls[j]], T' + 1, rfl, rfl, ?_, ?_, Kept.put (Kept.put hK4 nL) nF, St.put (St.put s4 oL) oF, ?_, ?_⟩
            · rw [upd_ne LF, upd_same, map_erase]
            · rw [upd_same, List.map_append]
              rfl
            · have := len_erase ls j hj
              omega
            · rw [List.append_assoc]
              exact (List.Perm.append_left fs (perm_erase ls j hj)).trans hp
end
end ZN10

set_option Elab.async false
set_option linter.all false
set_option maxRecDepth 100000
set_option maxHeartbeats 2000000
namespace ZN11
open PySem PySem.Spec PyProof.Rows L2 Cau Dr14 Z1 Z2 Z3 Z4 ZN5 ZN6 ZN7 ZN8 ZN10 TxtSet
abbrev sNm : Stmt := topS 153
/-! ### the names that may be drawn -/
def labelL : List Str := ["a", "b", "z", "meet", "gauge", "draw", "undo", "x", "y", "ok", "r1", "a1", "zzzzzzzz", "q9"]
def kOf (c : Nat) : Str := (⟨#[c]⟩ ++ "k") ++ ⟨#[c]⟩
def sOf (c : Nat) : Str := ⟨#[c]⟩ ++ "7"
def nearL (z : Str) : List Str := (z :: letT.cps.toList.map kOf) ++ letT.cps.toList.map sOf
def goodN (z : Str) : Bool := nameS z && PyData.strOk z && decide (z.length ≤ 8) && decide (z ≠ "notthere") && decide (z ≠ "n0")
theorem labels_good : labelL.all goodN = true := by decide +kernel
theorem ks_good : (letT.cps.toList.map kOf).all goodN = true := by decide +kernel
theorem ss_good : (letT.cps.toList.map sOf).all goodN = true := by decide +kernel
theorem ks_len : (letT.cps.toList.map kOf).length = 26 := by decide +kernel
theorem ss_len : (letT.cps.toList.map sOf).length = 26 := by decide +kernel
theorem ks_nodup : (letT.cps.toList.map kOf).Nodup := by decide +kernel
theorem near_good {z : Str} (h : z ∈ labelL) {y : Str} (hy : y ∈ nearL z) : goodN y = true := by
  unfold nearL at hy
  rw [List.mem_append, List.mem_cons] at hy
  rcases hy with (rfl | hy) | hy
  · exact List.all_eq_true.mp labels_good _ h
  · exact List.all_eq_true.mp ks_good _ hy
  · exact List.all_eq_true.mp ss_good _ hy
def freeN (kn : List Str) (z : Str) : Bool := !decide (z ∈ kn) && !decide (z ∈ sheetL)
theorem near_free (z : Str) (kn : List Str) (h : kn.length ≤ 20) : ∃ y r, (nearL z).filter (freeN kn) = y :: r := by
  cases e : (nearL z).filter (freeN kn) with
  | cons y r => exact ⟨y, r, rfl⟩
  | nil =>
    have all : ∀ y ∈ letT.cps.toList.map kOf, y ∈ kn ++ sheetL := fun y hy => by
      have hn : y ∈ nearL z := by
        unfold nearL
        rw [List.mem_append, List.mem_cons]
        exact .inl (.inr hy)
      have := List.filter_eq_nil_iff.mp e y hn
      unfold freeN at this
      rw [List.mem_append]
      by_cases h1 : y ∈ kn
      · exact .inl h1
      · by_cases h2 : y ∈ sheetL
        · exact .inr h2
        · exact absurd (by simp [h1, h2]) this
    have := nodup_le _ _ ks_nodup all
    rw [List.length_append] at this
    have e1 : (letT.cps.toList.map kOf).length = 26 := by decide +kernel
    have e2 : sheetL.length = 5 := rfl
    omega
def spNm (K : PySem.W.Frag) : Sp := fun vs H Q _ => ∃ (a w c b : Addr) (T : Nat) (kn : List Str), vs = [.ref a, .ref b] ∧ St H a w c T ∧ T ≤ 1000000 ∧ SqL K H b (kn.map V.str) ∧ b ≠ a ∧ b ≠ w ∧ kn.length ≤ 20 ∧
  ∀ (H' : Hp) (z : Str), goodN z = true → z ∉ kn → z ∉ sheetL → Kept a w H H' → St H' a w c (T + 1) → Q (.str z) H'
section
variable {P : Program} {w : World} {K : PySem.W.Frag} {mg : Str → Option Value} {base : Heap}
def nmN : List Str := ["state", "barred", "some", "label", "near", "mark", "one"]
theorem scNm : FnScope nmN ["state", "barred"] (defScope sNm) := ⟨rfl, rfl, rfl, by decide +kernel, rfl, by decide +kernel, by decide +kernel⟩
theorem ok_nm {f fP : Addr} {fd fdP : FuncData} (F : Fun K "_law_name" "_law_name" sNm f fd) (FP : Fun K "_law_pick" "_law_pick" sPick fP fdP) (GP : FnOk P w K mg base CX0 3 fP fdP ["state", "some"] (spPick K)) (bP : Binds K fdP ["state", "some"] []) (gP : mg "_law_pick" = some (.ref fP)) :
    FnOk P w K mg base CX0 4 f fd ["state", "barred"] (spNm K) := by
  refine F.ok scNm (fun vs H Q E h => ?_) (fun cdv A outer s H vs Q E hr h => ?_)
  · obtain ⟨a, w, c, b, T, kn, rfl, _⟩ := h
    rfl
  · obtain ⟨a, w, c, b, T, kn, rfl, hSt, hT, hB, nba, nbw, hkl, q⟩ := h
    refine ⟨_, pss_cons (ps_set (i := 2) scNm.nd rfl (.inl rfl) (pe_lst (pa_cons pe_str (pa_cons pe_str (pa_cons pe_str (pa_cons pe_str (pa_cons pe_str (pa_cons pe_str (pa_cons pe_str (pa_cons pe_str (pa_cons pe_str (pa_cons pe_str (pa_cons pe_str (pa_cons pe_str (pa_cons pe_str (pa_cons pe_str pa_nil))))))))))))))))
      (pss_cons (ps_set (i := 3) scNm.nd rfl (.inl rfl) (pe_call GP hr (by rfl) gP FP.kp bP .nil pass0 (pa_cons (pv 0) (pa_cons (pv 2) pa_nil))))
      (pss_cons (ps_set (i := 4) scNm.nd rfl (.inl rfl) (pe_op op_cat (pe_lst (pa_cons (pv 3) pa_nil))
          (pe_lc (own := [("mark", 5)]) (g := gName 5) (tt := tYes) rfl scNm.nd (pi_str pe_str)
            (blkOk_by (own := [("mark", 5)]) (N := nmN) (sc := defScope sNm) (by decide +kernel))
            (fun _ _ _ _ _ => pg_name (i := 5) scNm.nd rfl (.inl rfl)) (fun _ _ _ _ _ => pts_nil) (fun _ _ _ _ _ => pe_op op_add_str (pe_op op_add_str (pv 5) pe_str) (pv 5)))))
      (pss_cons (ps_set (i := 4) scNm.nd rfl (.inl rfl) (pe_op op_cat (pv 4)
          (pe_lc (own := [("mark", 5)]) (g := gName 5) (tt := tYes) rfl scNm.nd (pi_str pe_str)
            (blkOk_by (own := [("mark", 5)]) (N := nmN) (sc := defScope sNm) (by decide +kernel))
            (fun _ _ _ _ _ => pg_name (i := 5) scNm.nd rfl (.inl rfl)) (fun _ _ _ _ _ => pts_nil) (fun _ _ _ _ _ => pe_op op_add_str (pv 5) pe_str))))
      (pss_one (ps_ret (pe_ix ix_list
          (pe_lc (own := [("one", 6)]) (g := gName 6) rfl scNm.nd (pi_list (pv 4))
            (blkOk_by (own := [("one", 6)]) (N := nmN) (sc := defScope sNm) (by decide +kernel))
            (fun _ _ _ _ _ => pg_name (i := 6) scNm.nd rfl (.inl rfl))
            (fun _ _ _ _ _ => pts_one (PW.pt (pw_and (pt_cmpR (show OpR _ (compareOp .NotIn) (rIn K true) from op_notIn_seq) (pv 6) (pv 1) (by rfl))
              (pw_and1 (pt_cmpR (show OpR _ (compareOp .NotIn) (rIn K true) from op_notIn_seq) (pv 6) (pe_lst (pa_cons pe_str (pa_cons pe_str (pa_cons pe_str (pa_cons pe_str (pa_cons pe_str pa_nil)))))) (by rfl))))))
            (fun _ _ _ _ _ => pv 6)) pe_int (fun _ _ => rfl))))))), ?_⟩
    refine ⟨by show 14 ≤ sizeLine; decide, fun l nl => ?_⟩
    have ol := St.off hSt nl
    have k1 : Kept a w H (upd H l (.lst (labelL.map V.str))) := Kept.of (same_upd nl)
    have s1 : St (upd H l (.lst (labelL.map V.str))) a w c T := St.put hSt ol
    refine ⟨_, rfl, _, rfl, a, w, c, l, T, labelL.map V.str, rfl, s1, hT, .inl (.inl upd_same), ol.1, ol.2.1, by decide, by decide, fun H2 x hx k2 s2 => ?_⟩
    obtain ⟨z, hz, rfl⟩ := List.mem_map.mp hx
    have K2 : Kept a w H H2 := k1.trans k2
    have hB2 : SqL K H2 b (kn.map V.str) := seqL_kept hB K2 nba nbw
    -- the first of the near
    refine ⟨_, rfl, by show 1 ≤ sizeLine; decide, fun l1 n1 => ?_⟩
    refine ⟨letT, rfl, fun D nD => ?_⟩
    have lD : l1 ≠ D := fun e => by rw [← e, upd_same] at nD; cases nD
    have sD : Same H2 (upd H2 l1 (.lst [.str z])) := same_upd n1
    refine lc_it walk_str (fun i H' => ∃ bs : List Str, H' = upd (upd H2 l1 (.lst [.str z])) D (.lst (bs.map V.str)) ∧ bs = (letT.cps.toList.take i).map kOf) ⟨[], rfl, rfl⟩ (fun _ _ _ _ => trivial) ?_ ?_
    · rintro i x H3 H4 hi ⟨bs, rfl, hbs⟩ ⟨rfl, c1, hc1, rfl⟩
      have hil : bs.length < 27 := by
        have : letT.cps.size = 26 := by decide +kernel
        rw [hbs, List.length_map, List.length_take]
        omega
      refine ⟨rfl, _, rfl, _, _, rfl, rfl, by show 2 ≤ sizeLine; decide, _, rfl, _, _, rfl, rfl, by show 3 ≤ sizeLine; decide, _, upd_same, ?_, bs ++ [kOf c1], by rw [upd_upd, List.map_append]; rfl, ?_⟩
      · rw [List.length_map]
        exact small1000 (by omega)
      · rw [hbs, List.take_succ, List.map_append, Array.getElem?_toList, hc1]
        rfl
    · rintro H3 ⟨bs, rfl, hbs⟩
      have ebs : bs = letT.cps.toList.map kOf := by
        rw [hbs, show letT.cps.size = letT.cps.toList.length from rfl, List.take_length]
      subst ebs
      refine ⟨l1, D, _, _, rfl, rfl, (upd_ne lD).trans upd_same, upd_same, by rw [List.length_map, ks_len]; show 27 ≤ sizeLine; decide, fun p1 np1 => ?_⟩
      have S3 : Same H2 (upd (upd (upd H2 l1 (.lst [.str z])) D (.lst ((letT.cps.toList.map kOf).map V.str))) p1 (.lst ([.str z] ++ (letT.cps.toList.map kOf).map V.str))) := (same_upd n1).trans ((same_upd nD).trans (same_upd np1))
      generalize hH3 : upd (upd (upd H2 l1 (.lst [.str z])) D (.lst ((letT.cps.toList.map kOf).map V.str))) p1 (.lst ([.str z] ++ (letT.cps.toList.map kOf).map V.str)) = H3 at S3
      have hp1 : H3 p1 = some (.lst ((z :: letT.cps.toList.map kOf).map V.str)) := by rw [← hH3]; exact upd_same
      -- the second
      refine ⟨_, rfl, letT, rfl, fun D2 nD2 => ?_⟩
      have pD2 : p1 ≠ D2 := ne_of_none hp1 nD2
      refine lc_it walk_str (fun i H' => ∃ bs : List Str, H' = upd H3 D2 (.lst (bs.map V.str)) ∧ bs = (letT.cps.toList.take i).map sOf) ⟨[], rfl, rfl⟩ (fun _ _ _ _ => trivial) ?_ ?_
      · rintro i x H4 H5 hi ⟨bs, rfl, hbs⟩ ⟨rfl, c1, hc1, rfl⟩
        have hil : bs.length < 27 := by
          have : letT.cps.size = 26 := by decide +kernel
          rw [hbs, List.length_map, List.length_take]
          omega
        refine ⟨rfl, _, rfl, _, _, rfl, rfl, by show 2 ≤ sizeLine; decide, _, upd_same, ?_, bs ++ [sOf c1], by rw [upd_upd, List.map_append]; rfl, ?_⟩
        · rw [List.length_map]
          exact small1000 (by omega)
        · rw [hbs, List.take_succ, List.map_append, Array.getElem?_toList, hc1]
          rfl
      · rintro H4 ⟨bs, rfl, hbs⟩
        have ebs : bs = letT.cps.toList.map sOf := by
          rw [hbs, show letT.cps.size = letT.cps.toList.length from rfl, List.take_length]
        subst ebs
        refine ⟨p1, D2, _, _, rfl, rfl, (upd_ne pD2).trans hp1, upd_same, by rw [List.length_map, List.length_map, List.length_cons, ks_len, ss_len]; show 53 ≤ sizeLine; decide, fun p2 np2 => ?_⟩
        have S5 := S3.trans ((same_upd (o := .lst ((letT.cps.toList.map sOf).map V.str)) nD2).trans (same_upd (o := .lst ((z :: letT.cps.toList.map kOf).map V.str ++ (letT.cps.toList.map sOf).map V.str)) np2))
        generalize hH5 : upd (upd H3 D2 (.lst ((letT.cps.toList.map sOf).map V.str))) p2 (.lst ((z :: letT.cps.toList.map kOf).map V.str ++ (letT.cps.toList.map sOf).map V.str)) = H5 at S5
        have hp2 : H5 p2 = some (.lst ((nearL z).map V.str)) := by
          rw [← hH5, upd_same]
          unfold nearL
          rw [List.map_append]
        have hB5 : SqL K H5 b (kn.map V.str) := S5.seq hB2
        have len : (nearL z).length = 53 := by
          unfold nearL
          rw [List.length_append, List.length_cons]
          decide +kernel
        refine ⟨_, rfl, p2, rfl, ⟨_, .inl (.inl hp2)⟩, fun R nR => ?_⟩
        refine lc_list (K := K) (a := p2) (xs := (nearL z).map V.str) (fun i H' => ∃ cs : List Str, H' R = some (.lst (cs.map V.str)) ∧ cs = ((nearL z).take i).filter (freeN kn) ∧ Same H5 H') ⟨[], upd_same, rfl, same_upd nR⟩ (fun i H' _ ⟨_, _, _, sm⟩ => .inl (.inl (sm _ _ hp2))) ?_ ?_
        · rintro i x H6 hx ⟨cs, hR, hcs, sm⟩
          obtain ⟨y, rfl, hy⟩ : ∃ y, x = V.str y ∧ (nearL z)[i]? = some y := by
            rw [List.getElem?_map] at hx
            cases e : (nearL z)[i]? with
            | none => rw [e] at hx; cases hx
            | some y => rw [e] at hx; exact ⟨y, (Option.some.inj hx).symm, rfl⟩
          have hcl : cs.length ≤ 53 := by
            rw [hcs]
            refine Nat.le_trans (List.length_filter_le _ _) ?_
            rw [List.length_take]
            omega
          have step : ((nearL z).take (i + 1)).filter (freeN kn) = cs ++ (if freeN kn y = true then [y] else []) := by
            rw [hcs, List.take_succ, List.filter_append, hy]
            cases e : freeN kn y <;> simp [e]
          have no : ∀ H', H' R = some (.lst (cs.map V.str)) → Same H5 H' → freeN kn y = false → ∃ cs : List Str, H' R = some (.lst (cs.map V.str)) ∧ cs = ((nearL z).take (i + 1)).filter (freeN kn) ∧ Same H5 H' := fun H' h1 h2 e => ⟨cs, h1, by rw [step, e]; simp, h2⟩
          refine ⟨rfl, _, rfl, _, rfl, b, kn.map V.str, rfl, .inl (sm.seq hB5), rfl, strs_flat _, _, rfl, ?_⟩
          show if (!inV (.str y) (kn.map V.str)) = true then _ else _
          rw [inV_kn]
          by_cases hk : y ∈ kn
          · refine iteF2 (by rw [decide_eq_true hk]; rfl) (iteF (no _ hR sm ?_))
            unfold freeN
            simp [hk]
          · refine iteT2 (by rw [decide_eq_false hk]; rfl) ?_
            refine ⟨_, rfl, by show 5 ≤ sizeLine; decide, fun t nt => ?_⟩
            have tR : R ≠ t := ne_of_none hR nt
            have hR2 : (upd H6 t (.lst (sheetL.map V.str))) R = some (.lst (cs.map V.str)) := (upd_ne tR).trans hR
            have sm2 : Same H5 (upd H6 t (.lst (sheetL.map V.str))) := sm.trans (same_upd nt)
            refine ⟨t, sheetL.map V.str, rfl, .inl (.inl (.inl upd_same)), rfl, strs_flat _, _, rfl, ?_⟩
            show if (!inV (.str y) (sheetL.map V.str)) = true then _ else _
            rw [inV_kn]
            by_cases hs : y ∈ sheetL
            · refine iteF2 (by rw [decide_eq_true hs]; rfl) (no _ hR2 sm2 ?_)
              unfold freeN
              simp [hs]
            · refine iteT2 (by rw [decide_eq_false hs]; rfl) ⟨_, rfl, _, hR2, ?_, cs ++ [y], by rw [upd_same, List.map_append]; rfl, ?_, same_put sm2 nR⟩
              · rw [List.length_map]
                exact small1000 (by omega)
              · rw [step, if_pos (show freeN kn y = true by unfold freeN; simp [hk, hs])]
        · rintro H6 ⟨cs, hR, hcs, sm⟩
          rw [List.length_map, List.take_length] at hcs
          obtain ⟨y, r, e⟩ := near_free z kn hkl
          rw [e] at hcs
          subst hcs
          have hy : y ∈ (nearL z).filter (freeN kn) := by rw [e]; exact List.mem_cons_self
          rw [List.mem_filter] at hy
          have fr := hy.2
          unfold freeN at fr
          simp only [Bool.and_eq_true, Bool.not_eq_true', decide_eq_false_iff_not] at fr
          have S6 : Same H2 H6 := S5.trans sm
          exact ⟨R, _, 0, _, rfl, rfl, .inl (.inl hR), atI_nat (j := 0) rfl, q H6 y (near_good hz hy.1) fr.1 fr.2 (K2.trans (Kept.of S6)) (St.same s2 S6)⟩
end
end ZN11

set_option Elab.async false
set_option linter.all false
set_option maxRecDepth 100000
set_option maxHeartbeats 2000000
namespace ZN12
open PySem PySem.Spec PyProof.Rows L2 Cau Dr14 Z1 Z2 Z3 Z4 ZN5 ZN6 ZN7 ZN8 ZN10 ZN11 TxtSet
abbrev sDrawn : Stmt := topS 157
def WayOk (w : Str) (way : List V) : Prop := if wayW w = true then way = [.int 1] ∨ way = [.int 2] else way = []
/-- len of a list or a tuple -/
def rLenS (K : PySem.W.Frag) : List V → Hp → VK → Prop := fun xs H Q => ∃ p ys, xs = [V.ref p] ∧ (SqL K H p ys ∨ SqT K H p ys) ∧ Q (.int ys.length) H
def spDrawn (K : PySem.W.Frag) : Sp := fun vs H Q _ => ∃ (a w c p : Addr) (T : Nat) (w0 : Str) (k : Nat) (ns : List Str), vs = [.ref a, .str w0, .ref p] ∧ St H a w c T ∧ T + ns.length + 20 ≤ 1000000 ∧ formOf w0 = some k ∧ SqL K H p (ns.map V.str) ∧ p ≠ a ∧ p ≠ w ∧ 0 < ns.length ∧ ns.length ≤ 900 ∧ (∀ x ∈ ns, PyData.strOk x = true) ∧
  ∀ (H' : Hp) (q : Addr) (us : List Str) (way : List V), H q = none → H' q = some (.tup (.str w0 :: (us.map V.str ++ way))) → us.length = k → (∀ u ∈ us, u ∈ ns) → WayOk w0 way → Kept a w H H' → St H' a w c (T + ns.length + 20) → (q ≠ a ∧ q ≠ w ∧ q ≠ c) → Q (.ref q) H'
section
variable {P : Program} {w : World} {K : PySem.W.Frag} {mg : Str → Option Value} {base : Heap}
def drawnN : List Str := ["state", "word", "names", "left", "found", "spot"]
theorem scDw : FnScope drawnN ["state", "word", "names"] (defScope sDrawn) := ⟨rfl, rfl, rfl, by decide +kernel, rfl, by decide +kernel, by decide +kernel⟩
theorem ok_drawn {f fS fD fP fF fW : Addr} {fd fdS fdD fdP fdF fdW : FuncData} (F : Fun K "_law_deed" "_law_deed" sDrawn f fd)
    (FS : Fun K "_law_shuffled" "_law_shuffled" sShuf fS fdS) (GS : FnOk P w K mg base CX0 3 fS fdS ["state", "some"] (spShuf K)) (bS : Binds K fdS ["state", "some"] []) (gS : mg "_law_shuffled" = some (.ref fS))
    (FD : Fun K "_law_draw" "_law_draw" sDraw fD fdD) (GD : FnOk P w K mg base CX0 2 fD fdD ["state", "room"] spDraw) (bD : Binds K fdD ["state", "room"] []) (gD : mg "_law_draw" = some (.ref fD))
    (FP : Fun K "_law_pick" "_law_pick" sPick fP fdP) (GP : FnOk P w K mg base CX0 3 fP fdP ["state", "some"] (spPick K)) (bP : Binds K fdP ["state", "some"] []) (gP : mg "_law_pick" = some (.ref fP))
    (FF : Fun K "_law_forms" "_law_forms" sForms fF fdF) (GF : FnOk P w K mg base CX0 1 fF fdF [] spForms) (bF : Binds K fdF [] []) (gF : mg "_law_forms" = some (.ref fF))
    (FW : Fun K "_law_has_way" "_law_has_way" sHasWay fW fdW) (GW : FnOk P w K mg base CX0 1 fW fdW ["word"] spHasWay) (bW : Binds K fdW ["word"] []) (gW : mg "_law_has_way" = some (.ref fW))
    (mr : mg "range" = none) (mlen : mg "len" = none) (mt : mg "tuple" = none) : FnOk P w K mg base CX0 4 f fd ["state", "word", "names"] (spDrawn K) := by
  refine F.ok scDw (fun vs H Q E h => ?_) (fun cdv A outer s H vs Q E hr h => ?_)
  · obtain ⟨a, w, c, p, T, w0, k, ns, rfl, _⟩ := h
    rfl
  · obtain ⟨a, w, c, p, T, w0, k, ns, rfl, hSt, hT, hf, hS, npa, npw, hn0, hn, hok, q⟩ := h
    have hu := hu_of (hr.mono (Nat.zero_le _) : Room 0 _)
    have hr1 : Room 1 _ := hr.mono (by decide)
    have hr2 : Room 2 _ := hr.mono (by decide)
    refine ⟨_, pss_cons (ps_set (i := 3) scDw.nd rfl (.inr rfl) (pe_call GS hr (by rfl) gS FS.kp bS .nil pass0 (pa_cons (pv 0) (pa_cons (pv 2) pa_nil))))
      (pss_cons (ps_setLc (i := 4) (own := [("spot", 5)]) (g := gName 5) (tt := tYes) rfl scDw.nd rfl rfl (sw_true rfl rfl rfl (by decide +kernel))
          (pi_range1 (by rfl) mr (pa_cons (pe_dget hu (pe_call0 GF hr1 (by rfl) gF FF.kp bF .nil pass0) (pv 1) (fun _ _ => rfl)) pa_nil))
          (blkOk_by (own := [("spot", 5)]) (N := drawnN) (sc := defScope sDrawn) (by decide +kernel))
          (fun _ _ _ _ _ => pg_name (i := 5) scDw.nd rfl (.inl rfl)) (fun _ _ _ _ _ => pts_nil)
          (fun _ _ _ _ _ => pe_ifExp (PW.pt (pw_and (pt_cmpR op_lt (pv 5) (pe_callB (show CallR _ (.builtin "len") (rLenS K) from call_len_seq) (by rfl) mlen PySem.boot_len (pa_cons (pv 3) pa_nil)) (nomark _))
              (pw_and1 (pt_cmpR op_gt (pe_call GD hr2 (by rfl) gD FD.kp bD .nil pass0 (pa_cons (pv 0) (pa_cons pe_int pa_nil))) pe_int (nomark _)))))
            (pe_ix (show IxR _ (rIxL K) from ix_list) (pv 3) (pv 5) (fun _ _ => rfl))
            (pe_call GP hr (by rfl) gP FP.kp bP .nil pass0 (pa_cons (pv 0) (pa_cons (pv 2) pa_nil)))))
      (pss_one (ps_ret (pe_callTy call_tuple_of (by rfl) mt (by decide +kernel) (pa_cons (pe_op op_cat (pe_op op_cat (pe_lst (pa_cons (pv 1) pa_nil)) (pv 4))
          (pe_ifExp (pt_val (pe_call GW hr1 (by rfl) gW FW.kp bW .nil pass0 (pa_cons (pv 1) pa_nil)))
            (pe_lst (pa_cons (pe_op op_add pe_int (pe_call GD hr2 (by rfl) gD FD.kp bD .nil pass0 (pa_cons (pv 0) (pa_cons pe_int pa_nil)))) pa_nil)) (pe_lst pa_nil))) pa_nil))))), ?_⟩
    refine ⟨_, rfl, _, rfl, a, w, c, p, T, ns, rfl, hSt, by omega, hS, hn, hok, fun H1 l ys pm nl hl k1 s1 ol => ?_⟩
    refine ⟨rfl, fun fp nfp => ?_⟩
    have ofp := St.off s1 nfp
    have lfp : l ≠ fp := ne_of_none hl nfp
    have gk : DGet (upd H1 fp (.dK formsD)) fp (.str w0) (some (.int (k : Nat))) := by
      have e : valV formsD (.inr w0) = some (.int (k : Nat)) := by rw [forms_get, hf]; rfl
      exact e ▸ DGet.k (k := (.inr w0 : Key)) upd_same
    have k5 := (formOf_small hf).2
    refine ⟨_, rfl, fp, _, rfl, gk, (k : Int), rfl, by omega, by omega, fun D nD => ?_⟩
    have k2 : Kept a w H (upd H1 fp (.dK formsD)) := k1.trans (Kept.of (same_upd nfp))
    have s2 : St (upd H1 fp (.dK formsD)) a w c (T + ns.length) := St.put s1 ofp
    have hl2 : (upd H1 fp (.dK formsD)) l = some (.lst (ys.map V.str)) := (upd_ne lfp).trans hl
    generalize upd H1 fp (.dK formsD) = H2 at nD k2 s2 hl2
    have oD := St.off s2 nD
    have lD : l ≠ D := ne_of_none hl2 nD
    have nD0 : H D = none := kept_none k2 nD ⟨oD.1, oD.2.1⟩
    have yl : ys.length = ns.length := pm.length_eq
    refine lc_range (lo := 0) (n := (k : Int).toNat) (fun i H' => ∃ (us : List Str) (T' : Nat), H' D = some (.lst (us.map V.str)) ∧ us.length = i ∧ (∀ u ∈ us, u ∈ ns) ∧ Kept a w H H' ∧ Kept a w H2 H' ∧ St H' a w c T' ∧ T' ≤ T + ns.length + 2 * i)
      ⟨[], _, upd_same, rfl, fun _ h => absurd h List.not_mem_nil, Kept.put k2 nD0, Kept.put (fun b o e _ _ => e) nD, St.put s2 oD, by omega⟩ ?_ ?_
    · rintro i H3 hi ⟨us, T', hD, hul, hus, k3, k4, s3, hT'⟩
      have hik : i < k := hi
      have hl3 : H3 l = some (.lst (ys.map V.str)) := k4 _ _ hl2 ol.1 ol.2.1
      have fin : ∀ (H4 : Hp) (u : Str) (T2 : Nat), u ∈ ns → Kept a w H3 H4 → St H4 a w c T2 → T2 ≤ T' + 2 → ∃ acc, H4 D = some (.lst acc) ∧ acc.length < sizeLine ∧ ∃ (us : List Str) (T' : Nat), (upd H4 D (.lst (acc ++ [V.str u]))) D = some (.lst (us.map V.str)) ∧ us.length = i + 1 ∧ (∀ u ∈ us, u ∈ ns) ∧ Kept a w H (upd H4 D (.lst (acc ++ [V.str u]))) ∧ Kept a w H2 (upd H4 D (.lst (acc ++ [V.str u]))) ∧ St (upd H4 D (.lst (acc ++ [V.str u]))) a w c T' ∧ T' ≤ T + ns.length + 2 * (i + 1) := by
        intro H4 u T2 hu' k5' s5 l5
        refine ⟨_, k5' _ _ hD oD.1 oD.2.1, ?_, us ++ [u], T2, by rw [upd_same, List.map_append]; rfl, by rw [List.length_append, hul]; rfl, fun v hv => ?_, Kept.put (k3.trans k5') nD0, Kept.put (k4.trans k5') nD, St.put s5 oD, by omega⟩
        · rw [List.length_map]
          exact small1000 (by omega)
        · rcases List.mem_append.mp hv with hv | hv
          · exact hus v hv
          · rw [List.mem_singleton.mp hv]
            exact hu'
      refine ⟨rfl, ?_⟩
      have hp3 : SqL K H3 p (ns.map V.str) := seqL_kept hS k3 npa npw
      refine ⟨_, rfl, _, rfl, l, _, rfl, .inl (.inl (.inl hl3)), _, _, rfl, rfl, _, rfl, ite2 (fun hlt => ?_) (fun _ => ?_)⟩
      · have hlt' : i < ys.length := by
          have := of_decide_eq_true hlt
          rw [List.length_map] at this
          omega
        refine ⟨_, rfl, a, w, c, T', 9, rfl, s3, by omega, by decide, pow1000 (n := 9) (by decide), fun H4 d h0 h1 k6 s6 => ?_⟩
        refine ⟨_, _, rfl, rfl, _, rfl, ite2 (fun hd => ?_) (fun _ => ?_)⟩
        · have hl4 : H4 l = some (.lst (ys.map V.str)) := k6 _ _ hl3 ol.1 ol.2.1
          refine ⟨_, rfl, _, rfl, l, _, _, .str ys[i], rfl, rfl, .inl (.inl hl4), ?_, ?_⟩
          · rw [Int.zero_add]
            refine atI_nat (j := i) ?_
            rw [List.getElem?_map, List.getElem?_eq_getElem hlt']
            rfl
          · exact fin H4 ys[i] _ (pm.mem_iff.mp (List.getElem_mem _)) k6 s6 (by omega)
        · refine ⟨_, rfl, _, rfl, a, w, c, p, T' + 1, ns.map V.str, rfl, s6, by omega, seqL_kept hp3 k6 npa npw, npa, npw, by rwa [List.length_map], by rw [List.length_map]; omega, fun H5 x hx k7 s7 => ?_⟩
          obtain ⟨u, hu', rfl⟩ := List.mem_map.mp hx
          exact fin H5 u _ hu' (k6.trans k7) s7 (by omega)
      · refine ⟨_, rfl, _, rfl, a, w, c, p, T', ns.map V.str, rfl, s3, by omega, hp3, npa, npw, by rwa [List.length_map], by rw [List.length_map]; omega, fun H5 x hx k7 s7 => ?_⟩
        obtain ⟨u, hu', rfl⟩ := List.mem_map.mp hx
        exact fin H5 u _ hu' k7 s7 (by omega)
    · rintro H3 ⟨us, T', hD, hul, hus, k3, _, s3, hT'⟩
      have hul : us.length = k := hul
      refine ⟨_, rfl, by show 1 ≤ sizeLine; decide, fun l1 n1 => ?_⟩
      have D1 : D ≠ l1 := ne_of_none hD n1
      have hD1 : (upd H3 l1 (.lst [.str w0])) D = some (.lst (us.map V.str)) := (upd_ne D1).trans hD
      refine ⟨_, rfl, l1, D, _, _, rfl, rfl, upd_same, hD1, ?_, fun p1 np1 => ?_⟩
      · rw [List.length_map, hul]
        exact Nat.le_of_lt (small1000 (by show 1 + k ≤ 1000; omega))
      have S1 : Same H3 (upd (upd H3 l1 (.lst [.str w0])) p1 (.lst ([.str w0] ++ us.map V.str))) := (same_upd n1).trans (same_upd np1)
      generalize hH4 : upd (upd H3 l1 (.lst [.str w0])) p1 (.lst ([.str w0] ++ us.map V.str)) = H4 at S1
      have hp1 : H4 p1 = some (.lst ([.str w0] ++ us.map V.str)) := by rw [← hH4]; exact upd_same
      have np10 : H3 p1 = none := PySem.Spec.same_none (same_upd n1) np1
      have op1 := St.off s3 np10
      refine ⟨_, rfl, w0, rfl, fun H5 S5 => ⟨_, rfl, ?_⟩⟩
      have hp15 := S5 _ _ hp1
      have s5 : St H5 a w c T' := St.same s3 (S1.trans S5)
      have k5' : Kept a w H H5 := k3.trans (Kept.of (S1.trans S5))
      have fin : ∀ (H6 : Hp) (l3 : Addr) (way : List V) (T2 : Nat), H6 p1 = some (.lst ([.str w0] ++ us.map V.str)) → H6 l3 = some (.lst way) → way.length ≤ 1 → WayOk w0 way → Kept a w H H6 → St H6 a w c T2 → T2 ≤ T' + 1 →
          rCat (.ref p1) (.ref l3) H6 fun v H7 => ∃ p ys, [v] = [V.ref p] ∧ ((SqL K H7 p ys ∧ ∀ l, H7 l = none → Q (.ref l) (upd H7 l (.tup ys))) ∨ (SqT K H7 p ys ∧ Q (.ref p) H7)) := by
        intro H6 l3 way T2 e1 e2 e3 ok k6 s6 l6
        refine ⟨p1, l3, _, _, rfl, rfl, e1, e2, ?_, fun p2 np2 => ⟨p2, _, rfl, .inl ⟨.inl (.inl upd_same), fun q0 nq0 => ?_⟩⟩⟩
        · rw [List.length_append, List.length_map, hul]
          exact Nat.le_of_lt (small1000 (by show 1 + k + way.length ≤ 1000; omega))
        have op2 := St.off s6 np2
        have s7 := St.put (o := .lst ([.str w0] ++ us.map V.str ++ way)) s6 op2
        have oq := St.off s7 nq0
        have np20 : H p2 = none := kept_none k6 np2 ⟨op2.1, op2.2.1⟩
        have k7 := Kept.put (o := .lst ([.str w0] ++ us.map V.str ++ way)) k6 np20
        have nq00 : H q0 = none := kept_none k7 nq0 ⟨oq.1, oq.2.1⟩
        exact q _ q0 us way nq00 (by rw [upd_same]; rfl) hul hus ok (Kept.put k7 nq00) (St.mono (St.put s7 oq) (by omega)) oq
      cases hw : wayW w0 with
      | true =>
        refine iteT2 rfl ?_
        refine ⟨_, rfl, a, w, c, T', 2, rfl, s5, by omega, by decide, pow1000 (n := 2) (by decide), fun H6 d h0 h1 k6 s6 => ?_⟩
        refine ⟨1, d, rfl, rfl, by show 1 ≤ sizeLine; decide, fun l3 n3 => ?_⟩
        have hp16 : H6 p1 = some (.lst ([.str w0] ++ us.map V.str)) := k6 _ _ hp15 op1.1 op1.2.1
        have o3 := St.off s6 n3
        have p3 : p1 ≠ l3 := ne_of_none hp16 n3
        have n30 : H l3 = none := kept_none (k5'.trans k6) n3 ⟨o3.1, o3.2.1⟩
        refine fin _ l3 [.int (1 + d)] (T' + 1) ((upd_ne p3).trans hp16) upd_same (Nat.le_refl _) ?_ (Kept.put (k5'.trans k6) n30) (St.put s6 o3) (Nat.le_refl _)
        unfold WayOk
        rw [if_pos hw]
        have : d = 0 ∨ d = 1 := by omega
        rcases this with rfl | rfl
        · exact .inl rfl
        · exact .inr rfl
      | false =>
        refine iteF2 rfl ?_
        refine ⟨Nat.zero_le _, fun l3 n3 => ?_⟩
        have p3 : p1 ≠ l3 := ne_of_none hp15 n3
        have o3 := St.off s5 n3
        have n30 : H l3 = none := kept_none k5' n3 ⟨o3.1, o3.2.1⟩
        refine fin _ l3 [] T' ((upd_ne p3).trans hp15) upd_same (Nat.zero_le _) ?_ (Kept.put k5' n30) (St.put s5 o3) (Nat.le_succ _)
        unfold WayOk
        rw [if_neg (by rw [hw]; decide)]
end
end ZN12

set_option Elab.async false
set_option linter.all false
set_option maxRecDepth 100000
set_option maxHeartbeats 2000000
namespace ZN13
open PySem PySem.Spec PyProof.Rows L2 Cau Dr14 Z1 Z2 Z3 Z4 ZN5 ZN6 ZN7 ZN8 ZN10 ZN11 ZN12 TxtSet
/-! ### tuples stay -/
def TK (K : PySem.W.Frag) (H H' : Hp) : Prop := ∀ q xs, SqT K H q xs → SqT K H' q xs
theorem TK.trans {K : PySem.W.Frag} {H H1 H2 : Hp} (x : TK K H H1) (y : TK K H1 H2) : TK K H H2 := fun q xs h => y q xs (x q xs h)
theorem TK.of {K : PySem.W.Frag} {H H' : Hp} (s : Same H H') : TK K H H' := fun q xs h => sqT_same h s
theorem TK.put {K : PySem.W.Frag} {H : Hp} {l : Addr} {zs : List V} {o : HO} (e : H l = some (.lst zs)) : TK K H (upd H l o) := fun q xs h => by
  rcases h with (h | ⟨u, h⟩) | h
  · have n : q ≠ l := fun z => by rw [z, e] at h; cases h
    exact .inl (.inl ((upd_ne n).trans h))
  · have n : q ≠ l := fun z => by rw [z, e] at h; cases h
    exact .inl (.inr ⟨u, (upd_ne n).trans h⟩)
  · exact .inr h
theorem TK.kept {K : PySem.W.Frag} {H H' : Hp} {a w c : Addr} {T : Nat} (s : St H a w c T) (k : Kept a w H H') : TK K H H' := fun q xs h => by
  obtain ⟨_, ws, cs, r, t, h1, h2, _⟩ := s
  rcases h with (h | ⟨u, h⟩) | h
  · exact .inl (.inl (k _ _ h (fun z => by rw [z, h1] at h; cases h) (fun z => by rw [z, h2] at h; cases h)))
  · exact .inl (.inr ⟨u, k _ _ h (fun z => by rw [z, h1] at h; cases h) (fun z => by rw [z, h2] at h; cases h)⟩)
  · exact .inr h
/-- a step that was drawn -/
def SdT (K : PySem.W.Frag) (H : Hp) (y : V) (p : St1) : Prop := ∃ yp zp, y = .ref yp ∧ SqT K H yp [.str p.1, .ref zp] ∧ SqT K H zp p.2 ∧ p.2.all AtomV = true ∧ p.2.length ≤ 100 ∧ AtomV (.str p.1) = true
theorem SdT.tk {K : PySem.W.Frag} {H H' : Hp} {y : V} {p : St1} (h : SdT K H y p) (t : TK K H H') : SdT K H' y p := by
  obtain ⟨yp, zp, e, h1, h2, h3⟩ := h
  exact ⟨yp, zp, e, t _ _ h1, t _ _ h2, h3⟩
theorem SdT.ok {K : PySem.W.Frag} {H : Hp} {y : V} {p : St1} (h : SdT K H y p) : SdOk K H y (sdOf p) := by
  obtain ⟨yp, zp, e, h1, h2, h3, h4, h5⟩ := h
  exact ⟨yp, .ref zp, e, h1, h5, .inl ⟨zp, p.2, rfl, h2, (fun x hx => .atom (List.all_eq_true.mp h3 x hx)), h4, rfl⟩⟩
/-! ### the drawn deeds are deeds -/
theorem goes_snoc : ∀ (st : List St1) (kn : List Str) (p : St1), goesB (st.map sdOf) kn = true → stepB (sdOf p) (kn ++ st.map (·.1)) = some p.1 → goesB ((st ++ [p]).map sdOf) kn = true
  | [], kn, p, _, h => by
    rw [List.map_nil, List.append_nil] at h
    show goesB [sdOf p] kn = true
    unfold goesB
    rw [h]
    rfl
  | q :: r, kn, p, hg, h => by
    rw [List.map_cons] at hg
    rw [List.cons_append, List.map_cons]
    unfold goesB at hg ⊢
    cases e : stepB (sdOf q) kn with
    | none => rw [e] at hg; cases hg
    | some s =>
      rw [e] at hg
      have es : s = q.1 := by
        have e' : stepB (.pair (.str q.1) (some q.2)) kn = some s := e
        rw [step_str] at e'
        split at e'
        · exact (Option.some.inj e').symm
        · cases e'
      subst es
      refine goes_snoc r (kn ++ [q.1]) p hg ?_
      rw [List.append_assoc]
      exact h
theorem good_name {z : Str} (h : goodN z = true) : nameS z = true ∧ PyData.strOk z = true ∧ z.length ≤ 8 := by
  unfold goodN at h
  simp only [Bool.and_eq_true, decide_eq_true_eq] at h
  exact ⟨h.1.1.1.1, h.1.1.1.2, h.1.1.2⟩
theorem good_odd {z : Str} (h : goodN z = true) : z ≠ "notthere" ∧ z ≠ "n0" := by
  unfold goodN at h
  simp only [Bool.and_eq_true, decide_eq_true_eq] at h
  exact ⟨h.1.2, h.2⟩
theorem good_atom {z : Str} (h : goodN z = true) : AtomV (.str z) = true := by
  obtain ⟨_, h2, h3⟩ := good_name h
  show (decide (z.length ≤ 4000) && PyData.strOk z) = true
  rw [h2, decide_eq_true (show z.length ≤ 4000 by omega)]
  rfl
theorem word_atom {w : Str} {k : Nat} (h : formOf w = some k) : AtomV (.str w) = true := by
  have all : ∀ p ∈ formsL, AtomV (.str p.1) = true := by decide +kernel
  exact all (w, k) (PySem.mem_of_lookup h)
theorem way_len {w : Str} {way : List V} (h : WayOk w way) : way.length ≤ 1 := by
  unfold WayOk at h
  split at h
  · rcases h with rfl | rfl <;> exact Nat.le_refl _
  · subst h
    exact Nat.zero_le _
theorem way_atom {w : Str} {way : List V} (h : WayOk w way) : way.all AtomV = true := by
  unfold WayOk at h
  split at h
  · rcases h with rfl | rfl <;> rfl
  · subst h
    rfl
theorem drawn_deed {w : Str} {k : Nat} {us : List Str} {way : List V} (hf : formOf w = some k) (hl : us.length = k) (hu : ∀ u ∈ us, nameS u = true) (hw : WayOk w way) : deedL (.str w :: (us.map V.str ++ way)) = true := by
  have e1 : (us.map V.str ++ way).take k = us.map V.str := by
    rw [← hl, ← List.length_map (f := V.str), List.take_left]
  have e2 : (us.map V.str).all nameV = true := by
    rw [List.all_map, List.all_eq_true]
    exact fun u h => hu u h
  rw [deed_is hf, e1, e2]
  unfold WayOk at hw
  by_cases c : wayW w = true
  · rw [if_pos c] at hw
    rw [if_pos c]
    have e3 : (us.map V.str ++ way).length = k + 1 := by
      rw [List.length_append, List.length_map, hl]
      rcases hw with rfl | rfl <;> rfl
    rw [e3]
    rcases hw with rfl | rfl
    · have : (us.map V.str ++ [V.int 1]).getLastD .non = .int 1 := by simp [List.getLastD_eq_getLast?]
      rw [this]
      simp [wayV]
    · have : (us.map V.str ++ [V.int 2]).getLastD .non = .int 2 := by simp [List.getLastD_eq_getLast?]
      rw [this]
      simp [wayV]
  · rw [if_neg c] at hw
    rw [if_neg c, hw, List.append_nil, List.length_map, hl]
    simp
theorem drawn_names {w : Str} {k : Nat} {us : List Str} {way : List V} (hf : formOf w = some k) (hl : us.length = k) : namesL (.str w :: (us.map V.str ++ way)) = us := by
  rw [names_is hf, ← hl, ← List.length_map (f := V.str), List.take_left, List.filterMap_map]
  have : (txtOf ∘ V.str) = some := rfl
  rw [this, List.filterMap_some]
theorem cut_strs (xs : List Str) (lo hi : Option Int) : ∃ ys : List Str, cutV (xs.map V.str) lo hi = ys.map V.str ∧ (∀ y ∈ ys, y ∈ xs) ∧ ys.length ≤ xs.length := by
  refine ⟨(xs.drop (HT.sIx (xs.map V.str).length 0 lo)).take (HT.sIx (xs.map V.str).length (xs.map V.str).length hi - HT.sIx (xs.map V.str).length 0 lo), ?_, fun y h => List.mem_of_mem_drop (List.mem_of_mem_take h), ?_⟩
  · unfold cutV
    rw [List.map_take, List.map_drop]
  · rw [List.length_take, List.length_drop]
    omega
theorem sheet_good : sheetL.all goodN = true := by decide +kernel
theorem pe_weak {X : Cx} {e : Expr} {t t' : TE} (h : PE X e t) (k : ∀ σ H Q, t' σ H Q → t σ H Q) : PE X e t' := ⟨fun pins s σ H Q I q => h.run pins s σ H Q I (k σ H Q q)⟩
section
variable {P : Program} {w : World} {K : PySem.W.Frag} {mg : Str → Option Value} {base : Heap}
end
end ZN13

set_option Elab.async false
set_option linter.all false
set_option maxRecDepth 100000
set_option maxHeartbeats 2000000
/-! An own error with a dict, told of at its address: isinstance, and its field. -/
namespace ErrD
open PySem PySem.Spec PyProof.Rows L2 Cau PySem.W
section
variable {prog : Program} {w : World} {K : Frag} {x D : Addr} {ox : Obj} {od : Option Obj}
theorem cls_found {C : Addr} {name : Str} {a g : Value} (hc : (clsIn K C).isSome = true) (ha : findIn K (.ref C) name = some (some a)) (hg : specialIn K a "__get__" = some (some g)) (ht : takesIn K a = some true) : findObj K C od name = some (.bind g a) := by
  obtain ⟨cd, e⟩ := Option.isSome_iff_exists.mp hc
  unfold findObj
  rw [e, Option.bind_some, ha, Option.bind_some]
  simp [hg, ht]
theorem cls_read (C : ExcC K D) {A : Around} {E : Value → Shared → Prop} {s : Shared} {Q : Option Value → Shared → Prop} (X : K.In s.heap) (I : InstAt s.heap x ox D od) (h : Q (some (.ref D)) { s with toks := s.toks + 1 }) :
    wpAny (model prog w) A (getAttr? (.ref x) "__class__") Q E s := by
  have some' : (clsIn K D).isSome = true := by
    obtain ⟨cd, e, _⟩ := any_some C.hd
    rw [e]
    rfl
  have found : findObj K D od "__class__" = some (.bind (.builtin "getset_descriptor.__get__") (.builtin "object.__class__")) := cls_found some' C.ha C.hn C.ht
  obtain ⟨hp, g, d, t, os⟩ := s
  have t0 := I.type (M := model prog w)
  have t1 := looks_findIn (M := model prog w) X C.hg
  have t2 := looks_findIn (M := model prog w) X C.hk
  have t3 := looks_find (M := model prog w) X I found
  have isB : Looks (model prog w) hp (isInstance (.ref x) (.type "BaseException")) true := t0.andThen (looks_subIn X C.hs)
  have n1 : (onTheHeap (Value.ref D) && Value.builtin "BaseException.__getattribute__" == Value.builtin "object.__getattribute__") = false := by
    rw [show (Value.builtin "BaseException.__getattribute__" == Value.builtin "object.__getattribute__") = false by decide +kernel]
    rfl
  have n2 : (false && onTheHeap (Value.builtin "BaseException.__getattribute__")) = false := rfl
  unfold getAttr? getAttrBy? getAttrBy
  refine wpAny_bind (wpAny_mkText (wpAny_bind (wpAny_attempt (wpAny_holding (wpAny_bind (t0.at (wpAny_bind (t1.at ?_))))))))
  change wpAny _ _ (if (onTheHeap (Value.ref D) && Value.builtin "BaseException.__getattribute__" == Value.builtin "object.__getattribute__") = true then _ else _) _ _ _
  rw [n1, if_neg Bool.false_ne_true]
  unfold getAttrByItsOwn hookBefore
  refine wpAny_bind ?_
  rw [if_pos (show onTheHeap (Value.ref D) = true from rfl)]
  refine t2.at (wpAny_bind (wpAny_attempt (wpAny_holding ?_)))
  unfold callGetattribute
  rw [n2, if_neg Bool.false_ne_true]
  unfold boundAndCalled
  rw [PySem.F.excAttr_ValueError.ga.bind (.ref x)]
  refine wpAny_bind (wpAny_pure ?_)
  change wpAny _ _ (call (.builtin "BaseException.__getattribute__") [.ref x, .str "__class__" t]) _ _ _
  refine wpAny_call (codeAny_call_builtin PySem.F.excAttr_ValueError.ga.plain PySem.F.entry_bexc_ga ?_)
  refine PySem.W.check_slot (M := model prog w) (s := ⟨hp, g, d, t + 1, os⟩) (i := "BaseException.__getattribute__") (owner := "BaseException") (n := "__getattribute__") (self := .ref x) (rest := [.str "__class__" t]) (kw := [])
    (by decide +kernel) (by decide +kernel) isB (PySem.F.args_bexc_ga (.ref x) (.str "__class__" t)) ?_
  unfold Builtin.«object.__getattribute__»
  refine wpAny_bind (wpAny_of_eq (a := ((Value.ref x : Value), [Value.str "__class__" t])) (by first | rfl | (simp only [slotArgs]; rfl)) ?_)
  refine wpAny_bind (wpAny_pure (wpAny_bind (t0.at (wpAny_bind (t3.at ?_)))))
  change wpAny _ _ (holding [Value.builtin "object.__class__"] (call (.builtin "getset_descriptor.__get__") [.builtin "object.__class__", .ref x, .ref D]) >>= ret) _ _ _
  refine wpAny_bind (wpAny_holding (wpAny_call (class_get (s := ⟨hp, g, d, t + 1, os⟩) (ox := ox) (od := od) X I C.hm ?_)))
  refine wpAny_pure ?_
  change wpAny _ _ (handedOut (.ref D)) _ _ _
  rw [handedOut_of (v := .ref D) rfl]
  first
    | exact wpAny_pure (wpAny_pure h)
    | exact wpAny_pure h
    | exact wpAny_pure (wpAny_bind (wpAny_pure (wpAny_pure h)))
theorem kit_err (C : ExcC K D) : KitX K (.ref x) (.ref D) (fun h => InstAt h x ox D od) where
  ty := fun _ _ _ I => I.type
  it := fun _ _ X _ => by
    obtain ⟨cd, e, _⟩ := any_some C.hd
    unfold clsIn at e
    split at e
    · rename_i ho
      intro A Q E s k q
      unfold isType loadHead
      exact wpAny_bind (wpAny_loadPart (k _ _ (X _ _ ho)) (wpAny_pure q))
    · cases e
  ne := fun h tp dd its n sl X htp => by
    obtain ⟨cd, e, _⟩ := any_some C.hd
    refine Bool.eq_false_iff.mpr fun q => ?_
    obtain rfl : D = tp := Value.ref.inj (beq_iff_eq.mp q)
    unfold clsIn at e
    split at e
    · rename_i ho
      cases (X _ _ ho).symm.trans htp
    · cases e
  ca := fun X I k => cls_read C X I k
end
def rIsErrD (K : PySem.W.Frag) (D : Addr) : List V → Hp → VK → Prop := fun xs H Q =>
  ∃ (e d : Addr) (fs : List (Str × V)) (c : V) (cv : Value) (b : Bool), xs = [.ref e, c] ∧ H e = some (ErrO (.ref D) (some d) e) ∧ H d = some (.xd fs) ∧ (∀ u, RelV c u → u = cv) ∧ PySem.W.kitOne K (.ref D) cv = some b ∧ Q (.bl b) H
theorem err_inst {X : Cx} {pins : List (Addr × Obj)} {σ : L2.St} {H : Hp} {s : Shared} {e d D : Addr} {fs : List (Str × V)} (I : Inv X pins σ H s) (he : H e = some (ErrO (.ref D) (some d) e)) (hd : H d = some (.xd fs)) :
    ∃ (ob od : Obj) (mA : Str → Option Value), PySem.W.InstAt s.heap e ob D (some od) ∧ s.heap.get? d = some od ∧ (∀ f, RelO (fs.lookup f) (mA f)) ∧ s.heap.Ns1 d mA := by
  obtain ⟨⟨⟨oc, odd, oda, osl⟩, vs, g, z, hf⟩, _⟩ := I.hok e _ he
  obtain ⟨z1, z2⟩ := z
  simp only at z1 z2 hf
  subst z1 z2 hf
  have hx : ObjOk X.prog X.w H s.heap d (.xd fs) := I.hok d _ hd
  obtain ⟨mA, hns, hr⟩ := hx
  obtain ⟨od, ho, hl⟩ := lookIn_ns hns
  exact ⟨_, od, mA, ⟨g, rfl, rfl, ho⟩, ho, hr, hns⟩
theorem call_isErrD {X : Cx} {D : Addr} (C : ExcC X.K D) : CallR X (.builtin "isinstance") (rIsErrD X.K D) := by
  intro pins s σ H xs us Q I r ⟨e, d, fs, c, cv, b, hx, he, hd, hcv, hb, q⟩
  subst hx
  obtain ⟨u1, u2, hu, r1, r2⟩ := vals2 r
  subst hu
  cases (show u1 = Value.ref e from r1)
  cases hcv _ r2
  obtain ⟨ob, od, mA, at_, _⟩ := err_inst I he hd
  exact PySem.W.kia_one (kit_err C) I.kIn at_ hb (fun z => nomatch z) fun tk => ⟨.bl b, H, I.tok tk, rfl, q⟩
/-- e.f -/
def tErrF (D : Addr) (f : Str) (te : TE) : TE := fun σ H Q => te σ H fun x H1 => ∃ (e d : Addr) (fs : List (Str × V)) (v : V), x = .ref e ∧ H1 e = some (ErrO (.ref D) (some d) e) ∧ H1 d = some (.xd fs) ∧ fs.lookup f = some v ∧ Q v H1
theorem pe_errF {X : Cx} {D : Addr} {e : Expr} {te : TE} {pos : Pos} {f : Str} (C : ExcC X.K D) (hno : PySem.W.findIn X.K (.ref D) f = some none) (he : PE X e te) (hb : attributeBase e f X.env (eval e X.env) = eval e X.env := by rfl) : PE X (.Attribute e f pos) (tErrF D f te) := by
  constructor
  intro pins s σ H Q I h
  refine attr_of hb (thn (he.run pins s σ H _ I h) ?_)
  rintro u s1 ⟨x, H1, I1, rx, a, d, fs, v, ex, hE, hd, l, q⟩
  subst ex
  obtain rfl : u = Value.ref a := rx
  obtain ⟨⟨⟨oc, odd, oda, osl⟩, vs, g, z, hf⟩, _⟩ := I1.hok a _ hE
  obtain ⟨z1, z2⟩ := z
  simp only at z1 z2 hf
  subst z1 z2 hf
  have hx : ObjOk X.prog X.w H1 s1.heap d (.xd fs) := I1.hok d _ hd
  obtain ⟨mA, hns, hr⟩ := hx
  obtain ⟨od, ho, hl⟩ := lookIn_ns hns
  obtain ⟨u, hu, ru⟩ := RelO.some_of (v := v) (o := mA f) (by rw [← l]; exact hr f)
  have at_ : PySem.W.InstAt s1.heap a _ D (some od) := ⟨g, rfl, rfl, ho⟩
  refine HandSPX.exc_get I1.kIn at_ C.hg C.hk C.hs (PySem.W.findObj_own C.hd hno rfl ?_) (handed_of ru) ⟨v, H1, I1.tok _, ru, q⟩
  rw [hl, hu]
end ErrD

set_option Elab.async false
set_option linter.all false
set_option maxRecDepth 100000
set_option maxHeartbeats 2000000
/-! The law's catcher, and what the seven odd values are. -/
namespace ZN21
open PySem PySem.Spec PyProof.Rows L2 Cau Dr14 Z1 Z2 Z3 Z4 ZN5 ZN6 ZN7 ZN8
abbrev sCaught : Stmt := topS 154
theorem cau_here {X : Cx} {q : Str} {g CS : Addr} {cdg : Value} (hme : X.mg "RulerError" = some (.ref CS)) : LamX.GivesTo X cauN "_law_caught" (defScope sCaught) g cdg (defBody sCaught) "action" q (TCau X.K CS) :=
  cau_gives hme (by decide +kernel) rfl
theorem scCau : FnScope cauN ["action"] (defScope sCaught) := ⟨rfl, rfl, rfl, by decide +kernel, rfl, by decide +kernel, by decide +kernel⟩
section
variable {K : PySem.W.Frag} {H H' : Hp} {v : V}
theorem tx_lst {p : Addr} {xs : List V} (h : H p = some (.lst xs)) : Tx K H (.ref p) none := .inr ⟨rfl, "list", .base (.lst h), by decide +kernel⟩
end
end ZN21

set_option Elab.async false
set_option linter.all false
set_option maxRecDepth 100000
set_option maxHeartbeats 2000000
/-! What stays where lambdas are made; texts and steps as data. -/
namespace ZN22
open PySem PySem.Spec PyProof.Rows L2 Cau Dr14 Z1 Z2 Z3 Z4 ZN5 ZN6 ZN7 ZN8 ZN10 ZN11 ZN12 ZN13 ZN21 TxtSet
/-- but the state, its list and the tables of code objects nothing is changed -/
def KeptN (a w : Addr) (H H' : Hp) : Prop := ∀ b o, H b = some o → (∀ ps, o ≠ .tbl ps) → b ≠ a → b ≠ w → H' b = some o
section
variable {K : PySem.W.Frag} {a w c l p : Addr} {T : Nat} {H H1 H2 H' : Hp} {o : HO} {xs zs : List V} {TT : List (Addr × Str)}
theorem KeptN.refl : KeptN a w H H := fun _ _ e _ _ _ => e
theorem KeptN.trans (x : KeptN a w H H1) (y : KeptN a w H1 H2) : KeptN a w H H2 := fun b o e n h1 h2 => y b o (x b o e n h1 h2) n h1 h2
theorem KeptN.of (k : Kept a w H H') : KeptN a w H H' := fun b o e _ h1 h2 => k b o e h1 h2
theorem KeptN.same (s : Same H H') : KeptN a w H H' := fun b o e _ _ _ => s b o e
theorem KeptN.ext (s : LamX.ExtN H H') : KeptN a w H H' := fun b o e n _ _ => s b o e n
theorem KeptN.put (k : KeptN a w H H') (n : H l = none) : KeptN a w H (upd H' l o) := fun b x e hn h1 h2 => by
  have z : b ≠ l := fun z => by rw [z, n] at e; cases e
  rw [upd_ne z]
  exact k b x e hn h1 h2
theorem KeptN.lst (k : KeptN a w H H') (h : H p = some (.lst xs)) (n : p ≠ a ∧ p ≠ w) : H' p = some (.lst xs) := k _ _ h (fun _ z => by cases z) n.1 n.2
theorem KeptN.seqL (k : KeptN a w H H') (h : SqL K H p xs) (n : p ≠ a ∧ p ≠ w) : SqL K H' p xs := by
  rcases h with (h | ⟨o, h⟩) | h
  · exact .inl (.inl (k _ _ h (fun _ z => by cases z) n.1 n.2))
  · exact .inl (.inr ⟨o, k _ _ h (fun _ z => by cases z) n.1 n.2⟩)
  · exact .inr h
theorem KeptN.none (k : KeptN a w H H') (s : St H a w c T) (h : H' l = none) (n : l ≠ a ∧ l ≠ w) (nt : ∀ ps, H l ≠ some (.tbl ps)) : H l = none := by
  cases e : H l with
  | none => rfl
  | some o =>
    have := k l o e (fun ps z => nt ps (by rw [e, z])) n.1 n.2
    rw [h] at this
    cases this
theorem KeptN.tk (k : KeptN a w H H') (s : St H a w c T) : TK K H H' := fun q xs h => by
  obtain ⟨_, ws, cs, r, t, h1, h2, _⟩ := s
  rcases h with (h | ⟨u, h⟩) | h
  · exact .inl (.inl (k _ _ h (fun _ z => by cases z) (fun z => by rw [z, h1] at h; cases h) (fun z => by rw [z, h2] at h; cases h)))
  · exact .inl (.inr ⟨u, k _ _ h (fun _ z => by cases z) (fun z => by rw [z, h1] at h; cases h) (fun z => by rw [z, h2] at h; cases h)⟩)
  · exact .inr h
theorem St.ext (h : St H a w c T) (e : LamX.ExtN H H') : St H' a w c T := by
  obtain ⟨h0, ws, cs, r, t, h1, h2, h3, h4⟩ := h
  exact ⟨h0, ws, cs, r, t, e _ _ h1 (fun _ z => by cases z), e _ _ h2 (fun _ z => by cases z), e _ _ h3 (fun _ z => by cases z), h4⟩
theorem tk_ext (e : LamX.ExtN H H') : TK K H H' := fun q xs h => by
  rcases h with (h | ⟨u, h⟩) | h
  · exact .inl (.inl (e _ _ h (fun _ z => by cases z)))
  · exact .inl (.inr ⟨u, e _ _ h (fun _ z => by cases z)⟩)
  · exact .inr h
theorem tabs_kept (t : LamX.Tabs TT H) (s : St H a w c T) (k : Kept a w H H') : LamX.Tabs TT H' := fun p hp => by
  obtain ⟨_, ws, cs, r, t0, h1, h2, _⟩ := s
  obtain ⟨ps, e1, e2, e3⟩ := t p hp
  refine ⟨ps, k _ _ e1 (fun z => by rw [z, h1] at e1; cases e1) (fun z => by rw [z, h2] at e1; cases e1), e2, fun pos cv hc => ?_⟩
  obtain ⟨d, f1, f2⟩ := e3 pos cv hc
  refine ⟨d, f1, k _ _ f2 (fun z => ?_) (fun z => ?_)⟩
  · rw [z, h1] at f2
    cases f2
  · rw [z, h2] at f2
    cases f2
theorem tabs_put (t : LamX.Tabs TT H) (e : H l = some (.lst zs)) : LamX.Tabs TT (upd H l o) := fun p hp => by
  obtain ⟨ps, e1, e2, e3⟩ := t p hp
  refine ⟨ps, (upd_ne fun z => by rw [z, e] at e1; cases e1).trans e1, e2, fun pos cv hc => ?_⟩
  obtain ⟨d, f1, f2⟩ := e3 pos cv hc
  refine ⟨d, f1, (upd_ne fun z => ?_).trans f2⟩
  rw [z, e] at f2
  cases f2
theorem tabs_same (t : LamX.Tabs TT H) (s : Same H H') : LamX.Tabs TT H' := t.ext s
end
/-! ### texts of a list from a place on and up to it -/
theorem cut_take (xs : List V) (n : Nat) (h : n ≤ xs.length) : cutV xs none (some (n : Int)) = xs.take n := by
  unfold cutV
  rw [HT.sIx_none, HT.sIx_nat, List.drop_zero, Nat.min_eq_left h, Nat.sub_zero]
theorem cut_drop (xs : List V) (n : Nat) (h : n ≤ xs.length) : cutV xs (some (n : Int)) none = xs.drop n := by
  unfold cutV
  rw [HT.sIx_none, HT.sIx_nat, Nat.min_eq_left h, List.take_of_length_le]
  rw [List.length_drop]
  omega
/-! ### steps as data -/
theorem deed_len {xs : List V} (h : deedL xs = true) : 3 ≤ xs.length ∧ xs.length ≤ 7 := by
  obtain ⟨w0, r, k, rfl, hf, _, _⟩ := word_of h
  obtain ⟨k2, k5⟩ := formOf_small hf
  rw [deed_is hf, Bool.and_eq_true] at h
  have h2 := h.2
  show 3 ≤ r.length + 1 ∧ r.length + 1 ≤ 7
  split at h2
  · rw [Bool.and_eq_true, decide_eq_true_eq] at h2
    omega
  · rw [decide_eq_true_eq] at h2
    omega
/-- _law_caught(lambda: body), its table among others -/
theorem pe_cau {X : Cx} {T : List (Addr × Str)} {fC CR c Pt : Addr} {k : Nat} {odC anC : Option Addr} {oslC : Array (Option Value)} {kVC docC pmC ctC ocC cdvC dVC : Value} {params : Arguments} {body : Expr} {scope : Scope} {p lpos pos : Pos} {t : XK → TE}
    (lkC : X.K.lookup fC = some ⟨ocC, odC, .func (PySem.W.fnOf "_law_caught" "_law_caught" (defArgs sCaught) (defBody sCaught) (defScope sCaught) dVC kVC docC pmC anC cdvC ctC), oslC⟩) (hcdC : PySem.W.codeIn X.K cdvC "_law_caught" = true) (kC : PySem.W.keepIn X.K (.ref fC) = true)
    (bC : Binds X.K (PySem.W.fnOf "_law_caught" "_law_caught" (defArgs sCaught) (defBody sCaught) (defScope sCaught) dVC kVC docC pmC anC cdvC ctC) ["action"] []) (gC : X.mg "_law_caught" = some (.ref fC)) (gRE : X.mg "RulerError" = some (.ref CR))
    (TB : LamX.TabB X.base X.mg c Pt) (hcode : X.env.code = .ref c) (hmT : (Pt, X.env.qual ++ "<lambda>") ∈ T) (huT : ∀ p ∈ T, p.1 = Pt → p.2 = X.env.qual ++ "<lambda>") (hr : Room (k + 2) X.A) (hg : Gl X "_law_caught") (L : LamX.LamS X.env.scope scope) (hdef : defaultsOf params X.env = ([], []))
    (hbind : ∀ (q : Str) (cl : List (Str × Addr)) (pm cv ctv : Value), bindArgs (PySem.W.kla_fn "<lambda>" q params body scope cl pm cv ctv) ⟨[], []⟩ = pure [])
    (hbody : ∀ (A : Around) (outer : List Env) (s : Shared) (H : Hp) (E : XK) (f c' : Addr), Room k (A.deeper (LamX.lamEnv X scope s.heap.objs.size f c')) → PE (LamX.lamCx X A outer s H E scope f c') body (t E)) :
    PE X (.Call (.Name "_law_caught" p) [.Lambda params body scope lpos] [] pos) (LamX.tLam T (TCau X.K CR) t) :=
  LamX.pe_lamcall hg gC kC lkC hcdC bC scCau rfl (.inl rfl) (cau_here gRE) TB hcode hmT huT hr L hdef hbind hbody
theorem ps_weak {X : Cx} {s : Stmt} {t t' : TS} (h : PS X s t) (k : ∀ D σ H, t' D σ H → t D σ H) : PS X s t' := ⟨fun pins st σ H D I q => h.run pins st σ H D I (k D σ H q)⟩
theorem passN {X : Cx} : Passes (L2.CX X.prog X.w) X E0 := passes_call (W := fun _ _ _ _ => False) takes0 (fun _ _ _ _ h => h)
end ZN22

set_option Elab.async false
set_option linter.all false
set_option maxRecDepth 100000
set_option maxHeartbeats 2000000
/-! Tables that the top has written. -/
namespace ZN26
open PySem PySem.Spec PyProof.Rows L2 Cau Dr14 Z1 Z2 Z3 Z4 ZN5 ZN6 ZN7 ZN8 ZN10 ZN11 ZN12 ZN13 ZN21 ZN22 TxtSet
def txV : Value → Option Str
  | .str x _ => some x
  | _ => none
def nuV : Value → Option Int
  | .int i _ => some i
  | _ => none
theorem txV_some {v : Value} {x : Str} (h : txV v = some x) : ∃ t, v = .str x t := by
  cases v <;> try (cases h)
  exact ⟨_, rfl⟩
theorem nuV_some {v : Value} {x : Int} (h : nuV v = some x) : ∃ t, v = .int x t := by
  cases v <;> try (cases h)
  exact ⟨_, rfl⟩
theorem str_is {x z : Str} {t : Tok} : (Value.str x t).isStr z = (x == z) := by
  rw [PySem.W.isStr_of]
  rfl
/-- a look-up in entries whose keys are texts -/
theorem look_tab {β : Type} (g : Value → Option β) (z : Str) : ∀ (l : List DictEntry) (ps : List (Str × β)), (l.map fun e => (txV e.key, g e.val)) = (ps.map fun p => (some p.1, some p.2)) →
    (ps.lookup z = none → l.find? (·.key.isStr z) = none ∧ l.any (·.refKey) = false) ∧ ∀ b, ps.lookup z = some b → ∃ e, l.find? (·.key.isStr z) = some e ∧ g e.val = some b
  | [], [], _ => ⟨fun _ => ⟨rfl, rfl⟩, fun b h => by cases h⟩
  | [], p :: ps, h => by cases h
  | e :: l, [], h => by cases h
  | e :: l, p :: ps, h => by
    rw [List.map_cons, List.map_cons, List.cons.injEq, Prod.mk.injEq] at h
    obtain ⟨⟨hk, hv⟩, hr⟩ := h
    obtain ⟨t, et⟩ := txV_some hk
    have ih := look_tab g z l ps hr
    obtain ⟨y, b⟩ := p
    have ei : e.key.isStr z = (y == z) := by rw [et]; exact str_is
    rw [List.find?_cons, ei, List.lookup_cons]
    by_cases hz : y = z
    · subst hz
      have e1 : (y == y) = true := beq_self_eq_true _
      rw [e1]
      exact ⟨(fun h => by cases h), fun b' h => ⟨e, rfl, (by cases h; exact hv)⟩⟩
    · have e1 : (y == z) = false := beq_eq_false_iff_ne.mpr hz
      have e2 : (z == y) = false := beq_eq_false_iff_ne.mpr (Ne.symm hz)
      rw [e1, e2]
      refine ⟨fun h => ⟨(ih.1 h).1, ?_⟩, ih.2⟩
      rw [List.any_cons, (ih.1 h).2, Bool.or_false]
      unfold DictEntry.refKey
      rw [et]
section
variable {K : PySem.W.Frag} {w : World} {d : Addr} {es : Array DictEntry} {n : Nat}
theorem forms_of (hl : K.lookup d = some ⟨.type "dict", none, .dict es n, #[]⟩) (lit : PySem.W.KeysLit w.params es.toList) (low : (d == sysModules) = false) (tab : (es.toList.map fun e => (txV e.key, nuV e.val)) = (formsL.map fun p => (some p.1, some (p.2 : Int)))) : FormsK K w d := by
  have tab' : (es.toList.map fun e => (txV e.key, nuV e.val)) = ((formsL.map fun p => (p.1, (p.2 : Int))).map fun p => (some p.1, some p.2)) := by
    rw [tab, List.map_map]
    rfl
  have lk : ∀ z, (formsL.map fun p => (p.1, (p.2 : Int))).lookup z = (formOf z).map fun k => (k : Int) := by
    intro z
    unfold formOf
    generalize formsL = l
    induction l with
    | nil => rfl
    | cons p r ih =>
      rw [List.map_cons, List.lookup_cons, List.lookup_cons]
      cases z == p.1 <;> simp [ih]
  refine ⟨⟨es, n, hl, lit, low⟩, fun z h => ?_, fun z k h => ?_⟩
  · have q := (look_tab nuV z _ _ tab').1 (by rw [lk, h]; rfl)
    unfold PySem.W.nsIn
    simp only [hl, q.1, q.2]
    rfl
  · obtain ⟨e, q1, q2⟩ := (look_tab nuV z _ _ tab').2 (k : Int) (by rw [lk, h]; rfl)
    obtain ⟨t, et⟩ := nuV_some q2
    refine ⟨t, ?_⟩
    unfold PySem.W.nsIn
    simp only [hl, q1, et]
theorem tools_of (hl : K.lookup d = some ⟨.type "dict", none, .dict es n, #[]⟩) (lit : PySem.W.KeysLit w.params es.toList) (low : (d == sysModules) = false) (tab : (es.toList.map fun e => (txV e.key, txV e.val)) = (toolsL.map fun p => (some p.1, some p.2))) : ToolsK K w d := by
  refine ⟨⟨es, n, hl, lit, low⟩, fun z h => ?_, fun z k h => ?_⟩
  · have q := (look_tab txV z _ _ tab).1 h
    unfold PySem.W.nsIn
    simp only [hl, q.1, q.2]
    rfl
  · obtain ⟨e, q1, q2⟩ := (look_tab txV z _ _ tab).2 k h
    obtain ⟨t, et⟩ := txV_some q2
    refine ⟨t, ?_⟩
    unfold PySem.W.nsIn
    simp only [hl, q1, et]
theorem words_of {od : Option Addr} {us : Array Value} {m : Nat} {sl : Array (Option Value)} {ws : List Str} (hl : K.lookup d = some ⟨.type "tuple", od, .seq us m, sl⟩) (hv : Vals (ws.map V.str) us.toList) (hs : ws.length ≤ 1000) : WordsK K d ws := fun H => by
  refine .inr ⟨_, us, m, hl, rfl, rfl, ?_, hv⟩
  have e := hv.length
  rw [List.length_map] at e
  have e2 : us.toList.length = us.size := by simp
  have := small1000 hs
  omega
theorem vals_rev : ∀ {xs : List V} {us : List Value}, Vals xs us → Vals xs.reverse us.reverse
  | _, _, .nil => .nil
  | _, _, .cons r t => by
    rw [List.reverse_cons, List.reverse_cons]
    exact Vals.append (vals_rev t) (.cons r .nil)
end
/-- the statements within a class -/
def clsBody : Stmt → List Stmt
  | .ClassDef _ _ _ b _ _ _ _ _ _ _ => b
  | _ => []
end ZN26

set_option Elab.async false
set_option linter.all false
set_option maxRecDepth 100000
set_option maxHeartbeats 2000000
namespace Z50
open PySem PySem.Spec PyProof.Rows L2 Cau Dr14 Z1 Z2 Z3 Z4 ZE Z5 Z6 Z7 Z8 Z9 ZN5 ZN6 ZN7 ZN8 ZN10 ZN11 ZN12 ZN13 ZN21 ZN22 TxtSet
def spCkPts (CN C : Addr) : Sp := fun vs H Q E => ∃ (v : V) (b : Bool), vs = [v] ∧ PtsV CN H v b ∧ ∀ H', Same H H' → if b = true then Q .non H' else E (.ref C) none H'
/-- what sheet() gives -/
def SheetAt (CN : Addr) (H : Hp) (p : Addr) : Prop := ∃ rs : List PtR, H p = some (.dK (rs.map ptE)) ∧ rs.map (·.1) = sheetL ∧ ∀ r ∈ rs, PtV CN H r.2.1 true ∧ r.2.2 = true
theorem SheetAt.same {CN p : Addr} {H H' : Hp} (h : SheetAt CN H p) (s : Same H H') : SheetAt CN H' p := by
  obtain ⟨rs, h1, h2, h3⟩ := h
  exact ⟨rs, s _ _ h1, h2, fun r hr => ⟨(h3 r hr).1.same s, (h3 r hr).2⟩⟩
theorem sheet_nd : sheetL.Nodup := by decide +kernel
theorem sheet_at : ∀ z ∈ sheetL, AtomV (.str z) = true ∧ nameS z = true := by decide +kernel
theorem SheetAt.pts {CN p : Addr} {H : Hp} (h : SheetAt CN H p) : PtsV CN H (.ref p) true := by
  obtain ⟨rs, h1, h2, h3⟩ := h
  have e : (rs.all fun r => nameS r.1 && r.2.2) = true := List.all_eq_true.mpr fun r hr => by
    have hz : r.1 ∈ sheetL := h2 ▸ List.mem_map.mpr ⟨r, hr, rfl⟩
    rw [(sheet_at _ hz).2, (h3 r hr).2]
    rfl
  have l : rs.length = 5 := by rw [← List.length_map (f := (·.1)), h2]; rfl
  exact e ▸ .dict h1 (by omega) (h2 ▸ sheet_nd) fun r hr => ⟨(sheet_at _ (h2 ▸ List.mem_map.mpr ⟨r, hr, rfl⟩)).1, (h3 r hr).2.symm ▸ (h3 r hr).1⟩
def spSheet (CN : Addr) : Sp := fun vs H Q _ => vs = [] ∧ ∀ H' p, Same H H' → H p = none → SheetAt CN H' p → Q (.ref p) H'
section
variable {P : Program} {w : World} {K : PySem.W.Frag} {mg : Str → Option Value} {base : Heap} {CB CT CN : Addr}
theorem scCk : FnScope ["value"] ["value"] (defScope sCkPts) := ⟨rfl, rfl, rfl, by decide +kernel, rfl, by decide +kernel, by decide +kernel⟩
theorem ok_ckPts {f fS C : Addr} {fd fdS : FuncData} (F : Fun K "check_dict_of_points" "check_dict_of_points" sCkPts f fd) (FS : Fun K "are_points" "are_points" sArePts fS fdS) (GS : FnOk P w K mg base CX0 3 fS fdS ["value"] (spPts CN)) (bS : Binds K fdS ["value"] []) (gS : mg "are_points" = some (.ref fS))
    (T : TxtE K mg "BadPoints" C) : FnOk P w K mg base (L2.CX P w) 4 f fd ["value"] (spCkPts CN C) := by
  refine F.okX scCk (fun vs H Q E h => ?_) (fun cdv A outer s H vs Q E hr h => ?_)
  · obtain ⟨v, b, rfl, _⟩ := h
    rfl
  · obtain ⟨v, b, rfl, hv, q⟩ := h
    refine ⟨_, pss_one (ps_if (pt_not (pt_val (pe_call GS hr (by rfl) gS FS.kp bS .nil pass0 (pa_cons (pv 0) pa_nil)))) (pss_one (ps_raise rfl (takes_of rfl rfl rfl rfl) (pmk_own PySem.F.excBase_ValueError T.x T.g T.k (raises_own T.b T.t) rfl))) pss_nil), ?_⟩
    refine ⟨_, rfl, v, b, rfl, hv, fun H1 sm => ⟨_, rfl, ?_⟩⟩
    have q1 := q H1 sm
    cases b with
    | true => exact iteF q1
    | false => exact iteT q1
theorem scSh : FnScope ["zero", "one", "two"] [] (defScope sSheet) := ⟨rfl, rfl, rfl, by decide +kernel, rfl, by decide +kernel, by decide +kernel⟩
theorem ok_sheet {f fF : Addr} {fd fdF : FuncData} {ds : List Value} (F : Fun K "sheet" "sheet" sSheet f fd) (GF : FnOk P w K mg base CX0 7 fF fdF ["n", "d"] (spFrac CN)) (kF : PySem.W.keepIn K (.ref fF) = true) (bF : Binds K fdF ["n", "d"] ds) (dF : Vals [.int 1] ds) (gF : mg "fraction" = some (.ref fF)) :
    FnOk P w K mg base CX0 8 f fd [] (spSheet CN) := by
  refine F.ok scSh (fun vs H Q E h => ?_) (fun cdv A outer s H vs Q E hr h => ?_)
  · obtain ⟨rfl, _⟩ := h
    rfl
  · obtain ⟨rfl, q⟩ := h
    refine ⟨_, pss_cons (ps_par3 (i := 0) (j := 1) (l := 2) rfl scSh.nd rfl rfl rfl (by decide) (by decide) (by decide) rfl rfl rfl (pa_cons (pe_call GF hr (by rfl) gF kF bF dF pass0 (pa_cons pe_int pa_nil)) (pa_cons (pe_call GF hr (by rfl) gF kF bF dF pass0 (pa_cons pe_int pa_nil)) (pa_cons (pe_call GF hr (by rfl) gF kF bF dF pass0 (pa_cons pe_int pa_nil)) pa_nil))) (by rfl))
      (pss_one (ps_ret (pe_disp (pps_cons pe_str (pe_tup (pa_cons (pv 0) (pa_cons (pv 0) pa_nil))) (pps_cons pe_str (pe_tup (pa_cons (pv 1) (pa_cons (pv 0) pa_nil))) (pps_cons pe_str (pe_tup (pa_cons (pv 2) (pa_cons (pv 0) pa_nil)))
        (pps_cons pe_str (pe_tup (pa_cons (pv 0) (pa_cons (pv 1) pa_nil))) (pps_cons pe_str (pe_tup (pa_cons (pv 0) (pa_cons (pv 2) pa_nil))) pps_nil))))) (by rfl) (by rfl) (fun z => by cases z) (by decide)))), ?_⟩
    refine ⟨0, rfl, .inl rfl, fun H1 p0 S1 n0 => ⟨1, rfl, .inr (.inl rfl), fun H2 p1 S2 n1 => ⟨2, rfl, .inr (.inr rfl), fun H3 p2 S3 n2 => ?_⟩⟩⟩
    refine ⟨_, _, _, rfl, fun p np => ?_⟩
    have d2 : (2 : Nat) ≤ sizeLine := by decide
    refine ⟨_, rfl, _, rfl, d2, fun a0 m0 => ⟨_, rfl, _, rfl, d2, fun a1 m1 => ⟨_, rfl, _, rfl, d2, fun a2 m2 => ⟨_, rfl, _, rfl, d2, fun a3 m3 => ⟨_, rfl, _, rfl, d2, fun a4 m4 => ?_⟩⟩⟩⟩⟩
    have N0 : NumAt CN H3 p0 := (n0.same S2).same S3
    have N1 : NumAt CN H3 p1 := n1.same S3
    have P0 : Same H3 (upd H3 p (.dK [])) := same_upd np
    generalize hG0 : upd H3 p (.dK []) = G0 at *
    have q0 : G0 p = some (.dK []) := by rw [← hG0]; exact upd_same
    have P1 := same_upd (o := .tup [.ref p0, .ref p0]) m0
    have r0 : (upd G0 a0 (.tup [.ref p0, .ref p0])) a0 = some (.tup [.ref p0, .ref p0]) := upd_same
    generalize upd G0 a0 (.tup [.ref p0, .ref p0]) = G1 at *
    have P2 := same_upd (o := .tup [.ref p1, .ref p0]) m1
    have r1 : (upd G1 a1 (.tup [.ref p1, .ref p0])) a1 = some (.tup [.ref p1, .ref p0]) := upd_same
    generalize upd G1 a1 (.tup [.ref p1, .ref p0]) = G2 at *
    have P3 := same_upd (o := .tup [.ref p2, .ref p0]) m2
    have r2 : (upd G2 a2 (.tup [.ref p2, .ref p0])) a2 = some (.tup [.ref p2, .ref p0]) := upd_same
    generalize upd G2 a2 (.tup [.ref p2, .ref p0]) = G3 at *
    have P4 := same_upd (o := .tup [.ref p0, .ref p1]) m3
    have r3 : (upd G3 a3 (.tup [.ref p0, .ref p1])) a3 = some (.tup [.ref p0, .ref p1]) := upd_same
    generalize upd G3 a3 (.tup [.ref p0, .ref p1]) = G4 at *
    have P5 := same_upd (o := .tup [.ref p0, .ref p2]) m4
    have r4 : (upd G4 a4 (.tup [.ref p0, .ref p2])) a4 = some (.tup [.ref p0, .ref p2]) := upd_same
    generalize upd G4 a4 (.tup [.ref p0, .ref p2]) = G5 at *
    have P05 : Same G0 G5 := P1.trans (P2.trans (P3.trans (P4.trans P5)))
    have q5 : G5 p = some (.dK []) := P05 _ _ q0
    refine ⟨q5, [(.inr "o", .ref a0), (.inr "u", .ref a1), (.inr "uu", .ref a2), (.inr "v", .ref a3), (.inr "vv", .ref a4)], rfl, by show 5 ≤ 15; decide, ?_⟩
    have e : mergeK [] [((.inr "o" : Key), V.ref a0), (.inr "u", .ref a1), (.inr "uu", .ref a2), (.inr "v", .ref a3), (.inr "vv", .ref a4)] = ([("o", .ref a0, true), ("u", .ref a1, true), ("uu", .ref a2, true), ("v", .ref a3, true), ("vv", .ref a4, true)] : List PtR).map ptE := by with_unfolding_all rfl
    rw [e]
    have T : Same H3 G5 := P0.trans P05
    have nH : H p = none := PySem.Spec.same_none (S1.trans (S2.trans S3)) np
    have kF : ∀ c o, G5 c = some o → c ≠ p → (upd G5 p (.dK (([("o", .ref a0, true), ("u", .ref a1, true), ("uu", .ref a2, true), ("v", .ref a3, true), ("vv", .ref a4, true)] : List PtR).map ptE))) c = some o := fun c o e hc => (upd_ne hc).trans e
    have pt : ∀ a x y, G5 a = some (.tup [.ref x, .ref y]) → NumAt CN H3 x → NumAt CN H3 y → PtV CN (upd G5 p (.dK (([("o", .ref a0, true), ("u", .ref a1, true), ("uu", .ref a2, true), ("v", .ref a3, true), ("vv", .ref a4, true)] : List PtR).map ptE))) (.ref a) true := fun a x y h nx ny =>
      (PtV.pt h (nx.same T) (ny.same T)).but q5 kF
    refine q _ p (fun c o ec => kF c o (T _ _ (S3 _ _ (S2 _ _ (S1 _ _ ec)))) (ne_of_none ec nH)) nH ⟨_, upd_same, rfl, ?_⟩
    have P25 : Same G1 G5 := P2.trans (P3.trans (P4.trans P5))
    intro r hr
    simp only [List.mem_cons, List.not_mem_nil, or_false] at hr
    rcases hr with rfl | rfl | rfl | rfl | rfl
    · exact ⟨pt _ _ _ (P25 _ _ r0) N0 N0, rfl⟩
    · exact ⟨pt _ _ _ ((P3.trans (P4.trans P5)) _ _ r1) N1 N0, rfl⟩
    · exact ⟨pt _ _ _ ((P4.trans P5) _ _ r2) n2 N0, rfl⟩
    · exact ⟨pt _ _ _ (P5 _ _ r3) N0 N1, rfl⟩
    · exact ⟨pt _ _ _ r4 N0 n2, rfl⟩
end
end Z50

set_option Elab.async false
set_option linter.all false
set_option maxRecDepth 100000
set_option maxHeartbeats 2000000
namespace Z51
open PySem PySem.Spec PyProof.Rows L2 Cau Dr14 Z1 Z2 Z3 Z4 ZE Z5 Z6 Z7 Z8 Z9 ZN5 ZN6 ZN7 ZN8 ZN10 ZN11 ZN12 ZN13 ZN21 ZN22 Z50 TxtSet
abbrev sNameT : Stmt := topS 22
abbrev sNamesOf : Stmt := topS 138
abbrev sOnNames : Stmt := topS 140
abbrev sWithN : Stmt := topS 141
abbrev sFirstU : Stmt := topS 142
abbrev sCkKn : Stmt := topS 144
abbrev sLaid : Stmt := topS 146
/-! ### tables of names -/
inductive TabV (H : Hp) : V → Bool → Prop
  | non : TabV H .non false
  | lst {p : Addr} {xs : List V} (h : H p = some (.lst xs)) : TabV H (.ref p) false
  | dict {d : Addr} {es : List (Key × V)} (h : H d = some (.dK es)) (l : es.length ≤ 10) (nd : (es.map (·.1)).Nodup) (ok : ∀ e ∈ es, AtomV (kV e.1) = true ∧ AtomV e.2 = true) : TabV H (.ref d) (es.all fun e => nameV (kV e.1) && nameV e.2)
theorem TabV.same {H H' : Hp} {v : V} {b : Bool} (h : TabV H v b) (s : Same H H') : TabV H' v b := by
  cases h with
  | non => exact .non
  | lst h => exact .lst (s _ _ h)
  | dict h l nd ok => exact .dict (s _ _ h) l nd ok
theorem val_get : ∀ {es : List (Key × V)} {i : Nat} {e : Key × V}, (es.map (·.1)).Nodup → es[i]? = some e → valV es e.1 = some e.2
  | [], i, r, _, h => by simp at h
  | q :: l, 0, r, nd, h => by
    cases h
    unfold valV
    rw [List.find?_cons]
    simp
  | q :: l, i + 1, r, nd, h => by
    rw [List.map_cons, List.nodup_cons] at nd
    have h' : l[i]? = some r := h
    have ih := val_get nd.2 h'
    have ne : q.1 ≠ r.1 := fun z => nd.1 (z ▸ List.mem_map.mpr ⟨r, List.mem_of_getElem? h', rfl⟩)
    unfold valV at ih ⊢
    rw [List.find?_cons]
    have e2 : decide (q.1 = r.1) = false := decide_eq_false ne
    simp only [e2]
    exact ih
def spNameT : Sp := fun vs H Q _ => ∃ (v : V) (b : Bool), vs = [v] ∧ TabV H v b ∧ ∀ H', Same H H' → Q (.bl b) H'
section
variable {P : Program} {w : World} {K : PySem.W.Frag} {mg : Str → Option Value} {base : Heap} {CB CT CN : Addr}
theorem scNT : FnScope ["value", "key"] ["value"] (defScope sNameT) := ⟨rfl, rfl, rfl, by decide +kernel, rfl, by decide +kernel, by decide +kernel⟩
theorem ok_nameT {f fN : Addr} {fd fdN : FuncData} (F : Fun K "is_name_table" "is_name_table" sNameT f fd)
    (FN : Fun K "is_name" "is_name" sIsName fN fdN) (GN : FnOk P w K mg base CX0 1 fN fdN ["value"] (spName K)) (bN : Binds K fdN ["value"] []) (gN : mg "is_name" = some (.ref fN))
    (mi : mg "isinstance" = none) (md : mg "dict" = none) (ma : mg "all" = none) : FnOk P w K mg base CX0 2 f fd ["value"] spNameT := by
  refine F.ok scNT (fun vs H Q E h => ?_) (fun cdv A outer s H vs Q E hr h => ?_)
  · obtain ⟨v, b, rfl, _⟩ := h
    rfl
  · obtain ⟨v, b, rfl, hv, q⟩ := h
    have hu := hu_of (hr.mono (Nat.zero_le _) : Room 0 _)
    refine ⟨_, pss_cons (ps_if (pt_not (pt_val (pe_callB call_isi (by rfl) mi (by decide +kernel) (pa_cons (pv 0) (pa_cons (pe_bltn (v := .ty "dict") (by rfl) md (by decide +kernel) rfl) pa_nil))))) (pss_one (ps_ret pe_bl)) pss_nil)
      (pss_one (ps_ret (pe_callB (cr_all rfl) (by rfl) ma (by decide +kernel) (pa_cons
        (pe_lock (pe_lc (own := [("key", 1)]) (g := gName 1) (tt := tYes) rfl scNT.nd (pi_keys (pv 0))
          (blkOk_by (own := [("key", 1)]) (N := ["value", "key"]) (sc := defScope sNameT) (by decide +kernel))
          (fun _ _ _ _ _ => pg_name (i := 1) scNT.nd rfl (.inl rfl)) (fun _ _ _ _ _ => pts_nil)
          (fun _ _ _ _ _ => pe_and (pe_call GN hr (by rfl) gN FN.kp bN .nil pass0 (pa_cons (pv 1) pa_nil))
            (pe_one (pe_call GN hr (by rfl) gN FN.kp bN .nil pass0 (pa_cons (pe_dget hu (pv 0) (pv 1) (fun _ _ => rfl)) pa_nil)))))) pa_nil)))), ?_⟩
    cases hv with
    | non => exact ⟨_, rfl, .non, .ty "dict", .type "NoneType", .type "dict", false, rfl, .ty _, .base .non, kit_ty (by decide +kernel), false, rfl, iteT (q _ same_rfl)⟩
    | @lst p xs h => exact ⟨_, rfl, .ref p, .ty "dict", .type "list", .type "dict", false, rfl, .ty _, .base (.lst h), kit_ty (by decide +kernel), false, rfl, iteT (q _ same_rfl)⟩
    | @dict d es h l nd ok =>
      refine ⟨_, rfl, .ref d, .ty "dict", .type "dict", .type "dict", true, rfl, .ty _, .base (.dK h), kit_ty (by decide +kernel), true, rfl, iteF ?_⟩
      refine ⟨d, _, h, trivial, fun od => ?_⟩
      generalize hG : upd H d (.frz od (.dK es)) = G
      have hGd : G d = some (.frz od (.dK es)) := by rw [← hG]; exact upd_same
      have back : ∀ H', Same G H' → Same H (upd H' d (.dK es)) := fun H' s c o e => by
        by_cases z : c = d
        · rw [z, upd_same]
          rw [z, h] at e
          exact e
        · rw [upd_ne z]
          refine s _ _ ?_
          rw [← hG, upd_ne z]
          exact e
      refine ⟨_, rfl, d, od, rfl, .inl ⟨_, hGd, fun D nD => ?_⟩⟩
      refine lc_it walk_keys (fun i H1 => ∃ bs : List Bool, H1 D = some (.lst (bs.map V.bl)) ∧ bs = (es.take i).map (fun e => nameV (kV e.1) && nameV e.2) ∧ Same G H1) ⟨[], upd_same, rfl, same_upd nD⟩ ?_ ?_ ?_
      · rintro i H1 _ ⟨bs, _, _, sm⟩
        exact sm _ _ hGd
      · rintro i x H1 H2 hi ⟨bs, hD, hbs, sm⟩ ⟨rfl, k, v, hk, rfl⟩
        obtain ⟨hat, hpt⟩ := ok _ (List.mem_of_getElem? hk)
        have hil : bs.length < 20 := by
          have : i < es.length := (List.getElem?_eq_some_iff.mp hk).1
          rw [hbs, List.length_map, List.length_take]
          omega
        have step : (es.take (i + 1)).map (fun e => nameV (kV e.1) && nameV e.2) = bs ++ [nameV (kV k) && nameV v] := by
          rw [hbs, List.take_succ, List.map_append, hk]
          rfl
        have put : ∀ b H3, (nameV (kV k) && nameV v) = b → Same H2 H3 → ∃ acc, H3 D = some (.lst acc) ∧ acc.length < sizeLine ∧ ∃ bs', (upd H3 D (.lst (acc ++ [V.bl b]))) D = some (.lst (bs'.map V.bl)) ∧ bs' = (es.take (i + 1)).map (fun e => nameV (kV e.1) && nameV e.2) ∧ Same G (upd H3 D (.lst (acc ++ [V.bl b]))) := fun b H3 e s3 => by
          refine ⟨_, s3 _ _ hD, ?_, bs ++ [b], by rw [upd_same, List.map_append]; rfl, by rw [step, e], same_put (sm.trans s3) nD⟩
          rw [List.length_map]
          exact small1000 (by omega)
        refine ⟨rfl, _, rfl, kV k, txtOf (kV k), rfl, tx_atom hat, fun H3 s3 => ⟨_, rfl, ?_⟩⟩
        show if nameV (kV k) = true then _ else _
        cases en : nameV (kV k) with
        | false => exact iteF2 rfl (put _ _ (by rw [en]; rfl) s3)
        | true =>
          refine iteT2 rfl ?_
          have hg : DGet H3 d (kV k) (some v) := .inl ⟨_, k, .inr ⟨od, s3 _ _ (sm _ _ hGd)⟩, rfl, (val_get nd hk).symm⟩
          refine ⟨_, rfl, _, rfl, d, v, rfl, hg, v, txtOf v, rfl, tx_atom hpt, fun H4 s4 => put _ _ (by rw [en]; rfl) (s3.trans s4)⟩
      · rintro H1 ⟨bs, hD, hbs, sm⟩
        rw [List.take_length] at hbs
        refine ⟨sm _ _ hGd, D, bs, rfl, .inl (.inl ?_), ?_⟩
        · rw [upd_ne (fun z => by rw [z, sm _ _ hGd] at hD; cases hD)]
          exact hD
        · have e : bs.all id = es.all fun e => nameV (kV e.1) && nameV e.2 := by
            rw [hbs, List.all_map]
            rfl
          rw [e]
          exact q _ (back _ sm)
end
end Z51

set_option Elab.async false
set_option linter.all false
set_option maxRecDepth 100000
set_option maxHeartbeats 2000000
namespace Z52
open PySem PySem.Spec PyProof.Rows L2 Cau Dr14 Z1 Z2 Z3 Z4 ZE Z5 Z6 Z7 Z8 Z9 ZN5 ZN6 ZN7 ZN8 ZN10 ZN11 ZN12 ZN13 ZN21 ZN22 Z50 Z51 TxtSet
/-- a value as a deed, and what is said of it -/
def spOfDeed (K : PySem.W.Frag) (CD : Addr) (good : List V → Hp → VK → Prop) : Sp := fun vs H Q E => ∃ (x : V) (o : Option (List V)), vs = [x] ∧ Dd K H x o ∧
  ((deedO o = false ∧ ∀ H', Same H H' → E (.ref CD) none H') ∨ ∃ xs, o = some xs ∧ deedL xs = true ∧ good xs H Q)
/-- each text once, in its order -/
def onceL : List Str → List Str → List Str
  | [], acc => acc
  | z :: r, acc => if z ∈ acc then onceL r acc else onceL r (acc ++ [z])
def goodNames (K : PySem.W.Frag) : List V → Hp → VK → Prop := fun xs H Q => ∀ H' q, Same H H' → SqT K H' q ((onceL (namesL xs) []).map V.str) → Q (.ref q) H'
def goodTool : List V → Hp → VK → Prop := fun xs H Q => ∀ H', Same H H' → Q (.str (toolW (wordL xs))) H'
theorem deed_at {K : PySem.W.Frag} {H : Hp} {x : V} {xs : List V} (h : Dd K H x (some xs)) : ∃ p, x = .ref p ∧ SqT K H p xs ∧ (∀ y ∈ xs, ItV H y) ∧ xs.length ≤ 100 := by
  rcases h with ⟨p, ys, e, h1, h2, h3, h4⟩ | ⟨_, h⟩
  · cases h4
    exact ⟨p, e, h1, h2, h3⟩
  · cases h
theorem texts_of {xs : List V} : xs.all nameV = true → xs = (xs.filterMap txtOf).map V.str := by
  induction xs with
  | nil => exact fun _ => rfl
  | cons x r ih =>
    intro h
    rw [List.all_cons, Bool.and_eq_true] at h
    cases x with
    | str z =>
      show _ = V.str z :: _
      rw [← ih h.2]
    | _ => exact absurd h.1 (by simp [nameV, txtOf, nameO])
theorem onceL_cons (z : Str) (r acc : List Str) : onceL (z :: r) acc = if z ∈ acc then onceL r acc else onceL r (acc ++ [z]) := rfl
theorem onceL_le : ∀ zs acc : List Str, (onceL zs acc).length ≤ zs.length + acc.length
  | [], acc => by simp [onceL]
  | z :: r, acc => by
    unfold onceL
    split
    · have := onceL_le r acc
      rw [List.length_cons]
      omega
    · have := onceL_le r (acc ++ [z])
      rw [List.length_append, List.length_singleton] at this
      rw [List.length_cons]
      omega
section
variable {P : Program} {w : World} {K : PySem.W.Frag} {mg : Str → Option Value} {base : Heap} {CB CT CN : Addr}
theorem scNO : FnScope ["deed", "names", "name"] ["deed"] (defScope sNamesOf) := ⟨rfl, rfl, rfl, by decide +kernel, rfl, by decide +kernel, by decide +kernel⟩
theorem ok_namesOf {f fC fN C : Addr} {fd fdC fdN : FuncData} (F : Fun K "names_of" "names_of" sNamesOf f fd) (FC : Fun K "check_deed" "check_deed" sCheckDeed fC fdC) (GC : FnOk P w K mg base (L2.CX P w) 3 fC fdC ["value"] (spCheckDeed K C)) (bC : Binds K fdC ["value"] []) (gC : mg "check_deed" = some (.ref fC))
    (FN : Fun K "deed_names" "deed_names" sDeedNames fN fdN) (GN : FnOk P w K mg base CX0 1 fN fdN ["deed"] (spDN K)) (bN : Binds K fdN ["deed"] []) (gN : mg "deed_names" = some (.ref fN)) (mt : mg "tuple" = none) : FnOk P w K mg base (L2.CX P w) 4 f fd ["deed"] (spOfDeed K C (goodNames K)) := by
  refine F.okX scNO (fun vs H Q E h => ?_) (fun cdv A outer s H vs Q E hr h => ?_)
  · obtain ⟨x, o, rfl, _⟩ := h
    rfl
  · obtain ⟨x, o, rfl, hx, h⟩ := h
    refine ⟨_, pss_cons (ps_expr (pe_call GC hr (by rfl) gC FC.kp bC .nil (passes_call (takes_of rfl rfl rfl rfl) (fun _ _ _ _ h => h)) (pa_cons (pv 0) pa_nil)))
      (pss_cons (ps_set (i := 1) scNO.nd rfl (.inl rfl) (pe_lst pa_nil))
      (pss_cons (ps_for (passes_of rfl) rfl (pi_tup (pe_call GN (hr.mono (by decide)) (by rfl) gN FN.kp bN .nil pass0 (pa_cons (pv 0) pa_nil))) (pg_name (i := 2) scNO.nd rfl (.inl rfl))
        (pss_one (ps_if (pt_cmpR (show OpR _ (compareOp .NotIn) (rIn K true) from op_notIn_seq) (pv 2) (pv 1) (by rfl))
          (pss_one (ps_expr (pe_bm PySem.F.plainAttrs_list PySem.F.slot_list_append PySem.F.type_list_append mt_append (pv 1) (pa_cons (pv 2) pa_nil)))) pss_nil)))
      (pss_one (ps_ret (pe_callTy call_tuple_of (by rfl) mt (by decide +kernel) (pa_cons (pv 1) pa_nil)))))), ?_⟩
    rcases h with ⟨e, q⟩ | ⟨xs, rfl, hd, q⟩
    · exact ⟨_, rfl, x, o, rfl, hx, .inr ⟨e, q⟩⟩
    · refine ⟨_, rfl, x, some xs, rfl, hx, .inl ⟨hd, fun H1 S1 => ?_⟩⟩
      obtain ⟨p, rfl, hp, _, _⟩ := deed_at hx
      obtain ⟨z, r, k, rfl, hf, hall, _⟩ := word_of hd
      obtain ⟨k2, k5⟩ := formOf_small hf
      have en := names_is hf r
      have et := texts_of hall
      have tl : ((r.take k).filterMap txtOf).length ≤ 5 := by
        have := List.length_filterMap_le txtOf (r.take k)
        rw [List.length_take] at this
        omega
      have q' : ∀ H' q', Same H H' → SqT K H' q' ((onceL ((r.take k).filterMap txtOf) []).map V.str) → Q (.ref q') H' := by
        rw [← en]
        exact q
      refine ⟨Nat.zero_le _, fun L nL => ?_⟩
      have S2 : Same H (upd H1 L (.lst [])) := S1.trans (same_upd nL)
      have nL0 : H L = none := PySem.Spec.same_none S1 nL
      refine ⟨_, rfl, p, z, r, k, rfl, sqT_same hp S2, hf, fun sp nsp => ⟨sp, rfl, ⟨_, .inl (.inl upd_same)⟩, ?_⟩⟩
      have LS : L ≠ sp := ne_of_none upd_same nsp
      generalize hG : upd (upd H1 L (.lst [])) sp (.tup (r.take k)) = G
      have hs : SqT K G sp (r.take k) := by rw [← hG]; exact .inl (.inl upd_same)
      have hs' : G sp = some (.tup (r.take k)) := by rw [← hG]; exact upd_same
      have hL : G L = some (.lst (([] : List Str).map V.str)) := by rw [← hG, upd_ne LS]; exact upd_same
      have SG : Same H G := by rw [← hG]; exact S2.trans (same_upd nsp)
      refine for_it (walk_tup (K := K) (a := sp) (xs := r.take k)) (fun i σ H' => ∃ (y : Option V) (acc : List Str), σ = [some (.ref p), some (.ref L), y] ∧ H' L = some (.lst (acc.map V.str)) ∧ H' sp = some (.tup (r.take k)) ∧ Same H H' ∧ acc.length ≤ i ∧ onceL ((r.take k).filterMap txtOf) [] = onceL (((r.take k).drop i).filterMap txtOf) acc)
        ⟨none, [], rfl, hL, hs', SG, Nat.le_refl _, rfl⟩ (fun i σ H' _ ⟨_, _, _, _, h, _⟩ => .inl (.inl h)) ?_ ?_
      · rintro i y σ H2 H3 hi ⟨y0, acc, rfl, hL2, hs2, SM, hal, ho⟩ ⟨rfl, hy⟩
        have hid : i < (r.take k).length := hi
        have hyn : nameV y = true := List.all_eq_true.mp hall y (List.mem_of_getElem? hy)
        obtain ⟨u, rfl⟩ : ∃ u, y = .str u := by
          cases y with
          | str u => exact ⟨u, rfl⟩
          | _ => exact absurd hyn (by simp [nameV, txtOf, nameO])
        have hdr : (r.take k).drop i = V.str u :: (r.take k).drop (i + 1) := by
          rw [List.drop_eq_getElem_cons hid, (List.getElem?_eq_some_iff.mp hy).2]
        rw [hdr, List.filterMap_cons] at ho
        have ho' : onceL ((r.take k).filterMap txtOf) [] = onceL (u :: ((r.take k).drop (i + 1)).filterMap txtOf) acc := ho
        rw [onceL_cons] at ho'
        have hkl : (r.take k).length ≤ 5 := by rw [List.length_take]; omega
        refine ⟨_, rfl, _, rfl, L, _, rfl, .inl (.inl (.inl hL2)), rfl, strs_flat _, _, rfl, ?_⟩
        show if (!inV (.str u) (acc.map V.str)) = true then _ else _
        rw [inV_kn]
        by_cases hin : u ∈ acc
        · rw [if_pos hin] at ho'
          exact iteF2 (by rw [decide_eq_true hin]; rfl) ⟨_, acc, rfl, hL2, hs2, SM, Nat.le_succ_of_le hal, ho'⟩
        · rw [if_neg hin] at ho'
          refine iteT2 (by rw [decide_eq_false hin]; rfl) ?_
          refine ⟨_, rfl, .inl ⟨rfl, _, .inl (.inl hL2)⟩, _, rfl, L, _, _, rfl, rfl, hL2, by rw [List.length_map]; exact small1000 (by omega), ?_⟩
          have LS2 : L ≠ sp := LS
          refine ⟨_, acc ++ [u], rfl, by rw [upd_same, List.map_append]; rfl, (upd_ne LS2.symm).trans hs2, same_put SM nL0, by rw [List.length_append, List.length_singleton]; omega, ho'⟩
      · rintro σ H2 ⟨y0, acc, rfl, hL2, hs2, SM, hal, ho⟩
        rw [List.drop_length] at ho
        have ho' : onceL ((r.take k).filterMap txtOf) [] = acc := ho
        rw [ho'] at q'
        refine ⟨_, rfl, L, _, rfl, .inl ⟨.inl (.inl hL2), fun t nt => q' _ t (SM.trans (same_upd nt)) (.inl (.inl upd_same))⟩⟩
end
end Z52

set_option Elab.async false
set_option linter.all false
set_option maxRecDepth 100000
set_option maxHeartbeats 2000000
namespace Z53
open PySem PySem.Spec PyProof.Rows L2 Cau Dr14 Z1 Z2 Z3 Z4 ZE Z5 Z6 Z7 Z8 Z9 ZN5 ZN6 ZN7 ZN8 ZN10 ZN11 ZN12 ZN13 ZN21 ZN22 Z50 Z51 Z52 TxtSet
/-- the table's answer for a name, or the name -/
def subV (es : List (Key × V)) (v : V) : V := match txtOf v with
  | some s => (valV es (.inr s)).getD v
  | none => v
/-- a deed's items with the names exchanged -/
def subL (es : List (Key × V)) (xs : List V) : List V := match xs with
  | .str z :: r => match formOf z with
    | some k => .str z :: ((r.take k).map (subV es) ++ r.drop k)
    | none => xs
  | _ => xs
def spWithN (K : PySem.W.Frag) : Sp := fun vs H Q _ => ∃ (p d : Addr) (xs : List V) (es : List (Key × V)), vs = [.ref p, .ref d] ∧ SqT K H p xs ∧ deedL xs = true ∧ H d = some (.dK es) ∧ ∀ H' q, Same H H' → SqT K H' q (subL es xs) → Q (.ref q) H'
def spOn (K : PySem.W.Frag) (CD CB : Addr) : Sp := fun vs H Q E => ∃ (x y : V) (o : Option (List V)), vs = [x, y] ∧ Dd K H x o ∧
  ((deedO o = false ∧ ∀ H', Same H H' → E (.ref CD) none H') ∨ ∃ xs, o = some xs ∧ deedL xs = true ∧
    ((TabV H y false ∧ ∀ H', Same H H' → E (.ref CB) none H') ∨ ∃ (d : Addr) (es : List (Key × V)), y = .ref d ∧ H d = some (.dK es) ∧ TabV H y true ∧ ∀ H' q, Same H H' → SqT K H' q (subL es xs) → Q (.ref q) H'))
section
variable {P : Program} {w : World} {K : PySem.W.Frag} {mg : Str → Option Value} {base : Heap} {CB CT CN : Addr}
theorem scTl2 : FnScope ["deed", "word"] ["deed"] (defScope sToolOf) := ⟨rfl, rfl, rfl, by decide +kernel, rfl, by decide +kernel, by decide +kernel⟩
theorem ok_tool2 {f fC C d : Addr} {fd fdC : FuncData} (F : Fun K "tool_of" "tool_of" sToolOf f fd) (FC : Fun K "check_deed" "check_deed" sCheckDeed fC fdC) (GC : FnOk P w K mg base (L2.CX P w) 3 fC fdC ["value"] (spCheckDeed K C)) (bC : Binds K fdC ["value"] []) (gC : mg "check_deed" = some (.ref fC))
    (T : ToolsK K w d) (gT : mg "TOOLS_OF_OTHER_WORDS" = some (.ref d)) : FnOk P w K mg base (L2.CX P w) 4 f fd ["deed"] (spOfDeed K C goodTool) := by
  refine F.okX scTl2 (fun vs H Q E h => ?_) (fun cdv A outer s H vs Q E hr h => ?_)
  · obtain ⟨x, o, rfl, _⟩ := h
    rfl
  · obtain ⟨x, o, rfl, hx, h⟩ := h
    obtain ⟨es, nn, KD⟩ := T.ex
    refine ⟨_, pss_cons (ps_expr (pe_call GC hr (by rfl) gC FC.kp bC .nil (passes_call (takes_of rfl rfl rfl rfl) (fun _ _ _ _ h => h)) (pa_cons (pv 0) pa_nil)))
      (pss_cons (ps_set (i := 1) scTl2.nd rfl (.inl rfl) (pe_ix ix_tup (pv 0) pe_int (fun _ _ => rfl)))
      (pss_one (ps_ret (pe_ifExp (pt_cmpR (op_in_kd KD) (pv 1) (pe_glob (v := .ref d) (by rfl) gT rfl) (by rfl)) (pe_ix ix_kdict (pe_glob (v := .ref d) (by rfl) gT rfl) (pv 1) (fun _ _ => rfl)) (pv 1))))), ?_⟩
    rcases h with ⟨e, q⟩ | ⟨xs, rfl, hd, q⟩
    · exact ⟨_, rfl, x, o, rfl, hx, .inr ⟨e, q⟩⟩
    · refine ⟨_, rfl, x, some xs, rfl, hx, .inl ⟨hd, fun H1 sm => ?_⟩⟩
      obtain ⟨p, rfl, hp, _, _⟩ := deed_at hx
      obtain ⟨z, r, k, rfl, hf, hall, _⟩ := word_of hd
      have q : ∀ H', Same H H' → Q (.str (toolW z)) H' := q
      refine ⟨_, rfl, p, _, 0, _, rfl, rfl, sqT_same hp sm, atI_nat (j := 0) rfl, ?_⟩
      cases e : toolsL.lookup z with
      | none =>
        refine ⟨_, rfl, z, _, rfl, rfl, T.no z e, _, rfl, iteF2 rfl ⟨_, rfl, ?_⟩⟩
        have q1 := q H1 sm
        unfold toolW at q1
        rw [e] at q1
        exact q1
      | some y =>
        obtain ⟨t, ht⟩ := T.yes z y e
        refine ⟨_, rfl, z, _, rfl, rfl, ht, _, rfl, iteT2 rfl ⟨_, rfl, d, z, .str y, rfl, rfl, ⟨es, nn, _, KD.at_, KD.lit, ht, _, rfl⟩, ?_⟩⟩
        have q1 := q H1 sm
        unfold toolW at q1
        rw [e] at q1
        exact q1
theorem scWN : FnScope ["deed", "table", "names", "name"] ["deed", "table"] (defScope sWithN) := ⟨rfl, rfl, rfl, by decide +kernel, rfl, by decide +kernel, by decide +kernel⟩
theorem ok_withN {f fN : Addr} {fd fdN : FuncData} (F : Fun K "with_names" "with_names" sWithN f fd)
    (FN : Fun K "deed_names" "deed_names" sDeedNames fN fdN) (GN : FnOk P w K mg base CX0 1 fN fdN ["deed"] (spDN K)) (bN : Binds K fdN ["deed"] []) (gN : mg "deed_names" = some (.ref fN)) (mt : mg "tuple" = none) (ml : mg "len" = none) : FnOk P w K mg base CX0 2 f fd ["deed", "table"] (spWithN K) := by
  refine F.ok scWN (fun vs H Q E h => ?_) (fun cdv A outer s H vs Q E hr h => ?_)
  · obtain ⟨p, d, xs, es, rfl, _⟩ := h
    rfl
  · obtain ⟨p, d, xs, es, rfl, hp, hd, hD, q⟩ := h
    have hu := hu_of (hr.mono (Nat.zero_le _) : Room 0 _)
    refine ⟨_, pss_cons (ps_set (i := 2) scWN.nd rfl (.inl rfl) (pe_callTy call_tuple_of (by rfl) mt (by decide +kernel) (pa_cons
        (pe_lc (own := [("name", 3)]) (g := gName 3) (tt := tYes) rfl scWN.nd (pi_tup (pe_call GN hr (by rfl) gN FN.kp bN .nil pass0 (pa_cons (pv 0) pa_nil)))
          (blkOk_by (own := [("name", 3)]) (N := ["deed", "table", "names", "name"]) (sc := defScope sWithN) (by decide +kernel))
          (fun _ _ _ _ _ => pg_name (i := 3) scWN.nd rfl (.inl rfl)) (fun _ _ _ _ _ => pts_nil)
          (fun _ _ _ _ _ => pe_ifExp (pt_cmp (pc_din hu (pv 3) (pv 1))) (pe_dget hu (pv 1) (pv 3) (fun _ _ => rfl)) (pv 3))) pa_nil)))
      (pss_one (ps_ret (pe_op op_catT (pe_op op_catT (pe_slice sl_tup (pv 0) po_none (po_some pe_int)) (pv 2))
        (pe_slice sl_tup (pv 0) (po_some (pe_op op_add (pe_callB call_len_seq (by rfl) ml PySem.boot_len (pa_cons (pv 2) pa_nil)) pe_int)) po_none)))), ?_⟩
    obtain ⟨z, r, k, rfl, hf, hall, _⟩ := word_of hd
    obtain ⟨k2, k5⟩ := formOf_small hf
    have hlen := deed_len hd
    rw [List.length_cons] at hlen
    have hdi := hd
    rw [deed_is hf, Bool.and_eq_true] at hdi
    have hrk : k ≤ r.length ∧ r.length ≤ k + 1 := by
      have h2 := hdi.2
      split at h2
      · rw [Bool.and_eq_true, decide_eq_true_eq] at h2
        omega
      · rw [decide_eq_true_eq] at h2
        omega
    have sub : subL es (.str z :: r) = .str z :: ((r.take k).map (subV es) ++ r.drop k) := by
      unfold subL
      simp only [hf]
    rw [sub] at q
    refine ⟨_, rfl, p, z, r, k, rfl, hp, hf, fun sp nsp => ⟨sp, rfl, ⟨_, .inl (.inl upd_same)⟩, fun D nD => ?_⟩⟩
    have S0 : Same H (upd H sp (.tup (r.take k))) := same_upd nsp
    refine lc_it (walk_tup (K := K) (a := sp) (xs := r.take k)) (fun i H1 => ∃ bs : List V, H1 D = some (.lst bs) ∧ bs = ((r.take k).take i).map (subV es) ∧ Same (upd H sp (.tup (r.take k))) H1) ⟨[], upd_same, rfl, same_upd nD⟩ ?_ ?_ ?_
    · rintro i H1 _ ⟨bs, _, _, sm⟩
      exact .inl (.inl (sm _ _ upd_same))
    · rintro i x H1 H2 hi ⟨bs, hDD, hbs, sm⟩ ⟨rfl, hx⟩
      have hyn : nameV x = true := List.all_eq_true.mp hall x (List.mem_of_getElem? hx)
      obtain ⟨u, rfl⟩ : ∃ u, x = .str u := by
        cases x with
        | str u => exact ⟨u, rfl⟩
        | _ => exact absurd hyn (by simp [nameV, txtOf, nameO])
      have hD2 : H2 d = some (.dK es) := sm _ _ (S0 _ _ hD)
      have g : DGet H2 d (.str u) (valV es (.inr u)) := DGet.k (k := (.inr u : Key)) hD2
      have hbl : bs.length < 20 := by
        rw [hbs, List.length_map, List.length_take, List.length_take]
        omega
      have step : ((r.take k).take (i + 1)).map (subV es) = bs ++ [subV es (.str u)] := by
        rw [hbs, List.take_succ, List.map_append, hx]
        rfl
      have put : ∀ v, subV es (.str u) = v → ∃ acc, H2 D = some (.lst acc) ∧ acc.length < sizeLine ∧ ∃ bs', (upd H2 D (.lst (acc ++ [v]))) D = some (.lst bs') ∧ bs' = ((r.take k).take (i + 1)).map (subV es) ∧ Same (upd H sp (.tup (r.take k))) (upd H2 D (.lst (acc ++ [v]))) := fun v e =>
        ⟨bs, hDD, small1000 (by omega), _, upd_same, by rw [step, e], same_put sm nD⟩
      refine ⟨rfl, _, rfl, _, rfl, d, _, rfl, g, _, rfl, ?_⟩
      cases e : valV es (.inr u) with
      | none =>
        refine iteF2 rfl ⟨_, rfl, put _ ?_⟩
        show (valV es (.inr u)).getD (.str u) = _
        rw [e]
        rfl
      | some v =>
        refine iteT2 rfl ⟨_, rfl, _, rfl, d, v, rfl, e ▸ g, put _ ?_⟩
        show (valV es (.inr u)).getD (.str u) = _
        rw [e]
        rfl
    · rintro H1 ⟨bs, hDD, hbs, sm⟩
      rw [List.take_length] at hbs
      have S1 : Same H H1 := S0.trans sm
      have hbl : bs.length = k := by
        rw [hbs, List.length_map, List.length_take]
        omega
      refine ⟨D, bs, rfl, .inl ⟨.inl (.inl hDD), fun t nt => ?_⟩⟩
      have S2 : Same H (upd H1 t (.tup bs)) := S1.trans (same_upd nt)
      have ht : SqT K (upd H1 t (.tup bs)) t bs := .inl (.inl upd_same)
      generalize upd H1 t (.tup bs) = G at *
      refine ⟨_, rfl, _, rfl, p, _, rfl, sqT_same hp S2, ?_, fun a na => ?_⟩
      · rintro ⟨_, z2⟩
        have e1 : HT.sIx ((V.str z :: r).length) ((V.str z :: r).length) (some ((1 : Nat) : Int)) = min 1 (V.str z :: r).length := HT.sIx_nat _ _ _
        have z3 : HT.sIx ((V.str z :: r).length) ((V.str z :: r).length) (some ((1 : Nat) : Int)) = (V.str z :: r).length := z2
        rw [e1, List.length_cons] at z3
        omega
      · have c1 : cutV (V.str z :: r) none (some 1) = [.str z] := cut_take (V.str z :: r) 1 (by rw [List.length_cons]; omega)
        rw [c1]
        have S3 : Same H (upd G a (.tup [.str z])) := S2.trans (same_upd na)
        have t3 := sqT_same ht (same_upd (o := .tup [.str z]) na)
        have ha : SqT K (upd G a (.tup [.str z])) a [.str z] := .inl (.inl upd_same)
        generalize upd G a (.tup [.str z]) = G3 at *
        have bn : bs ≠ [] := fun e => by rw [e] at hbl; simp at hbl; omega
        refine ⟨_, rfl, a, t, _, _, rfl, rfl, ha, t3, by simp, ?_, fun e => absurd e bn, fun _ b nb => ?_⟩
        · rw [List.length_cons, List.length_nil]
          exact Nat.le_of_lt (small1000 (by omega))
        have S4 : Same H (upd G3 b (.tup ([.str z] ++ bs))) := S3.trans (same_upd nb)
        have t4 := sqT_same t3 (same_upd (o := .tup ([.str z] ++ bs)) nb)
        have hb4 : SqT K (upd G3 b (.tup ([.str z] ++ bs))) b ([.str z] ++ bs) := .inl (.inl upd_same)
        generalize upd G3 b (.tup ([.str z] ++ bs)) = G4 at *
        refine ⟨_, rfl, _, rfl, t, bs, rfl, .inr t4, _, _, rfl, rfl, _, rfl, p, _, rfl, sqT_same hp S4, ?_, fun e ne => ?_⟩
        · rw [hbl]
          rintro ⟨z1, _⟩
          have e1 : HT.sIx ((V.str z :: r).length) 0 (some ((k + 1 : Nat) : Int)) = min (k + 1) (V.str z :: r).length := HT.sIx_nat _ _ _
          have z2 : HT.sIx ((V.str z :: r).length) 0 (some ((k + 1 : Nat) : Int)) = 0 := z1
          rw [e1, List.length_cons] at z2
          omega
        have c2 : cutV (V.str z :: r) (some ((bs.length : Nat) + 1 : Int)) none = r.drop k := by
          rw [hbl]
          exact cut_drop (V.str z :: r) (k + 1) (by rw [List.length_cons]; omega)
        rw [c2]
        have S5 : Same H (upd G4 e (.tup (r.drop k))) := S4.trans (same_upd ne)
        have t5 := sqT_same hb4 (same_upd (o := .tup (r.drop k)) ne)
        have he : SqT K (upd G4 e (.tup (r.drop k))) e (r.drop k) := .inl (.inl upd_same)
        generalize upd G4 e (.tup (r.drop k)) = G5 at *
        have fin : ([V.str z] ++ bs) ++ r.drop k = V.str z :: ((r.take k).map (subV es) ++ r.drop k) := by
          rw [hbs]
          rfl
        refine ⟨b, e, _, _, rfl, rfl, t5, he, by simp, ?_, fun e0 => ?_, fun _ f nf => ?_⟩
        · rw [List.length_append, List.length_drop, List.length_cons, List.length_nil]
          exact Nat.le_of_lt (small1000 (by omega))
        · refine q _ b S5 ?_
          rw [← fin, e0, List.append_nil]
          exact t5
        · exact q _ f (S5.trans (same_upd nf)) (fin ▸ .inl (.inl upd_same))
end
end Z53

set_option Elab.async false
set_option linter.all false
set_option maxRecDepth 100000
set_option maxHeartbeats 2000000
namespace Z54
open PySem PySem.Spec PyProof.Rows L2 Cau Dr14 Z1 Z2 Z3 Z4 ZE Z5 Z6 Z7 Z8 Z9 ZN5 ZN6 ZN7 ZN8 ZN10 ZN11 ZN12 ZN13 ZN21 ZN22 Z50 Z51 Z52 Z53 TxtSet
def lostL (us : List Str) : Option Str := us.find? fun u => !decide (u ∈ sheetL)
def spFirstU (K : PySem.W.Frag) (CN : Addr) : Sp := fun vs H Q _ => ∃ (sp d : Addr) (us : List Str), vs = [.ref sp, .ref d] ∧ SqT K H sp (us.map V.str) ∧ SheetAt CN H d ∧ Q (match lostL us with | some z => .str z | none => .non) H
def spCkKn (K : PySem.W.Frag) (CN CM : Addr) : Sp := fun vs H Q E => ∃ (p d : Addr) (xs : List V) (z : Str), vs = [.ref p, .ref d] ∧ SqT K H p xs ∧ deedL xs = true ∧ SheetAt CN H d ∧ lostL (namesL xs) = some z ∧
  ∀ H' e, Same H H' → H e = none → H' e = some (.xd [("name", .str z)]) → E (.ref CM) (some e) H'
/-- a deed that cannot be laid, for one of three reasons -/
def spLaid (K : PySem.W.Frag) (CN CD CP CM : Addr) : Sp := fun vs H Q E => ∃ (x y : V) (o : Option (List V)), vs = [x, y] ∧ Dd K H x o ∧
  ((deedO o = false ∧ ∀ H', Same H H' → E (.ref CD) none H') ∨ ∃ xs, o = some xs ∧ deedL xs = true ∧
    ((PtsV CN H y false ∧ ∀ H', Same H H' → E (.ref CP) none H') ∨ ∃ (d : Addr) (z : Str), y = .ref d ∧ SheetAt CN H d ∧ lostL (namesL xs) = some z ∧ ∀ H' e, Same H H' → H e = none → H' e = some (.xd [("name", .str z)]) → E (.ref CM) (some e) H'))
section
variable {P : Program} {w : World} {K : PySem.W.Frag} {mg : Str → Option Value} {base : Heap} {CB CT CN : Addr}
theorem scON : FnScope ["deed", "table"] ["deed", "table"] (defScope sOnNames) := ⟨rfl, rfl, rfl, by decide +kernel, rfl, by decide +kernel, by decide +kernel⟩
theorem ok_on {f fC fT fW C C2 : Addr} {fd fdC fdT fdW : FuncData} (F : Fun K "on_names" "on_names" sOnNames f fd) (FC : Fun K "check_deed" "check_deed" sCheckDeed fC fdC) (GC : FnOk P w K mg base (L2.CX P w) 3 fC fdC ["value"] (spCheckDeed K C)) (bC : Binds K fdC ["value"] []) (gC : mg "check_deed" = some (.ref fC))
    (FT : Fun K "is_name_table" "is_name_table" sNameT fT fdT) (GT : FnOk P w K mg base CX0 2 fT fdT ["value"] spNameT) (bT : Binds K fdT ["value"] []) (gT : mg "is_name_table" = some (.ref fT))
    (FW : Fun K "with_names" "with_names" sWithN fW fdW) (GW : FnOk P w K mg base CX0 2 fW fdW ["deed", "table"] (spWithN K)) (bW : Binds K fdW ["deed", "table"] []) (gW : mg "with_names" = some (.ref fW))
    (T : TxtE K mg "BadTable" C2) : FnOk P w K mg base (L2.CX P w) 4 f fd ["deed", "table"] (spOn K C C2) := by
  refine F.okX scON (fun vs H Q E h => ?_) (fun cdv A outer s H vs Q E hr h => ?_)
  · obtain ⟨x, y, o, rfl, _⟩ := h
    rfl
  · obtain ⟨x, y, o, rfl, hx, h⟩ := h
    refine ⟨_, pss_cons (ps_expr (pe_call GC hr (by rfl) gC FC.kp bC .nil (passes_call (takes_of rfl rfl rfl rfl) (fun _ _ _ _ h => h)) (pa_cons (pv 0) pa_nil)))
      (pss_cons (ps_if (pt_not (pt_val (pe_call GT (hr.mono (by decide)) (by rfl) gT FT.kp bT .nil pass0 (pa_cons (pv 1) pa_nil)))) (pss_one (ps_raise rfl (takes_of rfl rfl rfl rfl) (pmk_own PySem.F.excBase_ValueError T.x T.g T.k (raises_own T.b T.t) rfl))) pss_nil)
      (pss_one (ps_ret (pe_call GW (hr.mono (by decide)) (by rfl) gW FW.kp bW .nil pass0 (pa_cons (pv 0) (pa_cons (pv 1) pa_nil)))))), ?_⟩
    rcases h with ⟨e, q⟩ | ⟨xs, rfl, hd, h⟩
    · exact ⟨_, rfl, x, o, rfl, hx, .inr ⟨e, q⟩⟩
    · refine ⟨_, rfl, x, some xs, rfl, hx, .inl ⟨hd, fun H1 S1 => ?_⟩⟩
      rcases h with ⟨hy, q⟩ | ⟨d, es, rfl, hD, hy, q⟩
      · exact ⟨_, rfl, y, false, rfl, hy.same S1, fun H2 S2 => ⟨_, rfl, iteT (q H2 (S1.trans S2))⟩⟩
      · obtain ⟨p, rfl, hp, _, _⟩ := deed_at hx
        refine ⟨_, rfl, .ref d, true, rfl, hy.same S1, fun H2 S2 => ⟨_, rfl, iteF ?_⟩⟩
        have S := S1.trans S2
        exact ⟨_, rfl, _, rfl, p, d, xs, es, rfl, sqT_same hp S, hd, S _ _ hD, fun H' r S3 hr => q H' r (S.trans S3) hr⟩
theorem lost_cons (z : Str) (r : List Str) : lostL (z :: r) = if z ∈ sheetL then lostL r else some z := by
  unfold lostL
  rw [List.find?_cons]
  by_cases h : z ∈ sheetL <;> simp [h]
theorem sheet_get {CN d : Addr} {H : Hp} (h : SheetAt CN H d) (z : Str) : ∃ o, DGet H d (.str z) o ∧ o.isSome = decide (z ∈ sheetL) := by
  obtain ⟨rs, h1, h2, _⟩ := h
  refine ⟨_, DGet.k (k := (.inr z : Key)) h1, ?_⟩
  rw [← h2]
  have gen : ∀ rs : List PtR, (valV (rs.map ptE) (.inr z)).isSome = decide (z ∈ rs.map (·.1)) := by
    intro rs
    induction rs with
    | nil => rfl
    | cons r l ih =>
      unfold valV at ih ⊢
      rw [List.map_cons, List.find?_cons, List.map_cons]
      by_cases e : r.1 = z
      · have e2 : decide ((ptE r).1 = (Sum.inr z : Key)) = true := decide_eq_true (congrArg Sum.inr e)
        simp only [e2]
        rw [decide_eq_true (List.mem_cons.mpr (.inl e.symm))]
        rfl
      · have e2 : decide ((ptE r).1 = (Sum.inr z : Key)) = false := decide_eq_false fun q => e (Sum.inr.inj q)
        simp only [e2]
        rw [ih, Bool.eq_iff_iff]
        rw [decide_eq_true_eq, decide_eq_true_eq, List.mem_cons]
        exact ⟨.inr, fun q => q.elim (fun q => absurd q.symm e) id⟩
  exact gen rs
theorem scFU : FnScope ["names", "table", "name"] ["names", "table"] (defScope sFirstU) := ⟨rfl, rfl, rfl, by decide +kernel, rfl, by decide +kernel, by decide +kernel⟩
theorem ok_firstU {f : Addr} {fd : FuncData} (F : Fun K "first_unknown" "first_unknown" sFirstU f fd) : FnOk P w K mg base CX0 1 f fd ["names", "table"] (spFirstU K CN) := by
  refine F.ok scFU (fun vs H Q E h => ?_) (fun cdv A outer s H vs Q E hr h => ?_)
  · obtain ⟨sp, d, us, rfl, _⟩ := h
    rfl
  · obtain ⟨sp, d, us, rfl, hp, hd, q⟩ := h
    have hu := hu_of (hr.mono (Nat.zero_le _) : Room 0 _)
    refine ⟨_, pss_cons (ps_for PassesOwn.never rfl (pi_seq (pv 0)) (pg_name (i := 2) scFU.nd rfl (.inl rfl))
        (pss_one (ps_if (pt_cmp (pc_dnotin hu (pv 2) (pv 1))) (pss_one (ps_ret (pv 2))) pss_nil)))
      (pss_one (ps_ret pe_non)), ?_⟩
    refine ⟨_, rfl, sp, us.map V.str, rfl, seq_of (.inr hp) same_rfl fun J G wk hG => for_it wk (fun i σ H' => (∃ y, σ = [some (.ref sp), some (.ref d), y]) ∧ H' = H ∧ lostL us = lostL (us.drop i)) ⟨⟨none, rfl⟩, rfl, rfl⟩ (fun i σ H' _ ⟨_, e, _⟩ => hG _ (e ▸ same_rfl)) ?_ ?_⟩
    · rintro i y σ H2 H3 hi ⟨⟨y0, rfl⟩, rfl, ho⟩ ⟨rfl, hy⟩
      obtain ⟨z, rfl, hz⟩ : ∃ z, y = V.str z ∧ us[i]? = some z := by
        rw [List.getElem?_map] at hy
        cases e : us[i]? with
        | none => rw [e] at hy; cases hy
        | some z => rw [e] at hy; exact ⟨z, (Option.some.inj hy).symm, rfl⟩
      have hid := (List.getElem?_eq_some_iff.mp hz).1
      have hdr : us.drop i = z :: us.drop (i + 1) := by
        rw [List.drop_eq_getElem_cons hid, (List.getElem?_eq_some_iff.mp hz).2]
      rw [hdr, lost_cons] at ho
      obtain ⟨o, g, hg⟩ := sheet_get hd z
      refine ⟨_, rfl, _, rfl, d, o, rfl, g, _, rfl, ?_⟩
      rw [hg]
      by_cases h : z ∈ sheetL
      · rw [if_pos h] at ho
        exact iteF2 (by rw [decide_eq_true h]; rfl) ⟨⟨_, rfl⟩, rfl, ho⟩
      · rw [if_neg h] at ho
        refine iteT2 (by rw [decide_eq_false h]; rfl) ⟨_, rfl, ?_⟩
        rw [ho] at q
        exact q
    · rintro σ H2 ⟨⟨y0, rfl⟩, rfl, ho⟩
      rw [List.length_map, List.drop_length] at ho
      rw [ho] at q
      exact q
theorem scCK : FnScope ["deed", "points", "unknown"] ["deed", "points"] (defScope sCkKn) := ⟨rfl, rfl, rfl, by decide +kernel, rfl, by decide +kernel, by decide +kernel⟩
theorem ok_ckKn {f fN fU fI CM : Addr} {fd fdN fdU fdI : FuncData} (F : Fun K "check_known_names" "check_known_names" sCkKn f fd)
    (FN : Fun K "deed_names" "deed_names" sDeedNames fN fdN) (GN : FnOk P w K mg base CX0 1 fN fdN ["deed"] (spDN K)) (bN : Binds K fdN ["deed"] []) (gN : mg "deed_names" = some (.ref fN))
    (FU : Fun K "first_unknown" "first_unknown" sFirstU fU fdU) (GU : FnOk P w K mg base CX0 1 fU fdU ["names", "table"] (spFirstU K CN)) (bU : Binds K fdU ["names", "table"] []) (gU : mg "first_unknown" = some (.ref fU))
    (O : OexC K CM) (iM : PySem.W.findIn K (.ref CM) "__init__" = some (some (.ref fI))) (tI : PySem.W.typeIn K (.ref fI) = some (.type "function")) (GI : FnOk P w K mg base CX0 1 fI fdI ["self", "name"] (SupInit.spSup CM "name")) (bI : Binds K fdI ["self", "name"] []) (gM : mg "NoName" = some (.ref CM)) :
    FnOk P w K mg base (L2.CX P w) 3 f fd ["deed", "points"] (spCkKn K CN CM) := by
  refine F.okX scCK (fun vs H Q E h => ?_) (fun cdv A outer s H vs Q E hr h => ?_)
  · obtain ⟨p, d, xs, z, rfl, _⟩ := h
    rfl
  · obtain ⟨p, d, xs, z, rfl, hp, hd, hS, hz, q⟩ := h
    refine ⟨_, pss_cons (ps_set (i := 2) scCK.nd rfl (.inl rfl) (pe_call GU (hr.mono (by decide)) (by rfl) gU FU.kp bU .nil pass0 (pa_cons (pe_call GN (hr.mono (by decide)) (by rfl) gN FN.kp bN .nil pass0 (pa_cons (pv 0) pa_nil)) (pa_cons (pv 1) pa_nil))))
      (pss_one (ps_if (pt_cmpR op_notN1 (pv 2) pe_non (nomark _)) (pss_one (ps_raise rfl (takes_of rfl rfl rfl rfl) (pmk_oex O iM tI GI hr bI .nil pass0 (by rfl) gM (pa_cons (pv 2) pa_nil)))) pss_nil)), ?_⟩
    obtain ⟨w0, r, k, rfl, hf, hall, _⟩ := word_of hd
    rw [names_is hf] at hz
    have et := texts_of hall
    refine ⟨_, rfl, p, w0, r, k, rfl, hp, hf, fun sp nsp => ⟨_, rfl, sp, d, _, rfl, .inl (.inl (by rw [← et]; exact upd_same)), hS.same (same_upd nsp), ?_⟩⟩
    rw [hz]
    have S0 : Same H (upd H sp (.tup (r.take k))) := same_upd nsp
    generalize upd H sp (.tup (r.take k)) = G at *
    refine ⟨_, rfl, rfl, _, rfl, iteT2 rfl ?_⟩
    refine ⟨_, rfl, by show 1 ≤ 1000; decide, fun a na => ?_⟩
    refine ⟨a, .str z, rfl, upd_same, fun dx nx ne => ⟨rfl, dx, _, upd_same, (upd_ne ne).trans upd_same, ?_, ?_⟩⟩
    · rwa [upd_ne ne] at nx
    · rw [upd_ne ne] at nx
      refine q _ dx (fun b o hb => ?_) (PySem.Spec.same_none S0 nx) upd_same
      have hb4 := S0 _ _ hb
      have b1 : b ≠ a := fun z => by rw [z, na] at hb4; cases hb4
      have b2 : b ≠ dx := fun z => by rw [z, nx] at hb4; cases hb4
      rw [upd_ne b2, del_ne b1, upd_ne b1, upd_ne b2, upd_ne b1]
      exact hb4
theorem scLa : FnScope ["deed", "points"] ["deed", "points"] (defScope sLaid) := ⟨rfl, rfl, rfl, by decide +kernel, rfl, by decide +kernel, by decide +kernel⟩
theorem ok_laid {f fC fP fK CD CP CM : Addr} {fd fdC fdP fdK : FuncData} (F : Fun K "laid" "laid" sLaid f fd) (FC : Fun K "check_deed" "check_deed" sCheckDeed fC fdC) (GC : FnOk P w K mg base (L2.CX P w) 3 fC fdC ["value"] (spCheckDeed K CD)) (bC : Binds K fdC ["value"] []) (gC : mg "check_deed" = some (.ref fC))
    (FP : Fun K "check_dict_of_points" "check_dict_of_points" sCkPts fP fdP) (GP : FnOk P w K mg base (L2.CX P w) 4 fP fdP ["value"] (spCkPts CN CP)) (bP : Binds K fdP ["value"] []) (gP : mg "check_dict_of_points" = some (.ref fP))
    (FK : Fun K "check_known_names" "check_known_names" sCkKn fK fdK) (GK : FnOk P w K mg base (L2.CX P w) 3 fK fdK ["deed", "points"] (spCkKn K CN CM)) (bK : Binds K fdK ["deed", "points"] []) (gK : mg "check_known_names" = some (.ref fK)) :
    FnOk P w K mg base (L2.CX P w) 5 f fd ["deed", "points"] (spLaid K CN CD CP CM) := by
  refine F.okX scLa (fun vs H Q E h => ?_) (fun cdv A outer s H vs Q E hr h => ?_)
  · obtain ⟨x, y, o, rfl, _⟩ := h
    rfl
  · obtain ⟨x, y, o, rfl, hx, h⟩ := h
    refine ⟨_, pss_cons (ps_expr (pe_call GC (hr.mono (by decide)) (by rfl) gC FC.kp bC .nil (passes_call (takes_of rfl rfl rfl rfl) (fun _ _ _ _ h => h)) (pa_cons (pv 0) pa_nil)))
      (pss_cons (ps_expr (pe_call GP hr (by rfl) gP FP.kp bP .nil (passes_call (takes_of rfl rfl rfl rfl) (fun _ _ _ _ h => h)) (pa_cons (pv 1) pa_nil)))
      (pss_cons (ps_expr (pe_call GK (hr.mono (by decide)) (by rfl) gK FK.kp bK .nil (passes_call (takes_of rfl rfl rfl rfl) (fun _ _ _ _ h => h)) (pa_cons (pv 0) (pa_cons (pv 1) pa_nil))))
      (pss_not))), ?_⟩
    rcases h with ⟨e, q⟩ | ⟨xs, rfl, hd, h⟩
    · exact ⟨_, rfl, x, o, rfl, hx, .inr ⟨e, q⟩⟩
    · refine ⟨_, rfl, x, some xs, rfl, hx, .inl ⟨hd, fun H1 S1 => ?_⟩⟩
      rcases h with ⟨hy, q⟩ | ⟨d, z, rfl, hS, hz, q⟩
      · exact ⟨_, rfl, y, false, rfl, hy.same S1, fun H2 S2 => q H2 (S1.trans S2)⟩
      · obtain ⟨p, rfl, hp, _, _⟩ := deed_at hx
        refine ⟨_, rfl, .ref d, true, rfl, (hS.same S1).pts, fun H2 S2 => ?_⟩
        have S := S1.trans S2
        exact ⟨_, rfl, _, rfl, p, d, xs, z, rfl, sqT_same hp S, hd, hS.same S, hz, fun H' e S3 ne he => q H' e (S.trans S3) (PySem.Spec.same_none S ne) he⟩
end
end Z54

set_option Elab.async false
set_option linter.all false
set_option maxRecDepth 100000
set_option maxHeartbeats 2000000
namespace Z55
open PySem PySem.Spec PyProof.Rows L2 Cau Dr14 Z1 Z2 Z3 Z4 ZE Z5 Z6 Z7 Z8 Z9 ZN5 ZN6 ZN7 ZN8 ZN10 ZN11 ZN12 ZN13 ZN21 ZN22 Z50 Z51 Z52 Z53 Z54 TxtSet
section
variable {P : Program} {w : World} {K : PySem.W.Frag} {mg : Str → Option Value} {base : Heap}
/-! ### the law's look at a name -/
theorem scLN : FnScope ["value", "letters", "sign"] ["value"] (defScope sLName) := ⟨rfl, rfl, rfl, by decide +kernel, rfl, by decide +kernel, by decide +kernel⟩
theorem ok_ldue {f : Addr} {fd : FuncData} (F : Fun K "_law_is_name_due" "_law_is_name_due" sLName f fd) (mi : mg "isinstance" = none) (ms : mg "str" = none) (ml : mg "len" = none) : FnOk P w K mg base CX0 1 f fd ["value"] (spName K) := by
  refine F.ok scLN (fun vs H Q E h => ?_) (fun cdv A outer s H vs Q E hr h => ?_)
  · obtain ⟨x, o, rfl, _⟩ := h
    rfl
  · obtain ⟨x, o, rfl, hx, q⟩ := h
    refine ⟨_, pss_cons (ps_if (PW.pt (pw_or (pt_not (pt_val (pe_callB call_isi (by rfl) mi (by decide +kernel) (pa_cons (pv 0) (pa_cons (pe_bltn (v := .ty "str") (by rfl) ms (by decide +kernel) rfl) pa_nil)))))
        (pw_or1 (pt_not (pt_chain op_lt op_lt pe_int (pe_callB call_len_str (by rfl) ml PySem.boot_len (pa_cons (pv 0) pa_nil)) pe_int))))) (pss_one (ps_ret pe_bl)) pss_nil)
      (pss_cons (ps_set (i := 1) scLN.nd rfl (.inr rfl) pe_str)
      (pss_one (ps_ret (pe_and (pe_cmpR op_inS (pe_item_str (pv 0) pe_int (fun _ _ => rfl)) (pv 1) (by rfl)) (pe_one (pe_cmpR (op_eqD hr.units)
          (pe_lc (own := [("sign", 2)]) (g := gName 2) rfl scLN.nd (pi_str (pv 0))
            (blkOk_by (own := [("sign", 2)]) (N := ["value", "letters", "sign"]) (sc := defScope sLName) (by decide +kernel))
            (fun _ _ _ _ _ => pg_name (i := 2) scLN.nd rfl (.inl rfl)) (fun _ _ _ _ _ => pts_one (pt_cmpR op_notInS (pv 2) (pe_op op_add_str (pv 1) pe_str) (by rfl)))
            (fun _ _ _ _ _ => pv 2)) (pe_lst pa_nil) (by rfl))))))), ?_⟩
    have len0 : ∀ s : Str, s.length = s.cps.size := fun _ => rfl
    rcases hx with ⟨z, rfl, rfl, hz4, hzo⟩ | ⟨rfl, t, ht, hb⟩
    · have hz : z.length ≤ sizeLine := by rw [sizeLine_eq]; omega
      refine ⟨_, rfl, .str z, .ty "str", .type "str", .type "str", true, rfl, .ty _, .base (.str z), kit_ty (by decide +kernel), true, rfl, iteF ?_⟩
      have q' : ∀ b H', nameS z = b → Same H H' → Q (.bl b) H' := fun b H' e sm => by
        subst e
        exact q H' sm
      refine ⟨_, rfl, z, rfl, hz, _, _, rfl, rfl, _, rfl, ?_⟩
      by_cases h1 : 1 ≤ z.cps.size
      · refine iteT2 (by rw [len0]; exact decide_eq_true (by omega)) ?_
        refine ⟨_, 9, rfl, rfl, _, rfl, ?_⟩
        by_cases h8 : z.cps.size ≤ 8
        · have e8 : decide (((z.length : Nat) : Int) < 9) = true := by rw [len0]; exact decide_eq_true (by omega)
          rw [e8]
          refine iteF ?_
          obtain ⟨c, hc⟩ : ∃ c, z.cps[0]? = some c := ⟨_, Array.getElem?_eq_getElem (by omega)⟩
          have hd0 : z.cps.getD 0 0 = c := by
            rw [Array.getD_eq_getD_getElem?, hc]
            rfl
          refine ⟨_, rfl, z, 0, c, rfl, rfl, by decide, by decide, by rw [len0]; omega, hc, _, rfl, c, letT, rfl, rfl, _, rfl, ?_⟩
          by_cases hl : c ∈ letT.cps.toList
          · refine iteT2 (decide_eq_true hl) ?_
            refine ⟨_, rfl, z, rfl, fun D nD => ?_⟩
            refine lc_it walk_str (fun i H1 => ∃ bs : List Nat, H1 = upd H D (.lst (bs.map fun c => V.str ⟨#[c]⟩)) ∧ bs = (z.cps.toList.take i).filter (fun c => !signS c)) ⟨[], rfl, rfl⟩ (fun _ _ _ _ => trivial) ?_ ?_
            · rintro i x H1 H2 hi ⟨bs, rfl, hbs⟩ ⟨rfl, c1, hc1, rfl⟩
              have hil : bs.length < 9 := by
                have h2 := List.length_filter_le (fun c => !signS c) (z.cps.toList.take i)
                rw [List.length_take] at h2
                rw [hbs]
                omega
              have step : (z.cps.toList.take (i + 1)).filter (fun c => !signS c) = bs ++ (if signS c1 = true then [] else [c1]) := by
                rw [hbs, List.take_succ, List.filter_append, Array.getElem?_toList, hc1]
                cases e : signS c1 <;> simp [e]
              refine ⟨rfl, _, rfl, _, rfl, letT, digT, rfl, rfl, by decide +kernel, c1, _, rfl, rfl, _, rfl, ?_⟩
              rw [sign_mem]
              cases e : signS c1 with
              | true =>
                refine iteF2 rfl ⟨bs, rfl, ?_⟩
                rw [step, e]
                simp
              | false =>
                refine iteT2 rfl ⟨_, rfl, _, upd_same, ?_, bs ++ [c1], ?_, ?_⟩
                · rw [List.length_map]; exact small1000 (by omega)
                · rw [upd_upd, List.map_append]; rfl
                · rw [step, e]
                  rfl
            · rintro H1 ⟨bs, rfl, hbs⟩
              have e : z.cps.size = z.cps.toList.length := by simp
              rw [e, List.take_length] at hbs
              refine ⟨by show 0 ≤ sizeLine; exact Nat.zero_le _, fun l nl => ?_⟩
              have nDl : D ≠ l := by
                rintro rfl
                rw [upd_same] at nl
                cases nl
              have hm : (bs.map fun c => V.str ⟨#[c]⟩) = (bs.map fun c => (⟨#[c]⟩ : Str)).map V.str := by rw [List.map_map]; rfl
              refine ⟨_, _, dp_strs (xs := bs.map fun c => (⟨#[c]⟩ : Str)) (.inl (.inl (by rw [upd_ne nDl, upd_same, hm]))), dp_nil upd_same, shaped_strs fun x hx => ?_, shaped_nil, ?_⟩
              · obtain ⟨c2, hc2, rfl⟩ := List.mem_map.mp hx
                rw [hbs] at hc2
                have hc3 := (List.mem_filter.mp hc2).1
                have h3 : ∀ c ∈ z.cps.toList, c < 0x110000 := by
                  unfold PyData.strOk at hzo
                  rw [Array.all_eq_true'] at hzo
                  exact fun c hc => of_decide_eq_true (hzo c (Array.mem_toList_iff.mp hc))
                have h4 := h3 _ hc3
                unfold PyData.strOk
                simp [h4]
              · refine q' _ _ ?_ fun b o e => ?_
                · rw [eqv_nil, List.isEmpty_map, hbs]
                  unfold nameS
                  rw [hd0, decide_eq_true (show 1 ≤ z.cps.size ∧ z.cps.size ≤ 8 from ⟨h1, h8⟩), show letS c = true from decide_eq_true hl, Bool.eq_iff_iff, List.isEmpty_iff, List.filter_eq_nil_iff, Bool.and_true, Bool.true_and, List.all_eq_true]
                  constructor
                  · intro h c hc
                    exact h c hc |> fun z => by simpa using z
                  · intro h c hc
                    simpa using h c hc
                · rw [upd_ne (ne_of_none (by rw [upd_ne (ne_of_none e nD)]; exact e) nl), upd_ne (ne_of_none e nD)]
                  exact e
          · refine iteF2 (decide_eq_false hl) (q' _ _ ?_ fun _ _ e => e)
            unfold nameS
            rw [hd0, show letS c = false from decide_eq_false hl]
            simp
        · have e8 : decide (((z.length : Nat) : Int) < 9) = false := by rw [len0]; exact decide_eq_false (by omega)
          rw [e8]
          refine iteT (q' _ _ ?_ fun _ _ e => e)
          unfold nameS
          rw [decide_eq_false (show ¬ (1 ≤ z.cps.size ∧ z.cps.size ≤ 8) by omega)]
          rfl
      · refine iteF2 (by rw [len0]; exact decide_eq_false (by omega)) ⟨_, rfl, iteT (q' _ _ ?_ fun _ _ e => e)⟩
        unfold nameS
        rw [decide_eq_false (show ¬ (1 ≤ z.cps.size ∧ z.cps.size ≤ 8) by omega)]
        rfl
    · exact ⟨_, rfl, x, .ty "str", .type t, .type "str", false, rfl, .ty _, ht, kit_ty hb, false, rfl, iteT (q _ fun _ _ e => e)⟩
end
end Z55

set_option Elab.async false
set_option linter.all false
set_option maxRecDepth 100000
set_option maxHeartbeats 2000000
namespace Z56
open PySem PySem.Spec PyProof.Rows L2 Cau RepG Dr14 Z1 Z2 Z3 Z4 ZE Z5 Z6 Z7 Z8 Z9 ZN5 ZN6 ZN7 ZN8 ZN10 ZN11 ZN12 ZN13 ZN21 ZN22 Z50 Z51 Z52 Z53 Z54 Z55 TxtSet
abbrev sDeedDue : Stmt := topS 159
/-! ### repr of an item -/
def shI : V → Str
  | .ref _ => "['a']"
  | v => shA v
def rReprI : List V → Hp → VK → Prop := fun xs H Q => ∃ v, xs = [v] ∧ ItV H v ∧ Q (.str (shI v)) H
theorem shI_atom {v : V} (h : AtomV v = true) : shI v = shA v := by
  cases v with
  | ref a => cases h
  | _ => rfl
theorem call_reprI {X : Cx} (g : X.A.guards = some []) {k : Nat} (hr : Room k X.A) : CallR X (.builtin "repr") rReprI := by
  rintro pins s σ H xs us Q I r ⟨v, rfl, ha, q⟩
  cases ha with
  | atom h => exact call_reprA pins s σ H _ us Q I r ⟨v, rfl, h, shI_atom h ▸ q⟩
  | @lst l h =>
    refine call_repr g hr pins s σ H _ us Q I r ⟨.ref l, .list [.str "a"], rfl, .lst (.inl (.inl h)) (.cons (.str _) .nil), by decide +kernel, by decide +kernel, by decide +kernel, by decide +kernel, ?_⟩
    have e : PyData.shown (.list [.str "a"]) = ("['a']" : Str) := by decide +kernel
    rw [e]
    exact q
theorem shI_way {H : Hp} {v : V} (h : ItV H v) : inV (.str (shI v)) [.str "1", .str "2"] = wayV v := by
  cases h with
  | atom h => rw [shI_atom h]; exact shA_way h
  | lst h => rfl
/-! ### items as data -/
def itD : V → PyData
  | .ref _ => .list [.str "a"]
  | v => atomD v
theorem dp_it {K : PySem.W.Frag} {H : Hp} {v : V} (h : ItV H v) : Dp K H v (itD v) := by
  cases h with
  | atom h =>
    have e : itD v = atomD v := by
      cases v with
      | ref a => cases h
      | _ => rfl
    rw [e]
    exact dp_atom h
  | lst h => exact .lst (.inl (.inl h)) (.cons (.str _) .nil)
theorem dpAll_its {K : PySem.W.Frag} {H : Hp} : ∀ xs : List V, (∀ x ∈ xs, ItV H x) → DpAll K H xs (xs.map itD)
  | [], _ => .nil
  | x :: r, h => .cons (dp_it (h x List.mem_cons_self)) (dpAll_its r fun y hy => h y (List.mem_cons_of_mem _ hy))
theorem canLay_it {H : Hp} {v : V} (h : ItV H v) : PyData.canLay0 (itD v) = true := by
  cases h with
  | atom h =>
    have e : itD v = atomD v := by
      cases v with
      | ref a => cases h
      | _ => rfl
    rw [e]
    exact canLay_atom h
  | lst h => exact (by decide +kernel : PyData.canLay0 (.list [.str "a"]) = true)
theorem depth_it (v : V) : PyData.depth (itD v) ≤ 1 := by
  cases v with
  | ref a => exact (by decide +kernel : PyData.depth (.list [.str "a"]) ≤ 1)
  | _ => simp [itD, atomD, PyData.depth]
theorem canLay_its {H : Hp} : ∀ xs : List V, (∀ x ∈ xs, ItV H x) → PyData.canLayAll0 (xs.map itD) = true
  | [], _ => by simp [PyData.canLayAll0]
  | x :: r, h => by simp [PyData.canLayAll0, canLay_it (h x List.mem_cons_self), canLay_its r fun y hy => h y (List.mem_cons_of_mem _ hy)]
theorem depth_its : ∀ xs : List V, PyData.depthAll (xs.map itD) ≤ 1
  | [] => by simp [PyData.depthAll]
  | n :: r => by
    have h1 := depth_it n
    have h2 := depth_its r
    rw [List.map_cons, PyData.depthAll]
    omega
theorem shaped_its {H : Hp} {xs : List V} (h : ∀ x ∈ xs, ItV H x) : SeqAt.shaped (.tuple (xs.map itD)) = true := by
  have h1 := canLay_its xs h
  have h2 := depth_its xs
  unfold SeqAt.shaped
  simp only [PyData.canLay0, PyData.depth, h1, Bool.true_and, decide_eq_true_eq]
  exact decide_eq_true (Nat.le_trans (Nat.add_le_add_right h2 1) (by decide))
theorem shaped_itl {H : Hp} {xs : List V} (h : ∀ x ∈ xs, ItV H x) : SeqAt.shaped (.list (xs.map itD)) = true := by
  have h1 := canLay_its xs h
  have h2 := depth_its xs
  unfold SeqAt.shaped
  simp only [PyData.canLay0, PyData.depth, h1, Bool.true_and, decide_eq_true_eq]
  exact decide_eq_true (Nat.le_trans (Nat.add_le_add_right h2 1) (by decide))
theorem eqv_nilT {α : Type} (f : α → PyData) : ∀ xs : List α, PyData.eqv (.tuple (xs.map f)) (.tuple []) = xs.isEmpty
  | [] => rfl
  | x :: r => by simp [PyData.eqv, PyData.eqvAll]
section
variable {P : Program} {w : World} {K : PySem.W.Frag} {mg : Str → Option Value} {base : Heap}
theorem scLD : FnScope ["value", "many", "ways", "name"] ["value"] (defScope sDeedDue) := ⟨rfl, rfl, rfl, by decide +kernel, rfl, by decide +kernel, by decide +kernel⟩
theorem ok_ddue {f fN fF fW : Addr} {fd fdN fdF fdW : FuncData} (F : Fun K "_law_is_deed_due" "_law_is_deed_due" sDeedDue f fd) (FN : Fun K "_law_is_name_due" "_law_is_name_due" sLName fN fdN) (GN : FnOk P w K mg base CX0 1 fN fdN ["value"] (spName K)) (bN : Binds K fdN ["value"] []) (gN : mg "_law_is_name_due" = some (.ref fN))
    (FF : Fun K "_law_forms" "_law_forms" sForms fF fdF) (bF : Binds K fdF [] []) (gF : mg "_law_forms" = some (.ref fF)) (FW : Fun K "_law_has_way" "_law_has_way" sHasWay fW fdW) (bW : Binds K fdW ["word"] []) (gW : mg "_law_has_way" = some (.ref fW))
    (mi : mg "isinstance" = none) (mt : mg "tuple" = none) (ms : mg "str" = none) (ml : mg "len" = none) (mint : mg "int" = none) (mrp : mg "repr" = none) : FnG P w K mg base CX0 2 f fd ["value"] (spDeed K) := by
  have GF : FnOk P w K mg base CX0 1 fF fdF [] spForms := ok_forms FF
  have GW : FnOk P w K mg base CX0 1 fW fdW ["word"] spHasWay := ok_hasWay FW
  refine okG F scLD (fun vs H Q E h => ?_) (fun cdv A outer s H vs Q E g hr h => ?_)
  · obtain ⟨x, o, rfl, _⟩ := h
    rfl
  · obtain ⟨x, o, rfl, hx, q⟩ := h
    have hu := hu_of (hr.mono (Nat.zero_le _) : Room 0 _)
    refine ⟨_, pss_cons (ps_if (PW.pt (pw_or (pt_not (pt_val (pe_callB call_isi (by rfl) mi (by decide +kernel) (pa_cons (pv 0) (pa_cons (pe_bltn (v := .ty "tuple") (by rfl) mt (by decide +kernel) rfl) pa_nil)))))
        (pw_or (pt_cmpR (op_eqD hr.units) (pv 0) (pe_tup pa_nil) (by rfl))
        (pw_or (pt_not (pt_val (pe_callB call_isi (by rfl) mi (by decide +kernel) (pa_cons (pe_ix ix_tup (pv 0) pe_int (fun _ _ => rfl)) (pa_cons (pe_bltn (v := .ty "str") (by rfl) ms (by decide +kernel) rfl) pa_nil)))))
        (pw_or1 (pt_cmp (pc_dnotin hu (pe_ix ix_tup (pv 0) pe_int (fun _ _ => rfl)) (pe_call0 GF hr (by rfl) gF FF.kp bF .nil pass0)))))))) (pss_one (ps_ret pe_bl)) pss_nil)
      (pss_cons (ps_par (i := 1) (j := 2) rfl scLD.nd rfl rfl (by decide) rfl rfl (pa_cons (pe_dget hu (pe_call0 GF hr (by rfl) gF FF.kp bF .nil pass0) (pe_ix ix_tup (pv 0) pe_int (fun _ _ => rfl)) (fun _ _ => rfl))
        (pa_cons (pe_callTy call_int1 (by rfl) mint (by decide +kernel) (pa_cons (pe_call GW hr (by rfl) gW FW.kp bW .nil pass0 (pa_cons (pe_ix ix_tup (pv 0) pe_int (fun _ _ => rfl)) pa_nil)) pa_nil)) pa_nil)) (by rfl))
      (pss_cons (ps_if (PW.pt (pw_or (pt_cmpR op_ne (pe_callB call_len_seq (by rfl) ml PySem.boot_len (pa_cons (pv 0) pa_nil)) (pe_op op_add (pe_op op_add pe_int (pv 1)) (pv 2)) (by rfl))
        (pw_or1 (pt_cmpR (op_neD hr.units)
          (pe_lc (own := [("name", 3)]) (g := gName 3) rfl scLD.nd (pi_tup (pe_slice sl_tup (pv 0) (po_some pe_int) (po_some (pe_op op_add pe_int (pv 1)))))
            (blkOk_by (own := [("name", 3)]) (N := ["value", "many", "ways", "name"]) (sc := defScope sDeedDue) (by decide +kernel))
            (fun _ _ _ _ _ => pg_name (i := 3) scLD.nd rfl (.inl rfl))
            (fun _ _ _ _ _ => pts_one (pt_not (pt_val (pe_call GN (hr.mono (by decide)) (by rfl) gN FN.kp bN .nil pass0 (pa_cons (pv 3) pa_nil)))))
            (fun _ _ _ _ _ => pv 3)) (pe_lst pa_nil) (by rfl))))) (pss_one (ps_ret pe_bl)) pss_nil)
      (pss_one (ps_ret (pe_or (pe_cmpR op_eq (pv 2) pe_int (nomark _))
        (pe_one (pe_cmpR op_in_seq (pe_callB (call_reprI g hr) (by rfl) mrp (by decide +kernel) (pa_cons (pe_ix ix_tup (pv 0) (pe_op op_sub (pe_callB call_len_seq (by rfl) ml PySem.boot_len (pa_cons (pv 0) pa_nil)) pe_int) (fun _ _ => rfl)) pa_nil)) (pe_lst (pa_cons pe_str (pa_cons pe_str pa_nil))) (by rfl)))))))), ?_⟩
    have q' : ∀ b H', deedO o = b → Same H H' → Q (.bl b) H' := fun b H' e sm => by
      subst e
      exact q H' sm
    rcases hx with ⟨p, xs, rfl, hp, hat, hlen, rfl⟩ | ⟨hn, rfl⟩
    · refine ⟨_, rfl, .ref p, .ty "tuple", .type "tuple", .type "tuple", true, rfl, .ty _, sqT_ty hp, kit_ty (by decide +kernel), true, rfl, iteF ?_⟩
      refine ⟨_, rfl, Nat.zero_le _, fun e0 ne0 => ?_⟩
      have S0 : Same H (upd H e0 (.tup [])) := same_upd ne0
      have hpE := sqT_same hp S0
      refine ⟨_, _, .tup hpE (dpAll_its xs fun x hx => (hat x hx).same S0), .tup (.inl (.inl upd_same)) .nil, shaped_its (fun x hx => (hat x hx).same S0), by decide, _, rfl, ?_⟩
      rw [eqv_nilT]
      cases xs with
      | nil => exact iteT2 rfl (q' _ _ rfl S0)
      | cons v r =>
        refine iteF2 rfl ?_
        have hv : ItV H v := hat v List.mem_cons_self
        have hr' : ∀ y ∈ r, ItV H y := fun y hy => hat y (List.mem_cons_of_mem _ hy)
        have at0 : atI (v :: r) 0 = some v := atI_nat (j := 0) rfl
        generalize upd H e0 (.tup []) = H0 at *
        rcases tx_it (K := K) (hv.same S0) with ⟨z, rfl, hz, _⟩ | ⟨hz, t, ht, hb⟩
        · refine ⟨_, rfl, p, _, 0, _, rfl, rfl, hpE, at0, .str z, .ty "str", .type "str", .type "str", true, rfl, .ty _, .base (.str z), kit_ty (by decide +kernel), true, rfl, iteF ?_⟩
          refine ⟨_, rfl, p, _, 0, _, rfl, rfl, hpE, at0, rfl, fun d nd => ?_⟩
          have S1 : Same H (upd H0 d (.dK formsD)) := S0.trans (same_upd nd)
          have g1 : DGet (upd H0 d (.dK formsD)) d (.str z) ((formOf z).map fun k => V.int (k : Nat)) := forms_get z ▸ DGet.k (k := (.inr z : Key)) upd_same
          refine ⟨d, _, rfl, g1, _, rfl, ?_⟩
          cases hf : formOf z with
          | none => exact iteT2 rfl (q' _ _ (deed_word hf r) S1)
          | some k =>
            obtain ⟨hk2, hk5⟩ := formOf_small hf
            refine iteF2 rfl ?_
            have at0' : atI (V.str z :: r) 0 = some (.str z) := at0
            refine ⟨rfl, fun d2 nd2 => ?_⟩
            have S2 : Same H (upd (upd H0 d (.dK formsD)) d2 (.dK formsD)) := S1.trans (same_upd nd2)
            have hp2 := sqT_same hp S2
            have g2 : DGet (upd (upd H0 d (.dK formsD)) d2 (.dK formsD)) d2 (.str z) (some (.int (k : Nat))) := by
              have e : valV formsD (.inr z) = some (.int (k : Nat)) := by rw [forms_get, hf]; rfl
              exact e ▸ DGet.k (k := (.inr z : Key)) upd_same
            refine ⟨_, rfl, p, _, 0, _, rfl, rfl, hp2, at0', d2, .int k, rfl, g2, ?_⟩
            refine ⟨_, rfl, p, _, 0, _, rfl, rfl, hp2, at0', z, rfl, fun H3 sm3 => .inr ⟨wayW z, rfl, _, _, rfl, ?_⟩⟩
            have S3 := S2.trans sm3
            have hp3 := sqT_same hp S3
            have el : decide (V.int (((V.str z :: r).length : Nat) : Int) = V.int (1 + (k : Int) + if wayW z = true then 1 else 0)) = decide (r.length = k + if wayW z = true then 1 else 0) := by
              rw [Bool.eq_iff_iff]
              cases wayW z <;> simp <;> omega
            refine ⟨_, rfl, p, _, rfl, .inr hp3, _, rfl, _, _, rfl, rfl, _, rfl, _, _, rfl, rfl, rfl, _, rfl, ?_⟩
            rw [el]
            have en : ∀ b, ((r.take k).all nameV && (if wayW z = true then decide (r.length = k + 1) && wayV (r.getLastD .non) else decide (r.length = k))) = b → deedO (some (V.str z :: r)) = b := fun b eb => by
              show deedL (.str z :: r) = b
              rw [deed_is hf, eb]
            by_cases hl : r.length = k + if wayW z = true then 1 else 0
            · refine iteF2 (by rw [decide_eq_true hl]; rfl) ?_
              refine ⟨_, rfl, _, rfl, _, rfl, _, _, rfl, rfl, _, rfl, p, _, rfl, hp3, not_whole _ _ _, fun sp nsp => ?_⟩
              rw [cut_1']
              have S4 : Same H (upd H3 sp (.tup (r.take k))) := S3.trans (same_upd nsp)
              refine ⟨sp, rfl, ⟨_, .inl (.inl upd_same)⟩, fun D nD => ?_⟩
              have at_ : ∀ (i : Nat) (x : V), (r.take k)[i]? = some x → ItV H x := fun i x hx => hr' x (List.mem_of_mem_take (List.mem_of_getElem? hx))
              refine lc_it (walk_tup (K := K) (a := sp) (xs := r.take k)) (fun i H1 => ∃ bs : List V, H1 D = some (.lst bs) ∧ bs = ((r.take k).take i).filter (fun v => !nameV v) ∧ Same (upd H3 sp (.tup (r.take k))) H1) ⟨[], upd_same, rfl, same_upd nD⟩ ?_ ?_ ?_
              · rintro i H1 _ ⟨bs, _, _, sm⟩
                exact .inl (.inl (sm _ _ upd_same))
              · rintro i x H1 H2 hi ⟨bs, hD, hbs, sm⟩ ⟨rfl, hx⟩
                have hbl : bs.length < 9 := by
                  have h2 := List.length_filter_le (fun v => !nameV v) ((r.take k).take i)
                  rw [List.length_take, List.length_take] at h2
                  rw [hbs]
                  omega
                have step : ((r.take k).take (i + 1)).filter (fun v => !nameV v) = bs ++ (if nameV x = true then [] else [x]) := by
                  rw [hbs, List.take_succ, List.filter_append, hx]
                  cases e : nameV x <;> simp [e]
                refine ⟨rfl, _, rfl, x, _, rfl, tx_it ((at_ i x hx).same (S4.trans sm)), fun H5 sm5 => ⟨_, rfl, ?_⟩⟩
                show if (!nameV x) = true then _ else _
                cases e : nameV x with
                | true =>
                  refine iteF2 rfl ⟨bs, sm5 _ _ hD, ?_, sm.trans sm5⟩
                  rw [step, e]
                  simp
                | false =>
                  refine iteT2 rfl ⟨_, rfl, _, sm5 _ _ hD, small1000 (by omega), bs ++ [x], upd_same, ?_, same_put (sm.trans sm5) nD⟩
                  rw [step, e]
                  rfl
              · rintro H1 ⟨bs, hD, hbs, sm⟩
                rw [List.take_length] at hbs
                have S5 := S4.trans sm
                refine ⟨by show 0 ≤ sizeLine; exact Nat.zero_le _, fun l nl => ?_⟩
                have nDl : D ≠ l := by
                  rintro rfl
                  rw [nl] at hD
                  cases hD
                have S6n : ∀ l, H1 l = none → Same H (upd H1 l (.lst [])) := fun l nl => S5.trans (same_upd nl)
                have hbat : ∀ x ∈ bs, ItV H x := fun x hx => by
                  rw [hbs] at hx
                  exact hr' x (List.mem_of_mem_take (List.mem_filter.mp hx).1)
                refine ⟨_, _, .lst (.inl (.inl (by rw [upd_ne nDl]; exact hD))) (dpAll_its bs fun x hx => (hbat x hx).same (S6n l nl)), dp_nil upd_same, shaped_itl hbat, shaped_nil, _, rfl, ?_⟩
                rw [eqv_nil]
                have S6 : Same H (upd H1 l (.lst [])) := S6n l nl
                have hp6 := sqT_same hp S6
                have eall : bs.isEmpty = (r.take k).all nameV := by
                  rw [hbs, Bool.eq_iff_iff, List.isEmpty_iff, List.filter_eq_nil_iff, List.all_eq_true]
                  simp
                rw [eall]
                cases e : (r.take k).all nameV with
                | false =>
                  refine iteT2 rfl (q' _ _ (en _ ?_) S6)
                  rw [e]
                  rfl
                | true =>
                  rw [e, Bool.true_and] at en
                  refine iteF2 rfl ?_
                  refine ⟨_, rfl, rfl, _, rfl, ?_⟩
                  cases ew : wayW z with
                  | false =>
                    rw [ew, if_neg (by decide)] at hl
                    refine iteT2 (by decide) (q' _ _ (en _ ?_) S6)
                    rw [ew, if_neg (by decide), decide_eq_true (by omega)]
                  | true =>
                    rw [ew, if_pos rfl] at hl
                    refine iteF2 (by decide) ?_
                    obtain ⟨r', y, rfl⟩ : ∃ r' y, r = r' ++ [y] := by
                      rcases List.eq_nil_or_concat r with h0 | ⟨r', y, h0⟩
                      · rw [h0] at hl
                        simp at hl
                      · exact ⟨r', y, by rw [h0, List.concat_eq_append]⟩
                    have hk' : r'.length = k := by
                      rw [List.length_append] at hl
                      simp at hl
                      omega
                    have hy : ItV H y := hr' y (List.mem_append_right _ List.mem_cons_self)
                    have la : atI (V.str z :: (r' ++ [y])) (((V.str z :: (r' ++ [y])).length : Int) - 1) = some y := by
                      have e1 : (((V.str z :: (r' ++ [y])).length : Int) - 1) = ((k + 1 : Nat) : Int) := by
                        rw [List.length_cons, List.length_append, hk', List.length_singleton]
                        omega
                      rw [e1]
                      refine atI_nat ?_
                      rw [List.getElem?_cons_succ, List.getElem?_append_right (by omega), hk', Nat.sub_self]
                      rfl
                    have gl : (r' ++ [y]).getLastD V.non = y := by simp
                    rw [ew, if_pos rfl, gl, decide_eq_true hl, Bool.true_and] at en
                    refine ⟨_, rfl, _, rfl, p, _, rfl, .inr hp6, _, _, rfl, rfl, p, _, _, y, rfl, rfl, hp6, la, y, rfl, hy.same S6, by show 2 ≤ sizeLine; decide, fun l2 nl2 => ?_⟩
                    refine ⟨l2, [.str "1", .str "2"], rfl, .inl (.inl (.inl upd_same)), rfl, rfl, ?_⟩
                    show Q (.bl (inV (.str (shI y)) [.str "1", .str "2"])) _
                    rw [shI_way hy]
                    exact q' _ _ (en _ rfl) (S6.trans (same_upd nl2))
            · refine iteT2 (by rw [decide_eq_false hl]; rfl) (q' _ _ (en _ ?_) S3)
              cases ew : wayW z with
              | true =>
                rw [ew, if_pos rfl] at hl
                rw [if_pos rfl, decide_eq_false hl]
                simp
              | false =>
                rw [ew, if_neg (by decide)] at hl
                rw [if_neg (by decide), decide_eq_false (by omega)]
                simp
        · exact ⟨_, rfl, p, _, 0, _, rfl, rfl, hpE, at0, v, .ty "str", .type t, .type "str", false, rfl, .ty _, ht, kit_ty hb, false, rfl, iteT (q' _ _ (deed_odd hz r) S0)⟩
    · obtain ⟨t, ht, hb⟩ := hn.ty (K := K)
      exact ⟨_, rfl, x, .ty "tuple", .type t, .type "tuple", false, rfl, .ty _, ht, kit_ty hb, false, rfl, iteT (q' _ _ rfl same_rfl)⟩
end
end Z56

set_option Elab.async false
set_option linter.all false
set_option maxRecDepth 100000
set_option maxHeartbeats 4000000
namespace ZN25
open PySem PySem.Spec PyProof.Rows L2 Cau Dr14 Z1 Z2 Z3 Z4 ZN5 ZN6 ZN7 ZN8 ZN10 ZN11 ZN12 ZN13 ZN21 ZN22 TxtSet
/-! ### the tools' names, by the law's own table -/
def toolD : List (Key × V) := toolsL.map fun p => (.inr p.1, .str p.2)
theorem tool_new : mergeK [] toolD = toolD := by with_unfolding_all rfl
theorem tool_get (z : Str) : (valV toolD (.inr z)).getD (.str z) = .str (toolW z) := by
  have gen : ∀ l : List (Str × Str), valV (l.map fun p => ((.inr p.1 : Key), V.str p.2)) (.inr z) = (l.lookup z).map V.str := by
    intro l
    induction l with
    | nil => rfl
    | cons p r ih =>
      obtain ⟨a, k⟩ := p
      unfold valV at ih ⊢
      rw [List.map_cons, List.find?_cons, List.lookup_cons]
      by_cases h : z = a
      · subst h
        simp
      · have e1 : (z == a) = false := beq_eq_false_iff_ne.mpr h
        have e2 : decide ((Sum.inr a : Key) = Sum.inr z) = false := decide_eq_false fun q => h (Sum.inr.inj q).symm
        rw [e1]
        simp only [e2]
        exact ih
  have e : valV toolD (.inr z) = (toolsL.lookup z).map V.str := gen toolsL
  rw [e]
  unfold toolW
  cases toolsL.lookup z <;> rfl
theorem forms_keys : formsD.map (·.1) = (formsL.map (·.1)).map Sum.inr := by
  unfold formsD
  rw [List.map_map, List.map_map]
  rfl
theorem forms_ok : ∀ z ∈ formsL.map (·.1), PyData.strOk z = true ∧ (formOf z).isSome = true := by decide +kernel
/-! ### tuples of texts as data -/
/-! ### a changed drawing stays while the state is drawn from -/
section
variable {K : PySem.W.Frag} {a w c : Addr} {T T' : Nat} {H H' : Hp} {v : V}
theorem NotTup.kept (h : NotTup H v) (s : St H a w c T) (s' : St H' a w c T') (k : Kept a w H H') : NotTup H' v := by
  cases h with
  | atom h => exact .atom h
  | @lst p xs h =>
    by_cases e1 : p = a
    · obtain ⟨_, _, _, _, _, h1, _⟩ := s
      rw [e1, h1] at h
      cases h
    · by_cases e2 : p = w
      · obtain ⟨_, _, _, _, _, _, h2, _⟩ := s'
        rw [e2]
        exact .lst h2
      · exact .lst (k _ _ h e1 e2)
  | @dK p kvs h =>
    by_cases e1 : p = a
    · obtain ⟨_, _, _, _, _, h1, _⟩ := s'
      rw [e1]
      exact .dK h1
    · by_cases e2 : p = w
      · obtain ⟨_, _, _, _, _, _, h2, _⟩ := s
        rw [e2, h2] at h
        cases h
      · exact .dK (k _ _ h e1 e2)
end
section
variable {P : Program} {w : World} {K : PySem.W.Frag} {mg : Str → Option Value} {base : Heap}
end
end ZN25

set_option Elab.async false
set_option linter.all false
set_option maxRecDepth 100000
set_option maxHeartbeats 2000000
namespace Z57
open PySem PySem.Spec PyProof.Rows L2 Cau RepG Dr14 Z1 Z2 Z3 Z4 ZE Z5 Z6 Z7 Z8 Z9 ZN5 ZN6 ZN7 ZN8 ZN10 ZN11 ZN12 ZN13 ZN21 ZN22 ZN25 Z50 Z51 Z52 Z53 Z54 Z55 Z56 TxtSet
abbrev sBent : Stmt := topS 160
section
variable {K : PySem.W.Frag} {a w c : Addr} {T T' : Nat} {H H' : Hp} {v : V}
theorem ItV.kept (h : ItV H v) (s : St H a w c T) (k : Kept a w H H') : ItV H' v := by
  cases h with
  | atom h => exact .atom h
  | @lst l h =>
    obtain ⟨_, ws, cs, r, t, h1, h2, _⟩ := s
    refine .lst (k _ _ h (fun z => by rw [z, h1] at h; cases h) fun z => ?_)
    rw [z, h2] at h
    have e := HO.lst.inj (Option.some.inj h)
    cases ws with
    | nil => cases e
    | cons x r => cases (List.cons.inj e).1
theorem Dd.kept {o : Option (List V)} (h : Dd K H v o) (s : St H a w c T) (s' : St H' a w c T') (k : Kept a w H H') : Dd K H' v o := by
  rcases h with ⟨p, xs, e, h1, h2, h3, h4⟩ | ⟨h, e⟩
  · exact .inl ⟨p, xs, e, TK.kept s k _ _ h1, fun x hx => ItV.kept (h2 x hx) s k, h3, h4⟩
  · exact .inr ⟨NotTup.kept h s s' k, e⟩
end
/-! ### sums and cuts of tuples, whatever they are -/
def rCatW (K : PySem.W.Frag) : R2 := fun x y H Q => ∃ a b xs ys, x = .ref a ∧ y = .ref b ∧ SqT K H a xs ∧ SqT K H b ys ∧ xs.length + ys.length ≤ sizeLine ∧ ∀ H' q, Same H H' → SqT K H' q (xs ++ ys) → Q (.ref q) H'
theorem op_catW {X : Cx} : OpR X (binaryOp .Add) (rCatW X.K) := by
  rintro pins s σ H x y v u Q I rx ry ⟨a, b, xs, ys, rfl, rfl, ha, hb, hz, q⟩
  refine op_catA pins s σ H _ _ v u Q I rx ry ⟨a, b, xs, ys, rfl, rfl, ha, hb, hz, fun e => ?_, fun _ e => ?_, fun _ _ p np => q _ p (same_upd np) (.inl (.inl upd_same))⟩
  · exact q H b same_rfl (by rw [e]; exact hb)
  · exact q H a same_rfl (by rw [e, List.append_nil]; exact ha)
def rSlW (K : PySem.W.Frag) : V → Option Int → Option Int → Hp → VK → Prop := fun x lo hi H Q => ∃ a xs, x = .ref a ∧ SqT K H a xs ∧ ∀ H' q, Same H H' → SqT K H' q (cutV xs lo hi) → Q (.ref q) H'
theorem sl_tupW {X : Cx} : SlR X (rSlW X.K) := by
  rintro pins s σ H x v vl vu lo hi sl Q I rx hs pl pu ⟨a, xs, rfl, hx, q⟩
  refine sl_tupA pins s σ H _ v vl vu lo hi sl Q I rx hs pl pu ⟨a, xs, rfl, hx, fun e => ?_, fun _ p np => q _ p (same_upd np) (.inl (.inl upd_same))⟩
  refine q H a same_rfl ?_
  unfold cutV
  rw [e.1, e.2, List.drop_zero, Nat.sub_zero, List.take_length]
  exact hx
def spBent (K : PySem.W.Frag) : Sp := fun vs H Q _ => ∃ (a w c p : Addr) (T : Nat) (xs : List V), vs = [.ref a, .ref p] ∧ St H a w c T ∧ T + 10 ≤ 1000000 ∧ SqT K H p xs ∧ (∀ x ∈ xs, ItV H x) ∧ 0 < xs.length ∧ xs.length ≤ 20 ∧
  ∀ H' v o, Kept a w H H' → St H' a w c (T + 3) → Dd K H' v o → Q v H'
section
variable {P : Program} {w : World} {K : PySem.W.Frag} {mg : Str → Option Value} {base : Heap}
theorem scBe : FnScope ["state", "deed", "at", "odd", "way"] ["state", "deed"] (defScope sBent) := ⟨rfl, rfl, rfl, by decide +kernel, rfl, by decide +kernel, by decide +kernel⟩
def oddL (l : Addr) : List V := [.non, .int 3, .int 0, .bl true, .str "", .str "A", .str "a-b", .str "abcdefghi", .str "1a", .ref l, .str "abcdefgh", .int 1, .int 2, .str "meet", .str "z9"]
theorem odd_atom : ∀ {l : Addr} {x : V}, x ∈ oddL l → AtomV x = true ∨ x = .ref l := by
  intro l x h
  simp only [oddL, List.mem_cons, List.not_mem_nil, or_false] at h
  rcases h with rfl | rfl | rfl | rfl | rfl | rfl | rfl | rfl | rfl | rfl | rfl | rfl | rfl | rfl | rfl
  all_goals first
    | exact .inr rfl
    | exact .inl (by decide +kernel)
theorem ok_bent {f fD fP : Addr} {fd fdD fdP : FuncData} (F : Fun K "_law_bent" "_law_bent" sBent f fd)
    (FD : Fun K "_law_draw" "_law_draw" sDraw fD fdD) (GD : FnOk P w K mg base CX0 2 fD fdD ["state", "room"] spDraw) (bD : Binds K fdD ["state", "room"] []) (gD : mg "_law_draw" = some (.ref fD))
    (FP : Fun K "_law_pick" "_law_pick" sPick fP fdP) (GP : FnOk P w K mg base CX0 3 fP fdP ["state", "some"] (spPick K)) (bP : Binds K fdP ["state", "some"] []) (gP : mg "_law_pick" = some (.ref fP))
    (ml : mg "len" = none) (mli : mg "list" = none) : FnOk P w K mg base CX0 4 f fd ["state", "deed"] (spBent K) := by
  refine F.ok scBe (fun vs H Q E h => ?_) (fun cdv A outer s H vs Q E hr h => ?_)
  · obtain ⟨a, w, c, p, T, xs, rfl, _⟩ := h
    rfl
  · obtain ⟨a, w, c, p, T, xs, rfl, hSt, hT, hp, hxs, hl0, hl1, q⟩ := h
    refine ⟨_, pss_cons (ps_set (i := 2) scBe.nd rfl (.inl rfl) (pe_call GD (hr.mono (by decide)) (by rfl) gD FD.kp bD .nil pass0 (pa_cons (pv 0) (pa_cons (pe_callB call_len_seq (by rfl) ml PySem.boot_len (pa_cons (pv 1) pa_nil)) pa_nil))))
      (pss_cons (ps_set (i := 3) scBe.nd rfl (.inl rfl) (pe_call GP hr (by rfl) gP FP.kp bP .nil pass0 (pa_cons (pv 0) (pa_cons (pe_lst (pa_cons pe_non (pa_cons pe_int (pa_cons pe_int (pa_cons pe_bl (pa_cons pe_str (pa_cons pe_str (pa_cons pe_str (pa_cons pe_str (pa_cons pe_str
          (pa_cons (pe_lst (pa_cons pe_str pa_nil)) (pa_cons pe_str (pa_cons pe_int (pa_cons pe_int (pa_cons pe_str (pa_cons pe_str pa_nil)))))))))))))))) pa_nil))))
      (pss_cons (ps_set (i := 4) scBe.nd rfl (.inl rfl) (pe_call GD (hr.mono (by decide)) (by rfl) gD FD.kp bD .nil pass0 (pa_cons (pv 0) (pa_cons pe_int pa_nil))))
      (pss_cons (ps_if (pt_cmpR op_eq (pv 4) pe_int (nomark _)) (pss_one (ps_ret (pe_op op_catW (pe_slice sl_tupW (pv 1) po_none (po_some (pv 2))) (pe_slice sl_tupW (pv 1) (po_some (pe_op op_add (pv 2) pe_int)) po_none)))) pss_nil)
      (pss_cons (ps_if (pt_cmpR op_eq (pv 4) pe_int (nomark _)) (pss_one (ps_ret (pe_op op_catW (pe_op op_catW (pe_slice sl_tupW (pv 1) po_none (po_some (pv 2))) (pe_tup (pa_cons (pv 3) pa_nil))) (pe_slice sl_tupW (pv 1) (po_some (pv 2)) po_none)))) pss_nil)
      (pss_one (ps_ret (pe_ifExp (pt_cmpR op_eq (pv 4) pe_int (nomark _)) (pe_op op_catW (pe_op op_catW (pe_slice sl_tupW (pv 1) po_none (po_some (pv 2))) (pe_tup (pa_cons (pv 3) pa_nil))) (pe_slice sl_tupW (pv 1) (po_some (pe_op op_add (pv 2) pe_int)) po_none))
        (pe_callTy call_list_of (by rfl) mli (by decide +kernel) (pa_cons (pv 1) pa_nil))))))))), ?_⟩
    refine ⟨_, rfl, _, rfl, p, xs, rfl, .inr hp, a, w, c, T, _, rfl, hSt, by omega, by omega, pow1000 (by omega), fun H1 d h0 h1 k1 s1 => ?_⟩
    obtain ⟨j, rfl⟩ : ∃ j : Nat, d = (j : Int) := ⟨d.toNat, by omega⟩
    have hj : j < xs.length := by omega
    have hx1 : ∀ x ∈ xs, ItV H1 x := fun x hx => ItV.kept (hxs x hx) hSt k1
    have hp1 := TK.kept hSt k1 _ _ hp
    refine ⟨_, rfl, by show 1 ≤ sizeLine; decide, fun l nl => ⟨by show 15 ≤ sizeLine; decide, fun L nL => ?_⟩⟩
    have ol := St.off s1 nl
    have s2 := St.put (o := .lst [.str "a"]) s1 ol
    have oL := St.off s2 nL
    have s3 := St.put (o := .lst (oddL l)) s2 oL
    have S12 : Same H1 (upd (upd H1 l (.lst [.str "a"])) L (.lst (oddL l))) := (same_upd nl).trans (same_upd nL)
    have hl3 : (upd (upd H1 l (.lst [.str "a"])) L (.lst (oddL l))) l = some (.lst [.str "a"]) := (same_upd nL) _ _ upd_same
    refine ⟨a, w, c, L, T + 1, oddL l, rfl, s3, by omega, .inl (.inl upd_same), oL.1, oL.2.1, by show 0 < 15; decide, by show 15 ≤ 1000; decide, fun H2 odd hodd k2 s4 => ?_⟩
    have hod : ItV (upd (upd H1 l (.lst [.str "a"])) L (.lst (oddL l))) odd := by
      rcases odd_atom hodd with h | rfl
      · exact .atom h
      · exact .lst hl3
    have hod2 := ItV.kept hod s3 k2
    have hx2 : ∀ x ∈ xs, ItV H2 x := fun x hx => ItV.kept ((hx1 x hx).same S12) s3 k2
    have hp2 : SqT K H2 p xs := TK.kept s3 k2 _ _ (sqT_same hp1 S12)
    refine ⟨_, rfl, a, w, c, T + 1 + 1, 4, rfl, s4, by omega, by decide, pow1000 (n := 4) (by decide), fun H3 way w0 w1 k3 s5 => ?_⟩
    have kA : Kept a w H H3 := k1.trans ((Kept.of S12).trans (k2.trans k3))
    have hod3 := ItV.kept hod2 s4 k3
    have hx3 : ∀ x ∈ xs, ItV H3 x := fun x hx => ItV.kept (hx2 x hx) s4 k3
    have hp3 : SqT K H3 p xs := TK.kept s4 k3 _ _ hp2
    have fin : ∀ H' r ys, Same H3 H' → SqT K H' r ys → (∀ y ∈ ys, y = odd ∨ y ∈ xs) → ys.length ≤ 60 → Q (.ref r) H' := fun H' r ys S hr hy l => by
      refine q H' (.ref r) (some ys) (kA.trans (Kept.of S)) (St.same s5 S) (.inl ⟨r, ys, rfl, hr, fun y hm => ?_, by omega, rfl⟩)
      rcases hy y hm with rfl | hm
      · exact hod3.same S
      · exact (hx3 y hm).same S
    have ct : ∀ (n : Nat), n ≤ xs.length → cutV xs none (some (n : Int)) = xs.take n := fun n h => cut_take xs n h
    have cd : ∀ (n : Nat), n ≤ xs.length → cutV xs (some (n : Int)) none = xs.drop n := fun n h => cut_drop xs n h
    have big : ∀ n m : Nat, n ≤ 40 → m ≤ 40 → n + m ≤ sizeLine := fun n m h1 h2 => Nat.le_of_lt (small1000 (by omega))
    have lt : (xs.take j).length ≤ 20 := by rw [List.length_take]; omega
    have ld : ∀ n, (xs.drop n).length ≤ 20 := fun n => by rw [List.length_drop]; omega
    refine ⟨_, rfl, rfl, _, rfl, ite2 (fun _ => ?_) (fun _ => ?_)⟩
    · refine ⟨_, rfl, _, rfl, _, rfl, p, xs, rfl, hp3, fun H4 r S4 hr4 => ?_⟩
      rw [ct j (by omega)] at hr4
      refine ⟨_, rfl, _, rfl, _, _, rfl, rfl, _, rfl, p, xs, rfl, sqT_same hp3 S4, fun H5 r2 S5 hr5 => ?_⟩
      rw [show ((j : Int) + 1) = ((j + 1 : Nat) : Int) by omega, cd (j + 1) (by omega)] at hr5
      refine ⟨r, r2, _, _, rfl, rfl, sqT_same hr4 S5, hr5, big _ _ (by omega) (by have := ld (j + 1); omega), fun H6 r3 S6 hr6 => ?_⟩
      refine fin H6 r3 _ (S4.trans (S5.trans S6)) hr6 (fun y hy => .inr ?_) (by rw [List.length_append]; have := ld (j + 1); omega)
      rcases List.mem_append.mp hy with h | h
      · exact List.mem_of_mem_take h
      · exact List.mem_of_mem_drop h
    · refine ⟨_, rfl, rfl, _, rfl, ite2 (fun _ => ?_) (fun _ => ?_)⟩
      · refine ⟨_, rfl, _, rfl, _, rfl, p, xs, rfl, hp3, fun H4 r S4 hr4 => ?_⟩
        rw [ct j (by omega)] at hr4
        refine ⟨_, rfl, by show 1 ≤ sizeLine; decide, fun o no => ?_⟩
        have S5 := same_upd (o := .tup [odd]) no
        refine ⟨r, o, _, _, rfl, rfl, sqT_same hr4 S5, .inl (.inl upd_same), big _ _ (by omega) (by show 1 ≤ 40; decide), fun H6 r3 S6 hr6 => ?_⟩
        refine ⟨_, rfl, _, rfl, _, rfl, p, xs, rfl, sqT_same hp3 (S4.trans (S5.trans S6)), fun H7 r4 S7 hr7 => ?_⟩
        rw [cd j (by omega)] at hr7
        have l1 : (xs.take j ++ [odd]).length ≤ 21 := by rw [List.length_append, List.length_singleton]; omega
        refine ⟨r3, r4, _, _, rfl, rfl, sqT_same hr6 S7, hr7, big _ _ (by omega) (by have := ld j; omega), fun H8 r5 S8 hr8 => ?_⟩
        refine fin H8 r5 _ (S4.trans (S5.trans (S6.trans (S7.trans S8)))) hr8 (fun y hy => ?_) (by rw [List.length_append]; have := ld j; omega)
        rcases List.mem_append.mp hy with h | h
        · rcases List.mem_append.mp h with h | h
          · exact .inr (List.mem_of_mem_take h)
          · exact .inl (List.mem_singleton.mp h)
        · exact .inr (List.mem_of_mem_drop h)
      · refine ⟨_, rfl, rfl, _, rfl, ite2 (fun _ => ?_) (fun _ => ?_)⟩
        · refine ⟨_, rfl, _, rfl, _, rfl, p, xs, rfl, hp3, fun H4 r S4 hr4 => ?_⟩
          rw [ct j (by omega)] at hr4
          refine ⟨_, rfl, by show 1 ≤ sizeLine; decide, fun o no => ?_⟩
          have S5 := same_upd (o := .tup [odd]) no
          refine ⟨r, o, _, _, rfl, rfl, sqT_same hr4 S5, .inl (.inl upd_same), big _ _ (by omega) (by show 1 ≤ 40; decide), fun H6 r3 S6 hr6 => ?_⟩
          refine ⟨_, rfl, _, rfl, _, _, rfl, rfl, _, rfl, p, xs, rfl, sqT_same hp3 (S4.trans (S5.trans S6)), fun H7 r4 S7 hr7 => ?_⟩
          rw [show ((j : Int) + 1) = ((j + 1 : Nat) : Int) by omega, cd (j + 1) (by omega)] at hr7
          have l1 : (xs.take j ++ [odd]).length ≤ 21 := by rw [List.length_append, List.length_singleton]; omega
          refine ⟨r3, r4, _, _, rfl, rfl, sqT_same hr6 S7, hr7, big _ _ (by omega) (by have := ld (j + 1); omega), fun H8 r5 S8 hr8 => ?_⟩
          refine fin H8 r5 _ (S4.trans (S5.trans (S6.trans (S7.trans S8)))) hr8 (fun y hy => ?_) (by rw [List.length_append]; have := ld (j + 1); omega)
          rcases List.mem_append.mp hy with h | h
          · rcases List.mem_append.mp h with h | h
            · exact .inr (List.mem_of_mem_take h)
            · exact .inl (List.mem_singleton.mp h)
          · exact .inr (List.mem_of_mem_drop h)
        · refine ⟨_, rfl, p, xs, rfl, .inr hp3, fun m nm => ?_⟩
          have om := St.off s5 nm
          exact q _ (.ref m) none (kA.trans (Kept.of (same_upd nm))) (St.put s5 om) (.inr ⟨.lst upd_same, rfl⟩)
end
end Z57

set_option Elab.async false
set_option linter.all false
set_option maxRecDepth 100000
set_option maxHeartbeats 2000000
namespace Z58
open PySem PySem.Spec PyProof.Rows L2 Cau RepG Dr14 Z1 Z2 Z3 Z4 ZE Z5 Z6 Z7 Z8 Z9 ZN5 ZN6 ZN7 ZN8 ZN10 ZN11 ZN12 ZN13 ZN21 ZN22 ZN25 Z50 Z51 Z52 Z53 Z54 Z55 Z56 Z57 TxtSet
abbrev sDrawDue : Stmt := topS 161
theorem it_text {H : Hp} {s : Str} (h : ItV H (.str s)) : PyData.strOk s = true := by
  cases h with
  | atom h =>
    have h' : (decide (s.length ≤ 4000) && PyData.strOk s) = true := h
    rw [Bool.and_eq_true] at h'
    exact h'.2
section
variable {P : Program} {w : World} {K : PySem.W.Frag} {mg : Str → Option Value} {base : Heap}
def dueN : List Str := ["value", "known", "step", "name"]
theorem scDu : FnScope dueN ["value"] (defScope sDrawDue) := ⟨rfl, rfl, rfl, by decide +kernel, rfl, by decide +kernel, by decide +kernel⟩
theorem ok_drdue {f fN fF fD : Addr} {fd fdN fdF fdD : FuncData} (F : Fun K "_law_is_drawing_due" "_law_is_drawing_due" sDrawDue f fd) (FN : Fun K "_law_is_name_due" "_law_is_name_due" sLName fN fdN) (GN : FnOk P w K mg base CX0 1 fN fdN ["value"] (spName K)) (bN : Binds K fdN ["value"] []) (gN : mg "_law_is_name_due" = some (.ref fN))
    (FF : Fun K "_law_forms" "_law_forms" sForms fF fdF) (GF : FnOk P w K mg base CX0 1 fF fdF [] spForms) (bF : Binds K fdF [] []) (gF : mg "_law_forms" = some (.ref fF))
    (FD : Fun K "_law_is_deed_due" "_law_is_deed_due" sDeedDue fD fdD) (GD : FnG P w K mg base CX0 2 fD fdD ["value"] (spDeed K)) (bD : Binds K fdD ["value"] []) (gD : mg "_law_is_deed_due" = some (.ref fD))
    (mi : mg "isinstance" = none) (mt : mg "tuple" = none) (mli : mg "list" = none) (ml : mg "len" = none) : FnG P w K mg base CX0 3 f fd ["value"] (spDrawing K) := by
  refine okG F scDu (fun vs H Q E h => ?_) (fun cdv A outer s H vs Q E g hr h => ?_)
  · obtain ⟨x, o, rfl, _⟩ := h
    rfl
  · obtain ⟨x, o, rfl, hx, q⟩ := h
    have hu := hu_of (hr.mono (Nat.zero_le _) : Room 0 _)
    refine ⟨_, pss_cons (ps_if (pt_not (pt_val (pe_callB call_isiT (by rfl) mi (by decide +kernel) (pa_cons (pv 0) (pa_cons (pe_tup (pa_cons (pe_bltn (v := .ty "list") (by rfl) mli (by decide +kernel) rfl) (pa_cons (pe_bltn (v := .ty "tuple") (by rfl) mt (by decide +kernel) rfl) pa_nil))) pa_nil))))) (pss_one (ps_ret pe_bl)) pss_nil)
      (pss_cons (ps_set (i := 1) scDu.nd rfl (.inr rfl) (pe_lst (pa_cons pe_str (pa_cons pe_str (pa_cons pe_str (pa_cons pe_str (pa_cons pe_str pa_nil)))))))
      (pss_cons (ps_for PassesOwn.never rfl (pi_seq (pv 0)) (pg_name (i := 2) scDu.nd rfl (.inl rfl))
        (pss_cons (ps_if (PW.pt (pw_or (pt_not (pt_val (pe_callB call_isi (by rfl) mi (by decide +kernel) (pa_cons (pv 2) (pa_cons (pe_bltn (v := .ty "tuple") (by rfl) mt (by decide +kernel) rfl) pa_nil)))))
            (pw_or (pt_cmpR op_ne (pe_callB call_len_seq (by rfl) ml PySem.boot_len (pa_cons (pv 2) pa_nil)) pe_int (nomark _))
            (pw_or (pt_not (pt_val (pe_call GN (hr.mono (by decide)) (by rfl) gN FN.kp bN .nil pass0 (pa_cons (pe_ix ix_tup (pv 2) pe_int (fun _ _ => rfl)) pa_nil))))
            (pw_or1 (pt_cmpR op_in_seq (pe_ix ix_tup (pv 2) pe_int (fun _ _ => rfl)) (pv 1) (by rfl))))))) (pss_one (ps_ret pe_bl)) pss_nil)
        (pss_cons (ps_if (pt_not (pt_val (pe_callG GD g hr (by rfl) gD FD.kp bD pass0 (pa_cons (pe_ix ix_tup (pv 2) pe_int (fun _ _ => rfl)) pa_nil)))) (pss_one (ps_ret pe_bl)) pss_nil)
        (pss_cons (ps_if (pt_cmpR (op_neD hr.units)
            (pe_lc (own := [("name", 3)]) (g := gName 3) rfl scDu.nd (pi_tup (pe_slice sl_tup (pe_ix ix_tup (pv 2) pe_int (fun _ _ => rfl)) (po_some pe_int) (po_some (pe_op op_add pe_int (pe_dget hu (pe_call0 GF (hr.mono (by decide)) (by rfl) gF FF.kp bF .nil pass0) (pe_ix ix_tup (pe_ix ix_tup (pv 2) pe_int (fun _ _ => rfl)) pe_int (fun _ _ => rfl)) (fun _ _ => rfl))))))
              (blkOk_by (own := [("name", 3)]) (N := dueN) (sc := defScope sDrawDue) (by decide +kernel))
              (fun _ _ _ _ _ => pg_name (i := 3) scDu.nd rfl (.inl rfl))
              (fun _ _ _ _ _ => pts_one (pt_cmpR (show OpR _ (compareOp .NotIn) (rIn K true) from op_notIn_seq) (pv 3) (pv 1) (by rfl)))
              (fun _ _ _ _ _ => pv 3)) (pe_lst pa_nil) (by rfl)) (pss_one (ps_ret pe_bl)) pss_nil)
        (pss_one (ps_expr (pe_bm PySem.F.plainAttrs_list PySem.F.slot_list_append PySem.F.type_list_append mt_append (pv 1) (pa_cons (pe_ix ix_tup (pv 2) pe_int (fun _ _ => rfl)) pa_nil)))))))
      ) (pss_one (ps_ret pe_bl)))), ?_⟩
    have q' : ∀ b H', goesO o sheetL = b → Same H H' → Q (.bl b) H' := fun b H' e sm => by
      subst e
      exact q H' sm
    refine ⟨_, rfl, by show 2 ≤ sizeLine; decide, fun t nt => ?_⟩
    have St0 : Same H (upd H t (.tup [.ty "list", .ty "tuple"])) := same_upd nt
    have ht0 : (upd H t (.tup [.ty "list", .ty "tuple"])) t = some (.tup [.ty "list", .ty "tuple"]) := upd_same
    rcases hx with ⟨p, ys, ds, rfl, hq, hl, hl2, hok, rfl⟩ | ⟨hn, rfl⟩
    · obtain ⟨ty, h1, h2⟩ := isi_lt (K := K) (lv_same (.inl ⟨p, ys, rfl, hq, rfl⟩ : Lv K H (.ref p) (some ys)) St0)
      refine ⟨.ref p, t, [.ty "list", .ty "tuple"], ty, [.type "list", .type "tuple"], true, rfl, ht0, .cons (.ty _) (.cons (.ty _) .nil), h1, h2, _, rfl, iteF ?_⟩
      generalize upd H t (.tup [.ty "list", .ty "tuple"]) = G at *
      refine ⟨by show 5 ≤ sizeLine; decide, fun L nL => ?_⟩
      have nL0 : H L = none := PySem.Spec.same_none St0 nL
      have S1 : Same H (upd G L (.lst (sheetL.map V.str))) := St0.trans (same_upd nL)
      refine ⟨_, rfl, p, ys, rfl, seq_of hq S1 fun J G' wk hG => for_it wk (fun i σ H' => ∃ (y2 y3 : Option V) (kn : List Str), σ = [some (.ref p), some (.ref L), y2, y3] ∧ H' L = some (.lst (kn.map V.str)) ∧ kn.length ≤ 5 + i ∧ Same H H' ∧ goesB ds sheetL = goesB (ds.drop i) kn)
        ⟨none, none, sheetL, rfl, upd_same, Nat.le_refl _, S1, rfl⟩ (fun i σ H' _ ⟨_, _, _, _, _, _, sm, _⟩ => hG _ sm) ?_ ?_⟩
      · rintro i y σ H3o H3 hi ⟨y2, y3, kn, rfl, hL, hkl, sm, hg⟩ ⟨rfl, hy⟩
        have hid : i < ds.length := by omega
        have hd : ds[i]? = some ds[i] := List.getElem?_eq_getElem hid
        have hdr : ds.drop i = ds[i] :: ds.drop (i + 1) := List.drop_eq_getElem_cons hid
        have sd := (hok i y _ hy hd).same sm
        rw [hdr] at hg
        have no : stepB ds[i] kn = none → goesO (some ds) sheetL = false := fun z => by
          show goesB ds sheetL = false
          rw [hg]
          unfold goesB
          rw [z]
        generalize ds[i] = d0 at sd hg no
        have ret : stepB d0 kn = none → ∀ H', Same H H' → Q (.bl false) H' := fun z H' sm' => q' _ _ (no z) sm'
        cases d0 with
        | bad =>
          rcases sd with h | ⟨yp, xs, rfl, h, h2⟩
          · obtain ⟨t', ht', hb'⟩ := h.ty (K := K)
            exact ⟨_, rfl, y, .ty "tuple", .type t', .type "tuple", false, rfl, .ty _, ht', kit_ty hb', false, rfl, iteT (ret rfl _ sm)⟩
          · refine ⟨_, rfl, .ref yp, .ty "tuple", .type "tuple", .type "tuple", true, rfl, .ty _, sqT_ty h, kit_ty (by decide +kernel), true, rfl, iteF ?_⟩
            refine ⟨_, rfl, yp, _, rfl, .inr h, rfl, _, rfl, iteT2 ?_ (ret rfl _ sm)⟩
            have : ¬ (V.int (xs.length : Int) = V.int 2) := fun e => h2 (by have := V.int.inj e; omega)
            rw [decide_eq_false this]
            rfl
        | pair n d =>
          obtain ⟨yp, z, rfl, h, ha, dd⟩ := sd
          refine ⟨_, rfl, .ref yp, .ty "tuple", .type "tuple", .type "tuple", true, rfl, .ty _, sqT_ty h, kit_ty (by decide +kernel), true, rfl, iteF ?_⟩
          refine ⟨_, rfl, yp, _, rfl, .inr h, rfl, _, rfl, iteF2 rfl ?_⟩
          refine ⟨_, rfl, yp, _, 0, n, rfl, rfl, h, atI_nat (j := 0) rfl, n, txtOf n, rfl, tx_atom ha, fun H4 sm4 => ⟨_, rfl, ?_⟩⟩
          cases hn : nameO (txtOf n) with
          | false => exact iteT (ret (step_name hn d kn) _ (sm.trans sm4))
          | true =>
            obtain ⟨s, rfl⟩ : ∃ s, n = .str s := by
              cases n with
              | str s => exact ⟨s, rfl⟩
              | _ => cases hn
            have hns' : nameS s = true := hn
            refine iteF ?_
            have h4 := sqT_same h sm4
            have hL4 := sm4 _ _ hL
            refine ⟨_, rfl, yp, _, 0, _, rfl, rfl, h4, atI_nat (j := 0) rfl, _, rfl, L, _, rfl, .inl (.inl (.inl hL4)), rfl, strs_flat _, _, rfl, ?_⟩
            rw [inV_kn]
            by_cases hsk : s ∈ kn
            · refine iteT2 (decide_eq_true hsk) (ret ?_ _ (sm.trans sm4))
              cases d with
              | none => rfl
              | some xs =>
                rw [step_str]
                simp [hsk]
            · refine iteF2 (decide_eq_false hsk) ?_
              refine ⟨_, rfl, yp, _, 1, z, rfl, rfl, h4, atI_nat (j := 1) rfl, z, d, rfl, dd.same sm4, fun H5 sm5 => ⟨_, rfl, ?_⟩⟩
              have h5 := sqT_same h4 sm5
              have S5 : Same H3 H5 := sm4.trans sm5
              cases hdd : deedO d with
              | false =>
                refine iteT (ret ?_ _ (sm.trans S5))
                cases d with
                | none => rfl
                | some xs =>
                  have hdl : deedL xs = false := hdd
                  rw [step_str, hdl]
                  simp
              | true =>
                refine iteF ?_
                cases d with
                | none => cases hdd
                | some xs =>
                  have hdl : deedL xs = true := hdd
                  obtain ⟨zp, rfl, hz, hat, _⟩ := deed_at dd
                  obtain ⟨w0, r, k, rfl, hf, hall⟩ := deed_shape hdl
                  obtain ⟨hk2, hk5⟩ := formOf_small hf
                  have at1 : atI [V.str s, V.ref zp] 1 = some (.ref zp) := atI_nat (j := 1) rfl
                  refine ⟨_, rfl, yp, _, 1, _, rfl, rfl, h5, at1, _, rfl, rfl, fun d2 nd2 => ?_⟩
                  have S6 : Same H3 (upd H5 d2 (.dK formsD)) := S5.trans (same_upd nd2)
                  have h6 := sqT_same h S6
                  have hz6 := sqT_same hz S6
                  have g2 : DGet (upd H5 d2 (.dK formsD)) d2 (.str w0) (some (.int (k : Nat))) := by
                    have e : valV formsD (.inr w0) = some (.int (k : Nat)) := by rw [forms_get, hf]; rfl
                    exact e ▸ DGet.k (k := (.inr w0 : Key)) upd_same
                  refine ⟨_, rfl, yp, _, 1, _, rfl, rfl, h6, at1, zp, _, 0, _, rfl, rfl, hz6, atI_nat (j := 0) rfl, d2, .int k, rfl, g2, 1, (k : Int), rfl, rfl, _, rfl, zp, _, rfl, hz6, not_whole _ _ _, fun sp nsp => ?_⟩
                  rw [cut_1']
                  have S7 : Same H3 (upd (upd H5 d2 (.dK formsD)) sp (.tup (r.take k))) := S6.trans (same_upd nsp)
                  refine ⟨sp, rfl, ⟨_, .inl (.inl upd_same)⟩, fun D nD => ?_⟩
                  have hsp : SqT K (upd (upd H5 d2 (.dK formsD)) sp (.tup (r.take k))) sp (r.take k) := .inl (.inl upd_same)
                  have hsp' : (upd (upd H5 d2 (.dK formsD)) sp (.tup (r.take k))) sp = some (.tup (r.take k)) := upd_same
                  generalize upd (upd H5 d2 (.dK formsD)) sp (.tup (r.take k)) = G7 at *
                  have et := texts_of hall
                  refine lc_it (walk_tup (K := K) (a := sp) (xs := r.take k)) (fun i H1 => ∃ bs : List Str, H1 D = some (.lst (bs.map V.str)) ∧ bs = (((r.take k).take i).filterMap txtOf).filter (fun u => !decide (u ∈ kn)) ∧ bs.length ≤ i ∧ Same G7 H1) ⟨[], upd_same, rfl, Nat.le_refl _, same_upd nD⟩ ?_ ?_ ?_
                  · rintro i H1 _ ⟨bs, _, _, _, sm⟩
                    exact .inl (.inl (sm _ _ hsp'))
                  · rintro i x H6 H7 hi ⟨bs, hD, hbs, hbl, sm6⟩ ⟨rfl, hx⟩
                    have hxn : nameV x = true := List.all_eq_true.mp hall x (List.mem_of_getElem? hx)
                    obtain ⟨u, rfl⟩ : ∃ u, x = .str u := by
                      cases x with
                      | str u => exact ⟨u, rfl⟩
                      | _ => cases hxn
                    have hi' : i < (r.take k).length := hi
                    rw [List.length_take] at hi'
                    have step : (((r.take k).take (i + 1)).filterMap txtOf).filter (fun u => !decide (u ∈ kn)) = bs ++ (if u ∈ kn then [] else [u]) := by
                      rw [hbs, List.take_succ, hx, List.filterMap_append, List.filter_append]
                      by_cases hu : u ∈ kn <;> simp [hu, txtOf]
                    refine ⟨rfl, _, rfl, _, rfl, L, _, rfl, .inl (.inl (.inl (sm6 _ _ (S7 _ _ hL)))), rfl, strs_flat _, _, rfl, ?_⟩
                    show if (!inV (.str u) (kn.map V.str)) = true then _ else _
                    rw [inV_kn]
                    by_cases hu : u ∈ kn
                    · rw [if_pos hu, List.append_nil] at step
                      exact iteF2 (by rw [decide_eq_true hu]; rfl) ⟨bs, hD, step.symm, Nat.le_succ_of_le hbl, sm6⟩
                    · rw [if_neg hu] at step
                      refine iteT2 (by rw [decide_eq_false hu]; rfl) ⟨_, rfl, _, hD, ?_, bs ++ [u], by rw [upd_same, List.map_append]; rfl, step.symm, by rw [List.length_append, List.length_singleton]; omega, same_put sm6 nD⟩
                      rw [List.length_map]
                      exact small1000 (by omega)
                  · rintro H6 ⟨bs, hD, hbs, hbl, sm6⟩
                    rw [List.take_length] at hbs
                    have S8 : Same H3 H6 := S7.trans sm6
                    refine ⟨by show 0 ≤ sizeLine; exact Nat.zero_le _, fun l nl => ?_⟩
                    have S9 : Same H3 (upd H6 l (.lst [])) := S8.trans (same_upd nl)
                    have hbok : ∀ b ∈ bs, PyData.strOk b = true := fun b hb => by
                      rw [hbs] at hb
                      have hb2 := (List.mem_filter.mp hb).1
                      have hb3 : V.str b ∈ r.take k := by
                        rw [et]
                        exact List.mem_map.mpr ⟨b, hb2, rfl⟩
                      exact it_text (hat _ (List.mem_cons_of_mem _ (List.mem_of_mem_take hb3)))
                    refine ⟨_, _, dp_strs (.inl (.inl ((same_upd nl) _ _ hD))), dp_nil upd_same, shaped_strs hbok, shaped_nil, _, rfl, ?_⟩
                    rw [eqv_nil]
                    have eall : bs.isEmpty = (namesL (.str w0 :: r)).all fun u => decide (u ∈ kn) := by
                      rw [hbs, names_is hf, Bool.eq_iff_iff, List.isEmpty_iff, List.filter_eq_nil_iff, List.all_eq_true]
                      simp
                    rw [eall]
                    cases e : (namesL (.str w0 :: r)).all fun u => decide (u ∈ kn) with
                    | false =>
                      refine iteT2 rfl (ret ?_ _ (sm.trans S9))
                      rw [step_str, e]
                      simp
                    | true =>
                      refine iteF2 rfl ?_
                      have st : stepB (.pair (.str s) (some (.str w0 :: r))) kn = some s := by
                        rw [step_str, e]
                        simp [hns', hdl, hsk]
                      have hL9 := S9 _ _ hL
                      refine ⟨_, rfl, .inl ⟨rfl, _, .inl (.inl hL9)⟩, _, rfl, yp, _, 0, _, rfl, rfl, sqT_same h S9, atI_nat (j := 0) rfl, L, _, _, rfl, rfl, hL9, by rw [List.length_map]; exact small1000 (by omega), ?_⟩
                      refine ⟨_, _, kn ++ [s], rfl, by rw [upd_same, List.map_append]; rfl, by rw [List.length_append, List.length_singleton]; omega, same_put (sm.trans S9) nL0, ?_⟩
                      rw [hg]
                      show goesB (_ :: _) kn = _
                      conv => lhs; unfold goesB
                      rw [st]
      · rintro σ H3 ⟨y2, y3, kn, rfl, hL, hkl, sm, hg⟩
        refine q' _ _ ?_ sm
        show goesB ds sheetL = true
        rw [hg, hl, List.drop_length]
        rfl
    · obtain ⟨ty, h1, h2⟩ := isi_lt (K := K) (lv_same (.inr ⟨hn, rfl⟩ : Lv K H x none) St0)
      exact ⟨x, t, [.ty "list", .ty "tuple"], ty, [.type "list", .type "tuple"], false, rfl, ht0, .cons (.ty _) (.cons (.ty _) .nil), h1, h2, _, rfl, iteT (q' _ _ rfl St0)⟩
end
end Z58

set_option Elab.async false
set_option linter.all false
set_option maxRecDepth 100000
set_option maxHeartbeats 2000000
namespace Z59
open PySem PySem.Spec PyProof.Rows L2 Cau RepG Dr14 Z1 Z2 Z3 Z4 ZE Z5 Z6 Z7 Z8 Z9 ZN5 ZN6 ZN7 ZN8 ZN10 ZN11 ZN12 ZN13 ZN21 ZN22 ZN25 Z50 Z51 Z52 Z53 Z54 Z55 Z56 Z57 Z58 TxtSet
abbrev sStp : Stmt := topS 162
/-- a list of steps that was drawn -/
def StpAt (K : PySem.W.Frag) (H : Hp) (l : Addr) (st : List St1) : Prop := ∃ ys : List V, H l = some (.lst ys) ∧ ys.length = st.length ∧ ∀ (i : Nat) y p, ys[i]? = some y → st[i]? = some p → SdT K H y p
def spStp (K : PySem.W.Frag) : Sp := fun vs H Q _ => ∃ (a w c p : Addr) (T : Nat) (ws : List Str), vs = [.ref a, .ref p] ∧ St H a w c T ∧ T + 1000 ≤ 1000000 ∧ SqL K H p (ws.map V.str) ∧ p ≠ a ∧ p ≠ w ∧ 0 < ws.length ∧ ws.length ≤ 20 ∧ (∀ z ∈ ws, (formOf z).isSome = true) ∧
  ∀ H' l (st : List St1), H l = none → StpAt K H' l st → st.length ≤ 4 → goesB (st.map sdOf) sheetL = true → (∀ p ∈ st, goodN p.1 = true) → Kept a w H H' → St H' a w c (T + 1000) → (l ≠ a ∧ l ≠ w ∧ l ≠ c) → Q (.ref l) H'
section
variable {P : Program} {w : World} {K : PySem.W.Frag} {mg : Str → Option Value} {base : Heap}
def stpN : List Str := ["state", "words", "known", "found", "spot", "deed", "fresh"]
theorem scStp : FnScope stpN ["state", "words"] (defScope sStp) := ⟨rfl, rfl, rfl, by decide +kernel, rfl, by decide +kernel, by decide +kernel⟩
theorem ok_stp {f fD fP fN fE : Addr} {fd fdD fdP fdN fdE : FuncData} {lN lE : Nat} (F : Fun K "_law_steps" "_law_steps" sStp f fd)
    (FD : Fun K "_law_draw" "_law_draw" sDraw fD fdD) (GD : FnOk P w K mg base CX0 2 fD fdD ["state", "room"] spDraw) (bD : Binds K fdD ["state", "room"] []) (gD : mg "_law_draw" = some (.ref fD))
    (FE : Fun K "_law_deed" "_law_deed" sDrawn fE fdE) (GE : FnOk P w K mg base CX0 4 fE fdE ["state", "word", "names"] (spDrawn K)) (bE : Binds K fdE ["state", "word", "names"] []) (gE : mg "_law_deed" = some (.ref fE))
    (FP : Fun K "_law_pick" "_law_pick" sPick fP fdP) (GP : FnOk P w K mg base CX0 3 fP fdP ["state", "some"] (spPick K)) (bP : Binds K fdP ["state", "some"] []) (gP : mg "_law_pick" = some (.ref fP))
    (FN : Fun K "_law_name" "_law_name" sNm fN fdN) (GN : FnOk P w K mg base CX0 4 fN fdN ["state", "barred"] (spNm K)) (bN : Binds K fdN ["state", "barred"] []) (gN : mg "_law_name" = some (.ref fN))
    (mr : mg "range" = none) : FnOk P w K mg base CX0 5 f fd ["state", "words"] (spStp K) := by
  refine F.ok scStp (fun vs H Q E h => ?_) (fun cdv A outer s H vs Q E hr h => ?_)
  · obtain ⟨a, w, c, p, T, ws, rfl, _⟩ := h
    rfl
  · obtain ⟨a, w, c, p, T, ws, rfl, hSt, hT, hS, npa, npw, hw0, hw1, hws, q⟩ := h
    refine ⟨_, pss_cons (ps_par (i := 2) (j := 3) rfl scStp.nd rfl rfl (by decide) rfl rfl (pa_cons (pe_lst (pa_cons pe_str (pa_cons pe_str (pa_cons pe_str (pa_cons pe_str (pa_cons pe_str pa_nil)))))) (pa_cons (pe_lst pa_nil) pa_nil)) (by rfl))
      (pss_cons (ps_for PassesOwn.never rfl (pi_range1 (by rfl) mr (pa_cons (pe_call GD (hr.mono (by decide)) (by rfl) gD FD.kp bD .nil pass0 (pa_cons (pv 0) (pa_cons pe_int pa_nil))) pa_nil)) (pg_name (i := 4) scStp.nd rfl (.inl rfl))
        (pss_cons (ps_set (i := 5) scStp.nd rfl (.inl rfl) (pe_call GE hr (by rfl) gE FE.kp bE .nil pass0 (pa_cons (pv 0) (pa_cons (pe_call GP (hr.mono (by decide)) (by rfl) gP FP.kp bP .nil pass0 (pa_cons (pv 0) (pa_cons (pv 1) pa_nil))) (pa_cons (pv 2) pa_nil)))))
        (pss_cons (ps_set (i := 6) scStp.nd rfl (.inl rfl) (pe_call GN hr (by rfl) gN FN.kp bN .nil pass0 (pa_cons (pv 0) (pa_cons (pv 2) pa_nil))))
        (pss_cons (ps_expr (pe_bm PySem.F.plainAttrs_list PySem.F.slot_list_append PySem.F.type_list_append mt_append (pv 3) (pa_cons (pe_tup (pa_cons (pv 6) (pa_cons (pv 5) pa_nil))) pa_nil)))
        (pss_one (ps_expr (pe_bm PySem.F.plainAttrs_list PySem.F.slot_list_append PySem.F.type_list_append mt_append (pv 2) (pa_cons (pv 6) pa_nil))))))))
      (pss_one (ps_ret (pv 3)))), ?_⟩
    refine ⟨by show 5 ≤ sizeLine; decide, fun L nL => ⟨Nat.zero_le _, fun Fo nF => ⟨_, _, rfl, ?_⟩⟩⟩
    have oL := St.off hSt nL
    have s1 : St (upd H L (.lst (sheetL.map V.str))) a w c T := St.put hSt oL
    have nF' : (upd H L (.lst (sheetL.map V.str))) Fo = none := nF
    have oF := St.off s1 nF'
    have LF : L ≠ Fo := fun z => by rw [← z, upd_same] at nF'; cases nF'
    have nF0 : H Fo = none := by rwa [upd_ne LF.symm] at nF'
    refine ⟨_, rfl, a, w, c, T, 5, rfl, St.put s1 oF, by omega, by decide, pow1000 (n := 5) (by decide), fun H0 d d0 d1 k0 s0 => ?_⟩
    have hL0 : H0 L = some (.lst (sheetL.map V.str)) := k0 _ _ ((upd_ne LF).trans upd_same) oL.1 oL.2.1
    have hF0 : H0 Fo = some (.lst []) := k0 _ _ upd_same oF.1 oF.2.1
    have kH : Kept a w H H0 := Kept.trans (Kept.put (Kept.put (fun b o e _ _ => e) nL) nF0) k0
    obtain ⟨many, rfl⟩ : ∃ m : Nat, d = (m : Int) := ⟨d.toNat, by omega⟩
    refine ⟨_, rfl, by omega, by omega, for_range (lo := 0) (n := (many : Int).toNat) (fun i σ H' => ∃ (y4 y5 y6 : Option V) (st : List St1) (ys : List V) (T' : Nat), σ = [some (.ref a), some (.ref p), some (.ref L), some (.ref Fo), y4, y5, y6] ∧
        H' L = some (.lst ((sheetL ++ st.map (·.1)).map V.str)) ∧ H' Fo = some (.lst ys) ∧ st.length = i ∧ ys.length = i ∧ (∀ (i : Nat) y p, ys[i]? = some y → st[i]? = some p → SdT K H' y p) ∧ goesB (st.map sdOf) sheetL = true ∧ (∀ p ∈ st, goodN p.1 = true) ∧ Kept a w H H' ∧ St H' a w c T' ∧ T' ≤ T + 1 + 100 * i)
      ⟨none, none, none, [], [], T + 1, rfl, hL0, hF0, rfl, rfl, (fun i y p h => by cases h), rfl, fun p h => absurd h List.not_mem_nil, kH, s0, by omega⟩ ?_ ?_⟩
    · rintro i σ H1 hi ⟨y4, y5, y6, st, ys, T', rfl, hL, hF, hsl, hyl, hst, hg, hgn, k1, s2, hT'⟩
      have hi : i < many := hi
      have hm4 : many ≤ 4 := by omega
      have kgood : ∀ z ∈ sheetL ++ st.map (·.1), goodN z = true := fun z hz => by
        rcases List.mem_append.mp hz with hz | hz
        · exact List.all_eq_true.mp sheet_good z hz
        · obtain ⟨p, hp, rfl⟩ := List.mem_map.mp hz
          exact hgn p hp
      have knl : (sheetL ++ st.map (·.1)).length = 5 + i := by rw [List.length_append, List.length_map, hsl]; rfl
      refine ⟨_, rfl, _, rfl, _, rfl, a, w, c, p, T', ws.map V.str, rfl, s2, by omega, seqL_kept hS k1 npa npw, npa, npw, by rwa [List.length_map], by rw [List.length_map]; omega, fun H3 x hx k3 s4 => ?_⟩
      obtain ⟨w0, hw, rfl⟩ := List.mem_map.mp hx
      obtain ⟨k, hf⟩ := Option.isSome_iff_exists.mp (hws w0 hw)
      have hL3 : H3 L = some (.lst ((sheetL ++ st.map (·.1)).map V.str)) := k3 _ _ hL oL.1 oL.2.1
      refine ⟨_, rfl, a, w, c, L, T' + 1, w0, k, sheetL ++ st.map (·.1), rfl, s4, by omega, hf, .inl (.inl hL3), oL.1, oL.2.1, by omega, by omega, fun z hz => (good_name (kgood z hz)).2.1, fun H5 qd us way nqd hqd hul hus hway k5 s6 oqd => ?_⟩
      have K15 : Kept a w H1 H5 := k3.trans k5
      have hL5 : H5 L = some (.lst ((sheetL ++ st.map (·.1)).map V.str)) := K15 _ _ hL oL.1 oL.2.1
      refine ⟨_, rfl, _, rfl, a, w, c, L, _, sheetL ++ st.map (·.1), rfl, s6, by omega, .inl (.inl hL5), oL.1, oL.2.1, by omega, fun H6 z hz hz1 hz2 k6 s7 => ?_⟩
      have K16 : Kept a w H1 H6 := K15.trans k6
      have hL6 : H6 L = some (.lst ((sheetL ++ st.map (·.1)).map V.str)) := K16 _ _ hL oL.1 oL.2.1
      have hF6 : H6 Fo = some (.lst ys) := K16 _ _ hF oF.1 oF.2.1
      have hqd6 : SqT K H6 qd (.str w0 :: (us.map V.str ++ way)) := seqT_kept (.inl (.inl hqd)) k6 oqd.1 oqd.2.1
      refine ⟨_, rfl, .inl ⟨rfl, _, .inl (.inl hF6)⟩, _, rfl, _, rfl, by show 2 ≤ sizeLine; decide, fun t nt => ?_⟩
      have tL : L ≠ t := ne_of_none hL6 nt
      have tF : Fo ≠ t := ne_of_none hF6 nt
      have ot := St.off s7 nt
      have nt0 : H t = none := kept_none (k1.trans K16) nt ⟨ot.1, ot.2.1⟩
      have hF7 : (upd H6 t (.tup [.str z, .ref qd])) Fo = some (.lst ys) := (upd_ne tF).trans hF6
      refine ⟨Fo, _, _, rfl, rfl, hF7, small1000 (by omega), ?_⟩
      have hL8 : (upd (upd H6 t (.tup [.str z, .ref qd])) Fo (.lst (ys ++ [.ref t]))) L = some (.lst ((sheetL ++ st.map (·.1)).map V.str)) := (upd_ne LF).trans ((upd_ne tL).trans hL6)
      refine ⟨_, rfl, .inl ⟨rfl, _, .inl (.inl hL8)⟩, _, rfl, L, _, _, rfl, rfl, hL8, by rw [List.length_map]; exact small1000 (by omega), ?_⟩
      have kA : Kept a w H (upd H6 t (.tup [.str z, .ref qd])) := Kept.put (k1.trans K16) nt0
      have tkA : TK K H6 (upd H6 t (.tup [.str z, .ref qd])) := TK.of (same_upd nt)
      have tkB := tkA.trans (TK.put (o := .lst (ys ++ [.ref t])) hF7)
      have tkC := tkB.trans (TK.put (o := .lst ((sheetL ++ st.map (·.1)).map V.str ++ [.str z])) hL8)
      have tk1 : TK K H1 H6 := TK.kept s2 K16
      refine ⟨_, _, _, st ++ [(z, .str w0 :: (us.map V.str ++ way))], ys ++ [.ref t], _, rfl, ?_, (upd_ne LF.symm).trans upd_same, by rw [List.length_append, hsl]; rfl, by rw [List.length_append, hyl]; rfl, ?_, ?_, ?_, Kept.put (Kept.put kA nF0) nL, St.put (St.put (St.put s7 ot) oF) oL, by omega⟩
      · rw [upd_same]
        simp
      · intro j y p hy hp
        by_cases hj : j < i
        · rw [List.getElem?_append_left (by omega)] at hy hp
          exact ((hst j y p hy hp).tk tk1).tk tkC
        · have ej : j = i := by
            have := (List.getElem?_eq_some_iff.mp hy).1
            rw [List.length_append, hyl] at this
            have e1 : ([V.ref t] : List V).length = 1 := rfl
            omega
          subst ej
          rw [List.getElem?_append_right (by omega), hyl, Nat.sub_self] at hy
          rw [List.getElem?_append_right (by omega), hsl, Nat.sub_self] at hp
          cases hy
          cases hp
          refine ⟨t, qd, rfl, ?_, tkC _ _ hqd6, ?_, ?_, good_atom hz⟩
          · exact (TK.put (o := .lst ((sheetL ++ st.map (·.1)).map V.str ++ [.str z])) hL8) _ _ ((TK.put (o := .lst (ys ++ [.ref t])) hF7) _ _ (.inl (.inl upd_same)))
          · rw [List.all_cons, List.all_append, word_atom hf, way_atom hway, List.all_map, Bool.true_and, Bool.and_true, List.all_eq_true]
            exact fun u hu' => good_atom (kgood u (hus u hu'))
          · have e1 := way_len hway
            have e2 := (formOf_small hf).2
            show (V.str w0 :: (us.map V.str ++ way)).length ≤ 100
            rw [List.length_cons, List.length_append, List.length_map, hul]
            omega
      · refine goes_snoc st sheetL _ hg ?_
        show stepB (.pair (.str z) (some (.str w0 :: (us.map V.str ++ way)))) (sheetL ++ st.map (·.1)) = some z
        rw [step_str, if_pos]
        rw [(good_name hz).1, drawn_deed hf hul (fun u hu' => (good_name (kgood u (hus u hu'))).1) hway, decide_eq_false hz1, drawn_names hf hul]
        simp only [Bool.true_and, Bool.not_false, List.all_eq_true, decide_eq_true_eq]
        exact fun u hu' => hus u hu'
      · intro p hp
        rcases List.mem_append.mp hp with hp | hp
        · exact hgn p hp
        · rw [List.mem_singleton.mp hp]
          exact hz
    · rintro σ H1 ⟨y4, y5, y6, st, ys, T', rfl, hL, hF, hsl, hyl, hst, hg, hgn, k1, s2, hT'⟩
      have hsl : st.length = many := hsl
      have hyl : ys.length = many := hyl
      have : ((many : Int).toNat) = many := rfl
      exact ⟨_, rfl, q H1 Fo st nF0 ⟨ys, hF, by omega, hst⟩ (by omega) hg hgn k1 (St.mono s2 (by omega)) oF⟩
end
end Z59

set_option Elab.async false
set_option linter.all false
set_option maxRecDepth 100000
set_option maxHeartbeats 2000000
/-! Steps as data: what repr asks of them. -/
namespace ZN19
open PySem PySem.Spec PyProof.Rows L2 Cau Dr14 Z1 Z2 Z3 Z4 ZN5 ZN6 ZN7 ZN8 ZN10 ZN11 ZN12 ZN13 TxtSet
/-! ### a step's data -/
def deedD (xs : List V) : PyData := .tuple (xs.map atomD)
def stepD (p : St1) : PyData := .tuple [.str p.1, deedD p.2]
theorem dp_step {K : PySem.W.Frag} {H : Hp} {y : V} {p : St1} (h : SdT K H y p) : Dp K H y (stepD p) := by
  obtain ⟨yp, zp, rfl, h1, h2, h3, _⟩ := h
  exact .tup h1 (.cons (.str _) (.cons (.tup h2 (dpAll_atoms _ fun x hx => List.all_eq_true.mp h3 x hx)) .nil))
theorem dpAll_steps {K : PySem.W.Frag} {H : Hp} : ∀ (ys : List V) (st : List St1), ys.length = st.length → (∀ (i : Nat) y p, ys[i]? = some y → st[i]? = some p → SdT K H y p) → DpAll K H ys (st.map stepD)
  | [], [], _, _ => .nil
  | y :: ys, p :: st, hl, h => .cons (dp_step (h 0 y p rfl rfl)) (dpAll_steps ys st (Nat.succ.inj hl) fun i y p a b => h (i + 1) y p a b)
end ZN19

set_option Elab.async false
set_option linter.all false
set_option maxRecDepth 100000
set_option maxHeartbeats 2000000
/-! Lists of drawn steps: what is picked, what is a part. -/
namespace ZN20
open PySem PySem.Spec PyProof.Rows L2 Cau Dr14 Z1 Z2 Z3 Z4 ZN5 ZN6 ZN7 ZN8 ZN10 ZN11 ZN12 ZN13 ZN19 TxtSet
def Sdl (K : PySem.W.Frag) (H : Hp) (ys : List V) (st : List St1) : Prop := ys.length = st.length ∧ ∀ (i : Nat) y p, ys[i]? = some y → st[i]? = some p → SdT K H y p
section
variable {K : PySem.W.Frag} {H H' : Hp}
theorem Sdl.nil : Sdl K H [] [] := ⟨rfl, fun i y p h => by cases h⟩
theorem Sdl.cons {y : V} {p : St1} {ys : List V} {st : List St1} (h : SdT K H y p) (t : Sdl K H ys st) : Sdl K H (y :: ys) (p :: st) := by
  refine ⟨by rw [List.length_cons, List.length_cons, t.1], fun i z q a b => ?_⟩
  cases i with
  | zero => cases a; cases b; exact h
  | succ i => exact t.2 i z q a b
theorem Sdl.head {y : V} {p : St1} {ys : List V} {st : List St1} (h : Sdl K H (y :: ys) (p :: st)) : SdT K H y p := h.2 0 y p rfl rfl
theorem Sdl.tail {y : V} {p : St1} {ys : List V} {st : List St1} (h : Sdl K H (y :: ys) (p :: st)) : Sdl K H ys st := ⟨Nat.succ.inj h.1, fun i z q a b => h.2 (i + 1) z q a b⟩
theorem Sdl.tk {ys : List V} {st : List St1} (h : Sdl K H ys st) (t : TK K H H') : Sdl K H' ys st := ⟨h.1, fun i y p a b => (h.2 i y p a b).tk t⟩
theorem Sdl.data {ys : List V} {st : List St1} (h : Sdl K H ys st) : DpAll K H ys (st.map stepD) := dpAll_steps ys st h.1 h.2
theorem Sdl.lst {a : Addr} {ys : List V} {st : List St1} (h : Sdl K H ys st) (e : SqL K H a ys) : Dp K H (.ref a) (.list (st.map stepD)) := .lst e h.data
theorem Sdl.ok {ys : List V} {st : List St1} (h : Sdl K H ys st) : ∀ (i : Nat) y d, ys[i]? = some y → (st.map sdOf)[i]? = some d → SdOk K H y d := fun i y d a b => by
  rw [List.getElem?_map] at b
  cases e : st[i]? with
  | none => rw [e] at b; cases b
  | some p =>
    rw [e] at b
    cases b
    exact (h.2 i y p a e).ok
/-- as a value of steps -/
theorem Sdl.sv {a : Addr} {ys : List V} {st : List St1} (h : Sdl K H ys st) (e : SqX K H a ys) (l : st.length ≤ 60) : Sv K H (.ref a) (some (st.map sdOf)) :=
  .inl ⟨a, ys, _, rfl, e, by rw [List.length_map]; exact h.1, by have := h.1; omega, h.ok, rfl⟩
end
end ZN20

set_option Elab.async false
set_option linter.all false
set_option maxRecDepth 100000
set_option maxHeartbeats 2000000
/-! What stays where lambdas are made; texts and steps as data. -/
namespace ZN22b
open PySem PySem.Spec PyProof.Rows L2 Cau Dr14 Z1 Z2 Z3 Z4 ZN5 ZN6 ZN7 ZN8 ZN10 ZN11 ZN12 ZN13 ZN19 ZN20 ZN21 ZN22 TxtSet
section
variable {K : PySem.W.Frag} {a w c l p : Addr} {T : Nat} {H H1 H2 H' : Hp} {o : HO} {xs zs : List V} {TT : List (Addr × Str)}
end
/-! ### texts of a list from a place on and up to it -/
/-! ### steps as data -/
theorem canLay_deed {xs : List V} (h : xs.all AtomV = true) : (deedD xs).canLay0 = true := by
  have := canLay_atoms xs fun x hx => List.all_eq_true.mp h x hx
  simpa [deedD, PyData.canLay0] using this
theorem canLay_step {p : St1} (h : p.2.all AtomV = true) (hn : AtomV (.str p.1) = true) : (stepD p).canLay0 = true := by
  have e1 := canLay_deed h
  have e2 := canLay_atom hn
  have e2' : PyData.canLay0 (.str p.1) = true := e2
  show PyData.canLay0 (.tuple [.str p.1, deedD p.2]) = true
  simp only [PyData.canLay0, PyData.canLayAll0, Bool.and_eq_true, Bool.and_true] at e2' ⊢
  exact ⟨e2', e1⟩
theorem depth_deed (xs : List V) : (deedD xs).depth ≤ 1 := by
  show (PyData.tuple (xs.map atomD)).depth ≤ 1
  rw [PyData.depth, depth_atoms]
  exact Nat.le_refl _
theorem depth_step (p : St1) : (stepD p).depth ≤ 2 := by
  have := depth_deed p.2
  show (PyData.tuple [.str p.1, deedD p.2]).depth ≤ 2
  simp only [PyData.depth, PyData.depthAll]
  omega
theorem depth_steps : ∀ st : List St1, PyData.depthAll (st.map stepD) ≤ 2
  | [] => by simp [PyData.depthAll]
  | p :: r => by
    have h1 := depth_step p
    have h2 := depth_steps r
    simp only [List.map_cons, PyData.depthAll]
    omega
theorem shaped_step {p : St1} (h : p.2.all AtomV = true) (hn : AtomV (.str p.1) = true) : SeqAt.shaped (stepD p) = true := by
  unfold SeqAt.shaped
  rw [canLay_step h hn, decide_eq_true (Nat.le_trans (depth_step p) (by decide))]
  rfl
theorem canLay_steps : ∀ st : List St1, (∀ p ∈ st, p.2.all AtomV = true ∧ AtomV (.str p.1) = true) → PyData.canLayAll0 (st.map stepD) = true
  | [], _ => by simp [PyData.canLayAll0]
  | p :: r, h => by
    have h1 := canLay_step (h p List.mem_cons_self).1 (h p List.mem_cons_self).2
    have h2 := canLay_steps r fun q hq => h q (List.mem_cons_of_mem _ hq)
    simp only [List.map_cons, PyData.canLayAll0, Bool.and_eq_true]
    exact ⟨h1, h2⟩
theorem shaped_steps {st : List St1} (h : ∀ p ∈ st, p.2.all AtomV = true ∧ AtomV (.str p.1) = true) : SeqAt.shaped (.list (st.map stepD)) = true := by
  unfold SeqAt.shaped
  have e := canLay_steps st h
  have d := depth_steps st
  have d2 : (PyData.list (st.map stepD)).depth ≤ 64 := by
    rw [PyData.depth]
    omega
  rw [Bool.and_eq_true, decide_eq_true_eq]
  exact ⟨by simpa [PyData.canLay0] using e, d2⟩
theorem Sdl.atoms {K : PySem.W.Frag} {H : Hp} {ys : List V} {st : List St1} (h : Sdl K H ys st) : ∀ p ∈ st, p.2.all AtomV = true ∧ AtomV (.str p.1) = true := fun p hp => by
  obtain ⟨i, hi, e⟩ := List.getElem_of_mem hp
  obtain ⟨_, _, _, _, _, h3, _, h5⟩ := h.2 i _ p (List.getElem?_eq_getElem (h.1 ▸ hi)) (by rw [List.getElem?_eq_getElem hi, e])
  exact ⟨h3, h5⟩
end ZN22b

set_option Elab.async false
set_option linter.all false
set_option maxRecDepth 100000
set_option maxHeartbeats 2000000
namespace Z60
open PySem PySem.Spec PyProof.Rows L2 Cau RepG Dr14 Z1 Z2 Z3 Z4 ZE Z5 Z6 Z7 Z8 Z9 ZN5 ZN6 ZN7 ZN8 ZN10 ZN11 ZN12 ZN13 ZN19 ZN20 ZN21 ZN22 ZN22b ZN25 Z50 Z51 Z52 Z53 Z54 Z55 Z56 Z57 Z58 Z59 TxtSet
abbrev sBSt : Stmt := topS 163
def spBSt (K : PySem.W.Frag) : Sp := fun vs H Q _ => ∃ (a w c l : Addr) (T : Nat) (ys : List V) (st : List St1), vs = [.ref a, .ref l] ∧ St H a w c T ∧ T + 100 ≤ 1000000 ∧ H l = some (.lst ys) ∧ Sdl K H ys st ∧ st.length ≤ 4 ∧ (l ≠ a ∧ l ≠ w) ∧ (∀ p ∈ st, deedL p.2 = true ∧ goodN p.1 = true) ∧
  ∀ H' v o, Kept a w H H' → St H' a w c (T + 100) → Sv K H' v o → Q v H'
/-- as steps, item by item -/
def SdL (K : PySem.W.Frag) (H : Hp) (ys : List V) (ds : List Sd) : Prop := ys.length = ds.length ∧ ∀ (i : Nat) y d, ys[i]? = some y → ds[i]? = some d → SdOk K H y d
theorem SdL.app {K : PySem.W.Frag} {H : Hp} {xs ys : List V} {cs ds : List Sd} (h : SdL K H xs cs) (g : SdL K H ys ds) : SdL K H (xs ++ ys) (cs ++ ds) := by
  refine ⟨by rw [List.length_append, List.length_append, h.1, g.1], fun i y d a b => ?_⟩
  by_cases c : i < xs.length
  · rw [List.getElem?_append_left c] at a
    rw [List.getElem?_append_left (h.1 ▸ c)] at b
    exact h.2 i y d a b
  · rw [List.getElem?_append_right (by omega)] at a
    rw [List.getElem?_append_right (by have := h.1; omega), ← h.1] at b
    exact g.2 _ y d a b
theorem SdL.take {K : PySem.W.Frag} {H : Hp} {xs : List V} {cs : List Sd} (h : SdL K H xs cs) (j : Nat) : SdL K H (xs.take j) (cs.take j) := by
  refine ⟨by rw [List.length_take, List.length_take, h.1], fun i y d a b => ?_⟩
  rw [List.getElem?_take] at a b
  split at a
  · rename_i c
    rw [if_pos c] at b
    exact h.2 i y d a b
  · cases a
theorem SdL.drop {K : PySem.W.Frag} {H : Hp} {xs : List V} {cs : List Sd} (h : SdL K H xs cs) (j : Nat) : SdL K H (xs.drop j) (cs.drop j) := by
  refine ⟨by rw [List.length_drop, List.length_drop, h.1], fun i y d a b => ?_⟩
  rw [List.getElem?_drop] at a b
  exact h.2 _ y d a b
theorem SdL.one {K : PySem.W.Frag} {H : Hp} {y : V} {d : Sd} (h : SdOk K H y d) : SdL K H [y] [d] := ⟨rfl, fun i z e a b => by
  cases i with
  | zero => cases a; cases b; exact h
  | succ i => cases a⟩
theorem SdL.cons {K : PySem.W.Frag} {H : Hp} {y : V} {d : Sd} {xs : List V} {cs : List Sd} (h : SdOk K H y d) (t : SdL K H xs cs) : SdL K H (y :: xs) (d :: cs) := SdL.app (SdL.one h) t
theorem SdL.nil {K : PySem.W.Frag} {H : Hp} : SdL K H [] [] := ⟨rfl, fun i z e a b => by cases a⟩
theorem SdL.sv {K : PySem.W.Frag} {H : Hp} {p : Addr} {xs : List V} {cs : List Sd} (h : SdL K H xs cs) (e : SqX K H p xs) (l : xs.length ≤ 200) : Sv K H (.ref p) (some cs) := .inl ⟨p, xs, cs, rfl, e, h.1, l, h.2, rfl⟩
section
variable {P : Program} {w : World} {K : PySem.W.Frag} {mg : Str → Option Value} {base : Heap}
def bstN : List Str := ["state", "steps", "at", "name", "deed", "way", "last", "other", "some"]
theorem scBS : FnScope bstN ["state", "steps"] (defScope sBSt) := ⟨rfl, rfl, rfl, by decide +kernel, rfl, by decide +kernel, by decide +kernel⟩
theorem ok_bst {f fD fP fB : Addr} {fd fdD fdP fdB : FuncData} (F : Fun K "_law_bent_steps" "_law_bent_steps" sBSt f fd)
    (FD : Fun K "_law_draw" "_law_draw" sDraw fD fdD) (GD : FnOk P w K mg base CX0 2 fD fdD ["state", "room"] spDraw) (bD : Binds K fdD ["state", "room"] []) (gD : mg "_law_draw" = some (.ref fD))
    (FP : Fun K "_law_pick" "_law_pick" sPick fP fdP) (GP : FnOk P w K mg base CX0 3 fP fdP ["state", "some"] (spPick K)) (bP : Binds K fdP ["state", "some"] []) (gP : mg "_law_pick" = some (.ref fP))
    (FB : Fun K "_law_bent" "_law_bent" sBent fB fdB) (GB : FnOk P w K mg base CX0 4 fB fdB ["state", "deed"] (spBent K)) (bB : Binds K fdB ["state", "deed"] []) (gB : mg "_law_bent" = some (.ref fB))
    (ml : mg "len" = none) : FnOk P w K mg base CX0 5 f fd ["state", "steps"] (spBSt K) := by
  refine F.ok scBS (fun vs H Q E h => ?_) (fun cdv A outer s H vs Q E hr h => ?_)
  · obtain ⟨a, w, c, l, T, ys, st, rfl, _⟩ := h
    rfl
  · obtain ⟨a, w, c, l, T, ys, st, rfl, hSt, hT, hl, hsd, hsl, ol, hst, q⟩ := h
    have hr3 : Room 3 _ := hr.mono (by decide)
    have hr2 : Room 2 _ := hr.mono (by decide)
    refine ⟨_, pss_cons (ps_if (pt_cmpR (op_eqD hr.units) (pv 1) (pe_lst pa_nil) (by rfl))
        (pss_one (ps_ret (pe_call GP hr3 (by rfl) gP FP.kp bP .nil pass0 (pa_cons (pv 0) (pa_cons (pe_lst (pa_cons pe_non (pa_cons pe_dnewK (pa_cons pe_str (pa_cons (pe_lst (pa_cons pe_non pa_nil)) (pa_cons (pe_lst (pa_cons (pe_tup pa_nil) pa_nil)) (pa_cons (pe_lst (pa_cons (pe_tup (pa_cons pe_str pa_nil)) pa_nil)) (pa_cons (pe_tup pa_nil) pa_nil)))))))) pa_nil))))) pss_nil)
      (pss_cons (ps_set (i := 2) scBS.nd rfl (.inl rfl) (pe_call GD hr2 (by rfl) gD FD.kp bD .nil pass0 (pa_cons (pv 0) (pa_cons (pe_callB call_len_seq (by rfl) ml PySem.boot_len (pa_cons (pv 1) pa_nil)) pa_nil))))
      (pss_cons (ps_asg (pe_ix ix_list (pv 1) (pv 2) (fun _ _ => rfl)) (pg_tup (by rfl) (pgs_cons (pg_name (i := 3) scBS.nd rfl (.inl rfl)) (pgs_cons (pg_name (i := 4) scBS.nd rfl (.inl rfl)) pgs_nil))))
      (pss_cons (ps_set (i := 5) scBS.nd rfl (.inl rfl) (pe_call GD hr2 (by rfl) gD FD.kp bD .nil pass0 (pa_cons (pv 0) (pa_cons pe_int pa_nil))))
      (pss_cons (ps_set (i := 6) scBS.nd rfl (.inl rfl) (pe_ix ix_tup (pe_ix ix_list (pv 1) (pe_op op_sub (pe_callB call_len_seq (by rfl) ml PySem.boot_len (pa_cons (pv 1) pa_nil)) pe_int) (fun _ _ => rfl)) pe_int (fun _ _ => rfl)))
      (pss_cons (ps_set (i := 7) scBS.nd rfl (.inl rfl) (pe_call GP hr3 (by rfl) gP FP.kp bP .nil pass0 (pa_cons (pv 0) (pa_cons (pe_lst (pa_cons pe_str (pa_cons pe_str (pa_cons pe_str (pa_cons pe_str (pa_cons pe_non (pa_cons (pe_ix ix_tup (pe_ix ix_list (pv 1) pe_int (fun _ _ => rfl)) pe_int (fun _ _ => rfl)) pa_nil))))))) pa_nil))))
      (pss_cons (ps_set (i := 8) scBS.nd rfl (.inl rfl) (pe_lst (pa_cons (pe_tup (pa_cons (pv 7) (pa_cons (pv 4) pa_nil))) (pa_cons (pe_lst (pa_cons (pv 3) (pa_cons (pv 4) pa_nil)))
          (pa_cons (pe_tup (pa_cons (pv 3) (pa_cons (pe_call GB hr (by rfl) gB FB.kp bB .nil pass0 (pa_cons (pv 0) (pa_cons (pv 4) pa_nil))) pa_nil))) (pa_cons (pe_tup (pa_cons (pv 3) (pa_cons (pv 4) (pa_cons (pv 4) pa_nil)))) pa_nil))))))
      (pss_cons (ps_set (i := 8) scBS.nd rfl (.inl rfl) (pe_op op_cat (pv 8) (pe_lst (pa_cons (pe_tup (pa_cons (pv 3) (pa_cons (pe_tup (pa_cons pe_str (pa_cons pe_str (pa_cons (pv 3) pa_nil)))) pa_nil))) (pa_cons (pe_tup (pa_cons (pv 3) (pa_cons (pe_tup (pa_cons pe_str (pa_cons pe_str (pa_cons (pv 6) pa_nil)))) pa_nil))) (pa_cons pe_non pa_nil))))))
      (pss_one (ps_ret (pe_op op_cat (pe_op op_cat (pe_slice sl_list (pv 1) po_none (po_some (pv 2))) (pe_lst (pa_cons (pe_ix ix_list (pv 8) (pv 5) (fun _ _ => rfl)) pa_nil))) (pe_slice sl_list (pv 1) (po_some (pe_op op_add (pv 2) pe_int)) po_none))))))))))), ?_⟩
    refine ⟨_, rfl, Nat.zero_le _, fun e0 n0 => ?_⟩
    have S0 : Same H (upd H e0 (.lst [])) := same_upd n0
    have oe := St.off hSt n0
    have sE := St.put (o := .lst []) hSt oe
    refine ⟨_, _, (hsd.tk (TK.of S0)).lst (.inl (.inl (S0 _ _ hl))), dp_nil upd_same, shaped_steps (Sdl.atoms hsd), shaped_nil, _, rfl, ?_⟩
    rw [eqv_nil]
    have hl0 := S0 _ _ hl
    have hsd0 := hsd.tk (TK.of S0)
    generalize upd H e0 (.lst []) = H0 at *
    cases st with
    | nil =>
      obtain rfl : ys = [] := List.eq_nil_of_length_eq_zero hsd.1
      refine iteT2 rfl ?_
      refine ⟨_, rfl, fun d nd => ⟨by show 1 ≤ sizeLine; decide, fun l1 n1 => ⟨Nat.zero_le _, fun t1 m1 => ⟨by show 1 ≤ sizeLine; decide, fun l2 n2 => ⟨by show 1 ≤ sizeLine; decide, fun t2 m2 => ⟨by show 1 ≤ sizeLine; decide, fun l3 n3 => ⟨Nat.zero_le _, fun t3 m3 => ⟨by show 7 ≤ sizeLine; decide, fun L nL => ?_⟩⟩⟩⟩⟩⟩⟩⟩
      have o1 := St.off sE nd
      have s1 := St.put (o := .dK []) sE o1
      have A1 := same_upd (o := .dK []) nd
      have f1 := upd_same (H := H0) (a := d) (o := .dK [])
      generalize upd H0 d (.dK []) = G1 at *
      have o2 := St.off s1 n1
      have s2 := St.put (o := .lst [.non]) s1 o2
      have A2 := same_upd (o := .lst [.non]) n1
      have f2 := upd_same (H := G1) (a := l1) (o := .lst [.non])
      generalize upd G1 l1 (.lst [.non]) = G2 at *
      have o3 := St.off s2 m1
      have s3 := St.put (o := .tup []) s2 o3
      have A3 := same_upd (o := .tup []) m1
      have f3 := upd_same (H := G2) (a := t1) (o := .tup [])
      generalize upd G2 t1 (.tup []) = G3 at *
      have o4 := St.off s3 n2
      have s4 := St.put (o := .lst [.ref t1]) s3 o4
      have A4 := same_upd (o := .lst [.ref t1]) n2
      have f4 := upd_same (H := G3) (a := l2) (o := .lst [.ref t1])
      generalize upd G3 l2 (.lst [.ref t1]) = G4 at *
      have o5 := St.off s4 m2
      have s5 := St.put (o := .tup [.str "a"]) s4 o5
      have A5 := same_upd (o := .tup [.str "a"]) m2
      have f5 := upd_same (H := G4) (a := t2) (o := .tup [.str "a"])
      generalize upd G4 t2 (.tup [.str "a"]) = G5 at *
      have o6 := St.off s5 n3
      have s6 := St.put (o := .lst [.ref t2]) s5 o6
      have A6 := same_upd (o := .lst [.ref t2]) n3
      have f6 := upd_same (H := G5) (a := l3) (o := .lst [.ref t2])
      generalize upd G5 l3 (.lst [.ref t2]) = G6 at *
      have o7 := St.off s6 m3
      have s7 := St.put (o := .tup []) s6 o7
      have A7 := same_upd (o := .tup []) m3
      have f7 := upd_same (H := G6) (a := t3) (o := .tup [])
      generalize upd G6 t3 (.tup []) = G7 at *
      have o8 := St.off s7 nL
      have s8 := St.put (o := .lst [.non, .ref d, .str "a", .ref l1, .ref l2, .ref l3, .ref t3]) s7 o8
      have A8 := same_upd (o := .lst [.non, .ref d, .str "a", .ref l1, .ref l2, .ref l3, .ref t3]) nL
      have f8 := upd_same (H := G7) (a := L) (o := .lst [.non, .ref d, .str "a", .ref l1, .ref l2, .ref l3, .ref t3])
      generalize upd G7 L (.lst [.non, .ref d, .str "a", .ref l1, .ref l2, .ref l3, .ref t3]) = G8 at *
      have B7 := A8
      have B6 := A7.trans B7
      have B5 := A6.trans B6
      have B4 := A5.trans B5
      have B3 := A4.trans B4
      have B2 := A3.trans B3
      have B1 := A2.trans B2
      have B0 := A1.trans B1
      refine ⟨a, w, c, L, T, _, rfl, s8, by omega, .inl (.inl f8), o8.1, o8.2.1, by show 0 < 7; decide, by show 7 ≤ 1000; decide, fun H' x hx k s' => ?_⟩
      have kA : Kept a w H H' := (Kept.of (S0.trans B0)).trans k
      have sF := St.mono s' (show T + 1 ≤ T + 100 by omega)
      have g1 := k _ _ (B1 _ _ f1) o1.1 o1.2.1
      have g2 := k _ _ (B2 _ _ f2) o2.1 o2.2.1
      have g3 := k _ _ (B3 _ _ f3) o3.1 o3.2.1
      have g4 := k _ _ (B4 _ _ f4) o4.1 o4.2.1
      have g5 := k _ _ (B5 _ _ f5) o5.1 o5.2.1
      have g6 := k _ _ (B6 _ _ f6) o6.1 o6.2.1
      have g7 := k _ _ (B7 _ _ f7) o7.1 o7.2.1
      simp only [List.mem_cons, List.not_mem_nil, or_false] at hx
      rcases hx with rfl | rfl | rfl | rfl | rfl | rfl | rfl
      · exact q H' _ none kA sF (.inr ⟨.atom rfl, rfl⟩)
      · exact q H' _ none kA sF (.inr ⟨.dK g1, rfl⟩)
      · exact q H' _ none kA sF (.inr ⟨.atom (by decide +kernel), rfl⟩)
      · exact q H' _ _ kA sF (SdL.sv (SdL.one (d := .bad) (.inl (.atom rfl))) (.inl (.inl (.inl g2))) (by show 1 ≤ 200; decide))
      · exact q H' _ _ kA sF (SdL.sv (SdL.one (d := .bad) (.inr ⟨t1, [], rfl, .inl (.inl g3), by decide⟩)) (.inl (.inl (.inl g4))) (by show 1 ≤ 200; decide))
      · exact q H' _ _ kA sF (SdL.sv (SdL.one (d := .bad) (.inr ⟨t2, [.str "a"], rfl, .inl (.inl g5), by show 1 ≠ 2; decide⟩)) (.inl (.inl (.inl g6))) (by show 1 ≤ 200; decide))
      · exact q H' _ _ kA sF (SdL.sv SdL.nil (.inr (.inl (.inl g7))) (by show 0 ≤ 200; decide))
    | cons p0 st0 =>
      refine iteF2 rfl ?_
      have hsl' : (p0 :: st0).length ≤ 4 := hsl
      have hyl : ys.length = (p0 :: st0).length := hsd.1
      generalize hst0 : p0 :: st0 = st at *
      have pos : 0 < st.length := by rw [← hst0]; exact Nat.succ_pos _
      refine ⟨_, rfl, _, rfl, l, ys, rfl, .inl (.inl (.inl hl0)), a, w, c, T, _, rfl, sE, by omega, by omega, pow1000 (by omega), fun H1 d d0 d1 k1 s1 => ?_⟩
      obtain ⟨j, rfl⟩ : ∃ j : Nat, d = (j : Int) := ⟨d.toNat, by omega⟩
      have hj : j < ys.length := by omega
      have hl1 := k1 _ _ hl0 ol.1 ol.2
      have hsd1 := hsd0.tk (TK.kept sE k1)
      have hyj : ys[j]? = some ys[j] := List.getElem?_eq_getElem hj
      have hpj : st[j]? = some st[j] := List.getElem?_eq_getElem (by omega)
      obtain ⟨yp, zp, ey, hyp, hzp, hat, _, hnat⟩ := hsd1.2 j _ _ hyj hpj
      obtain ⟨hdeed, hgood⟩ := hst st[j] (List.getElem_mem _)
      have hdl := deed_len hdeed
      generalize st[j] = pj at *
      generalize ys[j] = yj at *
      subst ey
      refine ⟨_, rfl, _, rfl, l, ys, j, .ref yp, rfl, rfl, .inl (.inl hl1), atI_nat hyj, yp, _, rfl, hyp, rfl, _, _, rfl, _, _, rfl, rfl, ?_⟩
      refine ⟨_, rfl, a, w, c, T + 1, 7, rfl, s1, by omega, by decide, pow1000 (n := 7) (by decide), fun H2 wy w0 w1 k2 s2 => ?_⟩
      have hl2 := k2 _ _ hl1 ol.1 ol.2
      have hsd2 := hsd1.tk (TK.kept s1 k2)
      have hzp2 := TK.kept s1 k2 _ _ hzp
      obtain ⟨m, rfl⟩ : ∃ m : Nat, wy = (m : Int) := ⟨wy.toNat, by omega⟩
      -- the last name
      have hlast : ys[ys.length - 1]? = some ys[ys.length - 1] := List.getElem?_eq_getElem (by omega)
      have hplast : st[ys.length - 1]? = some st[ys.length - 1] := List.getElem?_eq_getElem (by omega)
      obtain ⟨lp, lz, el, hlp, _, _, _, hlat⟩ := hsd2.2 _ _ _ hlast hplast
      generalize st[ys.length - 1] = pl at *
      generalize ys[ys.length - 1] = yl at *
      subst el
      have iL : atI ys ((ys.length : Int) - 1) = some (.ref lp) := by
        rw [show ((ys.length : Int) - 1) = ((ys.length - 1 : Nat) : Int) by omega]
        exact atI_nat hlast
      refine ⟨_, rfl, _, rfl, l, ys, rfl, .inl (.inl (.inl hl2)), _, _, rfl, rfl, l, ys, _, .ref lp, rfl, rfl, .inl (.inl hl2), iL, lp, _, 0, _, rfl, rfl, hlp, atI_nat (j := 0) rfl, ?_⟩
      -- the other name
      have hfst : ys[0]? = some ys[0] := List.getElem?_eq_getElem (by omega)
      have hpfst : st[0]? = some st[0] := List.getElem?_eq_getElem (by omega)
      obtain ⟨fp, fz, ef, hfp, _, _, _, hfat⟩ := hsd2.2 _ _ _ hfst hpfst
      generalize st[0] = pf at *
      generalize ys[0] = yf at *
      subst ef
      refine ⟨_, rfl, _, rfl, l, ys, 0, .ref fp, rfl, rfl, .inl (.inl hl2), atI_nat (j := 0) hfst, fp, _, 0, _, rfl, rfl, hfp, atI_nat (j := 0) rfl, by show 6 ≤ sizeLine; decide, fun L nL => ?_⟩
      have oL := St.off s2 nL
      have s3 := St.put (o := .lst [.str "o", .str "vv", .str "", .str "A", .non, .str pf.1]) s2 oL
      have A1 := same_upd (o := .lst [.str "o", .str "vv", .str "", .str "A", .non, .str pf.1]) nL
      have f1 := upd_same (H := H2) (a := L) (o := .lst [.str "o", .str "vv", .str "", .str "A", .non, .str pf.1])
      generalize upd H2 L (.lst [.str "o", .str "vv", .str "", .str "A", .non, .str pf.1]) = G1 at *
      refine ⟨a, w, c, L, T + 1 + 1, _, rfl, s3, by omega, .inl (.inl f1), oL.1, oL.2.1, by show 0 < 6; decide, by show 6 ≤ 1000; decide, fun H3 ot hot k3 s4 => ?_⟩
      have hota : AtomV ot = true := by
        simp only [List.mem_cons, List.not_mem_nil, or_false] at hot
        rcases hot with rfl | rfl | rfl | rfl | rfl | rfl
        · decide +kernel
        · decide +kernel
        · decide +kernel
        · decide +kernel
        · rfl
        · exact hfat
      have K3 : Kept a w H2 H3 := (Kept.of A1).trans k3
      have hl3 := K3 _ _ hl2 ol.1 ol.2
      have hsd3 := hsd2.tk (TK.kept s2 K3)
      have hzp3 := TK.kept s2 K3 _ _ hzp2
      have d2 : (2 : Nat) ≤ sizeLine := by decide
      have d3 : (3 : Nat) ≤ sizeLine := by decide
      refine ⟨_, rfl, _, rfl, d2, fun t1 n1 => ⟨_, rfl, _, rfl, d2, fun l1 n2 => ?_⟩⟩
      have o1 := St.off s4 n1
      have s5 := St.put (o := .tup [ot, .ref zp]) s4 o1
      have A2 := same_upd (o := .tup [ot, .ref zp]) n1
      have f2 := upd_same (H := H3) (a := t1) (o := .tup [ot, .ref zp])
      generalize upd H3 t1 (.tup [ot, .ref zp]) = G2 at *
      have o2 := St.off s5 n2
      have s6 := St.put (o := .lst [.str pj.1, .ref zp]) s5 o2
      have A3 := same_upd (o := .lst [.str pj.1, .ref zp]) n2
      have f3 := upd_same (H := G2) (a := l1) (o := .lst [.str pj.1, .ref zp])
      generalize upd G2 l1 (.lst [.str pj.1, .ref zp]) = G3 at *
      have A23 := A2.trans A3
      have hz3 := sqT_same hzp3 A23
      refine ⟨_, rfl, _, rfl, _, rfl, a, w, c, zp, T + 1 + 1 + 1, pj.2, rfl, s6, by omega, hz3, fun x hx => .atom (List.all_eq_true.mp hat x hx), by omega, by omega, fun H4 bv bo k4 s7 hb => ?_⟩
      have hl4 := k4 _ _ (A23 _ _ hl3) ol.1 ol.2
      have hsd4 := (hsd3.tk (TK.of A23)).tk (TK.kept s6 k4)
      have hz4 := TK.kept s6 k4 _ _ hz3
      have f2' : SqT K H4 t1 [ot, .ref zp] := TK.kept s6 k4 _ _ (.inl (.inl (A3 _ _ f2)))
      have f3' := k4 _ _ f3 o2.1 o2.2.1
      have kA : Kept a w H H4 := (Kept.of S0).trans (k1.trans (k2.trans (K3.trans ((Kept.of A23).trans k4))))
      have sF : St H4 a w c (T + 100) := St.mono s7 (by omega)
      clear k1 k2 k3 k4 K3 s1 s2 s3 s4 s5 s6 s7 A1 A2 A3 A23 f1 f2 f3 hsd0 hsd1 hsd2 hsd3 hzp hzp2 hzp3 hz3 hl0 hl1 hl2 hl3
      refine ⟨d2, fun t2 n3 => ⟨_, rfl, _, rfl, _, rfl, d3, fun t3 n4 => ⟨by show 4 ≤ sizeLine; decide, fun S nS => ?_⟩⟩⟩
      have C1 := same_upd (o := .tup [.str pj.1, bv]) n3
      have e1 := upd_same (H := H4) (a := t2) (o := .tup [.str pj.1, bv])
      generalize upd H4 t2 (.tup [.str pj.1, bv]) = G5 at *
      have C2 := same_upd (o := .tup [.str pj.1, .ref zp, .ref zp]) n4
      have e2 := upd_same (H := G5) (a := t3) (o := .tup [.str pj.1, .ref zp, .ref zp])
      generalize upd G5 t3 (.tup [.str pj.1, .ref zp, .ref zp]) = G6 at *
      have C3 := same_upd (o := .lst [.ref t1, .ref l1, .ref t2, .ref t3]) nS
      have e3 := upd_same (H := G6) (a := S) (o := .lst [.ref t1, .ref l1, .ref t2, .ref t3])
      generalize upd G6 S (.lst [.ref t1, .ref l1, .ref t2, .ref t3]) = G7 at *
      refine ⟨_, rfl, _, rfl, _, rfl, d3, fun g1 m1 => ⟨d2, fun t4 m2 => ⟨_, rfl, _, rfl, d3, fun g2 m3 => ⟨d2, fun t5 m4 => ⟨d3, fun S2 m5 => ?_⟩⟩⟩⟩⟩
      have C4 := same_upd (o := .tup [.str "gauge", .str "o", .str pj.1]) m1
      have e4 := upd_same (H := G7) (a := g1) (o := .tup [.str "gauge", .str "o", .str pj.1])
      generalize upd G7 g1 (.tup [.str "gauge", .str "o", .str pj.1]) = G8 at *
      have C5 := same_upd (o := .tup [.str pj.1, .ref g1]) m2
      have e5 := upd_same (H := G8) (a := t4) (o := .tup [.str pj.1, .ref g1])
      generalize upd G8 t4 (.tup [.str pj.1, .ref g1]) = G9 at *
      have C6 := same_upd (o := .tup [.str "gauge", .str "o", .str pl.1]) m3
      have e6 := upd_same (H := G9) (a := g2) (o := .tup [.str "gauge", .str "o", .str pl.1])
      generalize upd G9 g2 (.tup [.str "gauge", .str "o", .str pl.1]) = G10 at *
      have C7 := same_upd (o := .tup [.str pj.1, .ref g2]) m4
      have e7 := upd_same (H := G10) (a := t5) (o := .tup [.str pj.1, .ref g2])
      generalize upd G10 t5 (.tup [.str pj.1, .ref g2]) = G11 at *
      have C8 := same_upd (o := .lst [.ref t4, .ref t5, .non]) m5
      have e8 := upd_same (H := G11) (a := S2) (o := .lst [.ref t4, .ref t5, .non])
      generalize upd G11 S2 (.lst [.ref t4, .ref t5, .non]) = G12 at *
      have D7 := C8
      have D6 := C7.trans D7
      have D5 := C6.trans D6
      have D4 := C5.trans D5
      have D3 := C4.trans D4
      have D2 := C3.trans D3
      have D1 := C2.trans D2
      have D0 := C1.trans D1
      refine ⟨S, S2, _, _, rfl, rfl, D3 _ _ e3, e8, by show 7 ≤ sizeLine; decide, fun S3 m6 => ?_⟩
      have C9 := same_upd (o := .lst ([.ref t1, .ref l1, .ref t2, .ref t3] ++ [.ref t4, .ref t5, .non])) m6
      have e9 := upd_same (H := G12) (a := S3) (o := .lst ([.ref t1, .ref l1, .ref t2, .ref t3] ++ [.ref t4, .ref t5, .non]))
      generalize upd G12 S3 (.lst ([.ref t1, .ref l1, .ref t2, .ref t3] ++ [.ref t4, .ref t5, .non])) = G13 at *
      have ga : AtomV (.str "gauge") = true := by decide +kernel
      have oa : AtomV (.str "o") = true := by decide +kernel
      -- the seven
      have seven : ∀ HF, Same G13 HF → SdL K HF ([.ref t1, .ref l1, .ref t2, .ref t3] ++ [.ref t4, .ref t5, .non]) [.pair ot (some pj.2), .bad, .pair (.str pj.1) bo, .bad, .pair (.str pj.1) (some [.str "gauge", .str "o", .str pj.1]), .pair (.str pj.1) (some [.str "gauge", .str "o", .str pl.1]), .bad] := fun HF SF => by
        have F8 := C9.trans SF
        have F0 := D0.trans F8
        have dd : Dd K HF (.ref zp) (some pj.2) := .inl ⟨zp, _, rfl, sqT_same hz4 F0, fun x hx => .atom (List.all_eq_true.mp hat x hx), by omega, rfl⟩
        refine .cons ⟨t1, .ref zp, rfl, sqT_same f2' F0, hota, dd⟩ (.cons (.inl (.lst (F0 _ _ f3'))) (.cons ⟨t2, bv, rfl, .inl (.inl ((D1.trans F8) _ _ e1)), hnat, hb.same F0⟩ (.cons (.inr ⟨t3, _, rfl, .inl (.inl ((D2.trans F8) _ _ e2)), by show 3 ≠ 2; decide⟩)
          (.cons ⟨t4, .ref g1, rfl, .inl (.inl ((D5.trans F8) _ _ e5)), hnat, .inl ⟨g1, _, rfl, .inl (.inl ((D4.trans F8) _ _ e4)), ?_, by show 3 ≤ 100; decide, rfl⟩⟩ (.cons ⟨t5, .ref g2, rfl, .inl (.inl ((D7.trans F8) _ _ e7)), hnat, .inl ⟨g2, _, rfl, .inl (.inl ((D6.trans F8) _ _ e6)), ?_, by show 3 ≤ 100; decide, rfl⟩⟩ (.cons (.inl (.atom rfl)) .nil))))))
        · intro x hx
          simp only [List.mem_cons, List.not_mem_nil, or_false] at hx
          rcases hx with rfl | rfl | rfl
          · exact .atom ga
          · exact .atom oa
          · exact .atom hnat
        · intro x hx
          simp only [List.mem_cons, List.not_mem_nil, or_false] at hx
          rcases hx with rfl | rfl | rfl
          · exact .atom ga
          · exact .atom oa
          · exact .atom hlat
      have T13 : Same H4 G13 := D0.trans C9
      generalize hit : ([V.ref t1, .ref l1, .ref t2, .ref t3] ++ [V.ref t4, .ref t5, .non]) = items at *
      have lit : items.length = 7 := by rw [← hit]; rfl
      have hm : m < items.length := by omega
      have him : items[m]? = some items[m] := List.getElem?_eq_getElem hm
      refine ⟨_, rfl, _, rfl, _, rfl, l, ys, rfl, .inl (.inl (T13 _ _ hl4)), fun A nA => ?_⟩
      rw [show cutV ys none (some (j : Int)) = ys.take j from cut_take ys j (by omega)]
      have E1 := same_upd (o := .lst (ys.take j)) nA
      have r1 := upd_same (H := G13) (a := A) (o := .lst (ys.take j))
      generalize upd G13 A (.lst (ys.take j)) = G14 at *
      refine ⟨_, rfl, _, rfl, S3, _, m, _, rfl, rfl, .inl (.inl (E1 _ _ e9)), atI_nat him, by show 1 ≤ sizeLine; decide, fun B nB => ?_⟩
      have E2 := same_upd (o := .lst [items[m]]) nB
      have r2 := upd_same (H := G14) (a := B) (o := .lst [items[m]])
      generalize upd G14 B (.lst [items[m]]) = G15 at *
      refine ⟨A, B, _, _, rfl, rfl, E2 _ _ r1, r2, ?_, fun C nC => ?_⟩
      · rw [List.length_take, List.length_singleton]
        exact Nat.le_of_lt (small1000 (by omega))
      have E3 := same_upd (o := .lst (ys.take j ++ [items[m]])) nC
      have r3 := upd_same (H := G15) (a := C) (o := .lst (ys.take j ++ [items[m]]))
      generalize upd G15 C (.lst (ys.take j ++ [items[m]])) = G16 at *
      refine ⟨_, rfl, _, rfl, _, _, rfl, rfl, _, rfl, l, ys, rfl, .inl (.inl ((T13.trans (E1.trans (E2.trans E3))) _ _ hl4)), fun D nD => ?_⟩
      rw [show ((j : Int) + 1) = ((j + 1 : Nat) : Int) by omega, show cutV ys (some ((j + 1 : Nat) : Int)) none = ys.drop (j + 1) from cut_drop ys (j + 1) (by omega)]
      have E4 := same_upd (o := .lst (ys.drop (j + 1))) nD
      have r4 := upd_same (H := G16) (a := D) (o := .lst (ys.drop (j + 1)))
      generalize upd G16 D (.lst (ys.drop (j + 1))) = G17 at *
      refine ⟨C, D, _, _, rfl, rfl, E4 _ _ r3, r4, ?_, fun R nR => ?_⟩
      · rw [List.length_append, List.length_take, List.length_singleton, List.length_drop]
        exact Nat.le_of_lt (small1000 (by omega))
      have E5 := same_upd (o := .lst (ys.take j ++ [items[m]] ++ ys.drop (j + 1))) nR
      have TT := T13.trans (E1.trans (E2.trans (E3.trans (E4.trans E5))))
      have sv := seven _ (E1.trans (E2.trans (E3.trans (E4.trans E5))))
      have hd : ∃ dm, ([.pair ot (some pj.2), .bad, .pair (.str pj.1) bo, .bad, .pair (.str pj.1) (some [.str "gauge", .str "o", .str pj.1]), .pair (.str pj.1) (some [.str "gauge", .str "o", .str pl.1]), .bad] : List Sd)[m]? = some dm := ⟨_, List.getElem?_eq_getElem (by show m < 7; omega)⟩
      obtain ⟨dm, hdm⟩ := hd
      have sm := sv.2 m _ _ him hdm
      have base : SdL K (upd G17 R (.lst (ys.take j ++ [items[m]] ++ ys.drop (j + 1)))) ys (st.map sdOf) := ⟨by rw [List.length_map]; exact hyl, (hsd4.tk (TK.of TT)).ok⟩
      refine q _ (.ref R) _ (kA.trans (Kept.of TT)) (St.same sF TT) (SdL.sv (((base.take j).app (SdL.one sm)).app (base.drop (j + 1))) (.inl (.inl (.inl upd_same))) ?_)
      rw [List.length_append, List.length_append, List.length_take, List.length_singleton, List.length_drop]
      omega
end
end Z60

set_option Elab.async false
set_option linter.all false
set_option maxRecDepth 100000
set_option maxHeartbeats 2000000
namespace Z61
open PySem PySem.Spec PyProof.Rows L2 Cau RepG Dr14 Z1 Z2 Z3 Z4 ZE Z5 Z6 Z7 Z8 Z9 ZN5 ZN6 ZN7 ZN8 ZN10 ZN11 ZN12 ZN13 ZN19 ZN20 ZN21 ZN22 ZN22b ZN25 Z50 Z51 Z52 Z53 Z54 Z55 Z56 Z57 Z58 Z59 Z60 TxtSet
/-! ### each text once -/
theorem once_snoc (u : Str) : ∀ (l acc : List Str), onceL (l ++ [u]) acc = if u ∈ onceL l acc then onceL l acc else onceL l acc ++ [u]
  | [], acc => by
    show onceL [u] acc = _
    rw [onceL_cons]
    rfl
  | z :: r, acc => by
    rw [List.cons_append, onceL_cons, onceL_cons]
    split
    · exact once_snoc u r acc
    · exact once_snoc u r (acc ++ [z])
theorem once_mem (x : Str) : ∀ (l acc : List Str), x ∈ onceL l acc ↔ x ∈ l ∨ x ∈ acc
  | [], acc => by simp [onceL]
  | z :: r, acc => by
    rw [onceL_cons]
    split
    · rename_i h
      rw [once_mem x r acc, List.mem_cons]
      constructor
      · exact fun q => q.elim (fun a => .inl (.inr a)) .inr
      · rintro ((rfl | q) | q)
        · exact .inr h
        · exact .inl q
        · exact .inr q
    · rw [once_mem x r (acc ++ [z]), List.mem_cons, List.mem_append, List.mem_singleton]
      constructor
      · rintro (q | q | rfl)
        · exact .inl (.inr q)
        · exact .inr q
        · exact .inl (.inl rfl)
      · rintro ((rfl | q) | q)
        · exact .inr (.inr rfl)
        · exact .inl q
        · exact .inr (.inl q)
theorem once_step {us : List Str} {i : Nat} {u : Str} (h : us[i]? = some u) : onceL (us.take (i + 1)) [] = if u ∈ us.take i then onceL (us.take i) [] else onceL (us.take i) [] ++ [u] := by
  have e : us.take (i + 1) = us.take i ++ [u] := by rw [List.take_succ, h]; rfl
  rw [e, once_snoc]
  have m : u ∈ onceL (us.take i) [] ↔ u ∈ us.take i := by rw [once_mem]; simp
  by_cases c : u ∈ us.take i
  · rw [if_pos (m.mpr c), if_pos c]
  · rw [if_neg (fun z => c (m.mp z)), if_neg c]
/-! ### a merged table -/
theorem put_keys {κ : Type} [DecidableEq κ] (kvs : List (κ × V)) (k : κ) (v : V) (n : (kvs.map (·.1)).Nodup) : ((putK kvs k v).map (·.1)).Nodup := by
  unfold putK
  split
  · have e : (kvs.map fun kv => if kv.1 = k then (kv.1, v) else kv).map (·.1) = kvs.map (·.1) := by
      rw [List.map_map]
      refine List.map_congr_left fun p _ => ?_
      show (if p.1 = k then (p.1, v) else p).1 = p.1
      split <;> rfl
    rw [e]
    exact n
  · rename_i h
    rw [List.map_append, List.nodup_append]
    refine ⟨n, by simp, fun a ha b hb => ?_⟩
    rintro rfl
    have hb' : a = k := by simpa using hb
    subst hb'
    obtain ⟨p, hp, e⟩ := List.mem_map.mp ha
    exact h (List.any_eq_true.mpr ⟨p, hp, decide_eq_true e⟩)
theorem put_all {κ : Type} [DecidableEq κ] {A : κ → Prop} {B : V → Prop} (kvs : List (κ × V)) (k : κ) (v : V) (h : ∀ e ∈ kvs, A e.1 ∧ B e.2) (a : A k) (b : B v) : ∀ e ∈ putK kvs k v, A e.1 ∧ B e.2 := by
  unfold putK
  split
  · intro e he
    obtain ⟨p, hp, rfl⟩ := List.mem_map.mp he
    have hp' := h p hp
    by_cases c : p.1 = k
    · rw [if_pos c]
      exact ⟨hp'.1, b⟩
    · rw [if_neg c]
      exact hp'
  · intro e he
    rcases List.mem_append.mp he with he | he
    · exact h e he
    · rw [List.mem_singleton.mp he]
      exact ⟨a, b⟩
theorem merge_keys : ∀ (more kvs : List (Key × V)), (kvs.map (·.1)).Nodup → ((mergeK kvs more).map (·.1)).Nodup
  | [], _, n => n
  | e :: r, kvs, n => merge_keys r _ (put_keys kvs e.1 e.2 n)
theorem merge_all {A : Key → Prop} {B : V → Prop} : ∀ (more kvs : List (Key × V)), (∀ e ∈ kvs, A e.1 ∧ B e.2) → (∀ e ∈ more, A e.1 ∧ B e.2) → ∀ e ∈ mergeK kvs more, A e.1 ∧ B e.2
  | [], _, h, _ => h
  | e :: r, kvs, h, g => merge_all r _ (put_all kvs e.1 e.2 h (g e List.mem_cons_self).1 (g e List.mem_cons_self).2) fun x hx => g x (List.mem_cons_of_mem _ hx)
/-- a name with all that is asked of it -/
def okN (v : V) : Prop := AtomV v = true ∧ nameV v = true
theorem tab_of {H : Hp} {d : Addr} {more : List (Key × V)} (h : H d = some (.dK (mergeK [] more))) (l : more.length ≤ 10) (ok : ∀ e ∈ more, okN (kV e.1) ∧ okN e.2) : TabV H (.ref d) true := by
  have all := merge_all (A := fun k => okN (kV k)) (B := okN) more [] (fun e he => absurd he List.not_mem_nil) ok
  have nd := merge_keys more [] List.nodup_nil
  have len := length_mergeK more []
  have e : ((mergeK [] more).all fun e => nameV (kV e.1) && nameV e.2) = true := List.all_eq_true.mpr fun e he => by
    rw [(all e he).1.2, (all e he).2.2]
    rfl
  exact e ▸ .dict h (by have : ([] : List (Key × V)).length = 0 := rfl; omega) nd fun x hx => ⟨(all x hx).1.1, (all x hx).2.1⟩
theorem sub_atom {more : List (Key × V)} (ok : ∀ e ∈ more, okN (kV e.1) ∧ okN e.2) {u : Str} (hu : AtomV (.str u) = true) : AtomV (subV (mergeK [] more) (.str u)) = true := by
  have all := merge_all (A := fun k => okN (kV k)) (B := okN) more [] (fun e he => absurd he List.not_mem_nil) ok
  show AtomV ((valV (mergeK [] more) (.inr u)).getD (.str u)) = true
  cases e : valV (mergeK [] more) (.inr u) with
  | none => exact hu
  | some v =>
    unfold valV at e
    obtain ⟨p, hp, rfl⟩ := Option.map_eq_some_iff.mp e
    exact (all p (List.mem_of_find?_eq_some hp)).2.1
theorem good_ok {z : Str} (h : goodN z = true) : okN (.str z) := ⟨good_atom h, (good_name h).1⟩
theorem abq_ok : ∀ v ∈ [V.str "a", .str "b", .str "q", .str "o"], okN v := by
  intro v hv
  simp only [List.mem_cons, List.not_mem_nil, or_false] at hv
  rcases hv with rfl | rfl | rfl | rfl
  · exact ⟨by decide +kernel, by decide +kernel⟩
  · exact ⟨by decide +kernel, by decide +kernel⟩
  · exact ⟨by decide +kernel, by decide +kernel⟩
  · exact ⟨by decide +kernel, by decide +kernel⟩
theorem abz_ok : okN (.str "a") ∧ okN (.str "b") ∧ okN (.str "zz") := ⟨⟨by decide +kernel, by decide +kernel⟩, ⟨by decide +kernel, by decide +kernel⟩, ⟨by decide +kernel, by decide +kernel⟩⟩
/-! ### a drawn deed -/
def dwL (w0 : Str) (us : List Str) (way : List V) : List V := .str w0 :: (us.map V.str ++ way)
theorem dw_sub {w0 : Str} {k : Nat} {us : List Str} {way : List V} (hf : formOf w0 = some k) (hl : us.length = k) (es : List (Key × V)) : subL es (dwL w0 us way) = .str w0 :: ((us.map V.str).map (subV es) ++ way) := by
  unfold subL dwL
  simp only [hf]
  have e1 : (us.map V.str ++ way).take k = us.map V.str := by rw [← hl, ← List.length_map (f := V.str), List.take_left]
  have e2 : (us.map V.str ++ way).drop k = way := by rw [← hl, ← List.length_map (f := V.str), List.drop_left]
  rw [e1, e2]
end Z61

set_option Elab.async false
set_option linter.all false
set_option maxRecDepth 100000
set_option maxHeartbeats 4000000
namespace Z62
open PySem PySem.Spec PyProof.Rows L2 Cau RepG Dr14 Z1 Z2 Z3 Z4 ZE Z5 Z6 Z7 Z8 Z9 ZN5 ZN6 ZN7 ZN8 ZN10 ZN11 ZN12 ZN13 ZN19 ZN20 ZN21 ZN22 ZN22b ZN25 Z50 Z51 Z52 Z53 Z54 Z55 Z56 Z57 Z58 Z59 Z60 Z61 TxtSet
abbrev sTold : Stmt := topS 164
theorem okGL {P : Program} {w : World} {K : PySem.W.Frag} {mg : Str → Option Value} {base : Heap} {x qual : Str} {st : Stmt} {N ps : List Str} {sp : Sp} {k : Nat} {f c : Addr} {od an : Option Addr} {osl : Array (Option Value)} {dV kV doc pm ct oc : Value}
    (lk : K.lookup f = some ⟨oc, od, .func (PySem.W.fnOf x qual (defArgs st) (defBody st) (defScope st) dV kV doc pm an (.ref c) ct), osl⟩) (hcd : PySem.W.codeIn K (.ref c) qual = true) (S : FnScope N ps (defScope st)) (len : ∀ vs H Q E, sp vs H Q E → vs.length = ps.length)
    (hbody : ∀ (A : Around) (outer : List Env) (s : Shared) (H : Hp) (vs : List V) (Q : VK) (E : XK), A.guards = some [] → Room k (A.deeper (envOfC qual (defScope st) s.heap.objs.size f (.ref c))) → sp vs H Q E →
      ∃ t, PSs (cxOf CX0 P w K mg base N qual (defScope st) f (.ref c) A outer s H E).nox (defBody st) t ∧ t { nx := fun _ H' => Q .non H', rt := Q } (L2.start N vs) H) : RepG.FnG P w K mg base CX0 (k + 1) f (PySem.W.fnOf x qual (defArgs st) (defBody st) (defScope st) dV kV doc pm an (.ref c) ct) ps sp := by
  refine ⟨len, fun A g hr outer s H e args us vs hb r Q E h => ?_⟩
  refine LamX.run_ofS lk hcd S hr e hb r (len _ _ _ _ h) fun hr' => ?_
  obtain ⟨t, ht, q⟩ := hbody A outer s H vs Q E g hr' h
  exact ⟨t, ht.nox, q⟩
def toldN : List Str := ["state", "deed", "names", "once", "tool", "table", "due", "odd", "spot", "name"]
def lamQ (x : Str) : Str := (x ++ ".<locals>.") ++ "<lambda>"
def spTold (K : PySem.W.Frag) (TT : List (Addr × Str)) : Sp := fun vs H Q _ => ∃ (a w c p : Addr) (T : Nat) (w0 : Str) (k : Nat) (us : List Str) (way : List V), vs = [.ref a, .ref p] ∧ St H a w c T ∧ T + 100 ≤ 1000000 ∧ formOf w0 = some k ∧ us.length = k ∧ (∀ u ∈ us, goodN u = true) ∧ WayOk w0 way ∧ SqT K H p (dwL w0 us way) ∧ LamX.Tabs TT H ∧
  ∀ H', KeptN a w H H' → St H' a w c (T + 100) → LamX.Tabs TT H' → Q (.bl true) H'
/-- a table's odd values -/
def oddT (l1 l2 d1 d2 d3 d4 : Addr) : List V := [.non, .ref l1, .ref l2, .ref d1, .ref d2, .ref d3, .ref d4]
theorem TabV.ext {H H' : Hp} {v : V} {b : Bool} (h : TabV H v b) (e : LamX.ExtN H H') : TabV H' v b := by
  cases h with
  | non => exact .non
  | lst h => exact .lst (e _ _ h fun _ z => by cases z)
  | dict h l nd ok => exact .dict (e _ _ h fun _ z => by cases z) l nd ok
theorem Dd.ext {K : PySem.W.Frag} {H H' : Hp} {v : V} {o : Option (List V)} (h : Dd K H v o) (e : LamX.ExtN H H') : Dd K H' v o := by
  have it : ∀ x, ItV H x → ItV H' x := fun x hx => by
    cases hx with
    | atom h => exact .atom h
    | lst h => exact .lst (e _ _ h fun _ z => by cases z)
  rcases h with ⟨p, xs, r, h1, h2, h3, h4⟩ | ⟨h, r⟩
  · exact .inl ⟨p, xs, r, tk_ext e _ _ h1, fun x hx => it x (h2 x hx), h3, h4⟩
  · refine .inr ⟨?_, r⟩
    cases h with
    | atom h => exact .atom h
    | lst h => exact .lst (e _ _ h fun _ z => by cases z)
    | dK h => exact .dK (e _ _ h fun _ z => by cases z)
section
variable {P : Program} {w : World} {K : PySem.W.Frag} {mg : Str → Option Value} {base : Heap}
theorem scTo : FnScope toldN ["state", "deed"] (defScope sTold) := ⟨rfl, rfl, rfl, by decide +kernel, rfl, by decide +kernel, by decide +kernel⟩
theorem ok_told {f fP fF fN fT fO fC CR CD CB c Pt : Addr} {fdP fdF fdN fdT fdO : FuncData} {TT : List (Addr × Str)}
    {od an odC anC : Option Addr} {osl oslC : Array (Option Value)} {dV kV doc pm ct oc kVC docC pmC ctC ocC cdvC dVC : Value}
    (lk : K.lookup f = some ⟨oc, od, .func (PySem.W.fnOf "_law_told_right" "_law_told_right" (defArgs sTold) (defBody sTold) (defScope sTold) dV kV doc pm an (.ref c) ct), osl⟩) (hcd : PySem.W.codeIn K (.ref c) "_law_told_right" = true)
    (TB : LamX.TabB base mg c Pt) (hmT : (Pt, lamQ "_law_told_right") ∈ TT) (huT : ∀ p ∈ TT, p.1 = Pt → p.2 = lamQ "_law_told_right")
    (FP : Fun K "_law_pick" "_law_pick" sPick fP fdP) (GP : FnOk P w K mg base CX0 3 fP fdP ["state", "some"] (spPick K)) (bP : Binds K fdP ["state", "some"] []) (gP : mg "_law_pick" = some (.ref fP))
    (FF : Fun K "_law_forms" "_law_forms" sForms fF fdF) (GF : FnOk P w K mg base CX0 1 fF fdF [] spForms) (bF : Binds K fdF [] []) (gF : mg "_law_forms" = some (.ref fF))
    (FN : Fun K "names_of" "names_of" sNamesOf fN fdN) (GN : FnOk P w K mg base (L2.CX P w) 4 fN fdN ["deed"] (spOfDeed K CD (goodNames K))) (bN : Binds K fdN ["deed"] []) (kN : KBn K fdN ["deed"] 0 ["deed"] (fun _ ws => ws) (fun _ zs => zs)) (gN : mg "names_of" = some (.ref fN))
    (FT : Fun K "tool_of" "tool_of" sToolOf fT fdT) (GT : FnOk P w K mg base (L2.CX P w) 4 fT fdT ["deed"] (spOfDeed K CD goodTool)) (bT : Binds K fdT ["deed"] []) (kT : KBn K fdT ["deed"] 0 ["deed"] (fun _ ws => ws) (fun _ zs => zs)) (gT : mg "tool_of" = some (.ref fT))
    (FO : Fun K "on_names" "on_names" sOnNames fO fdO) (GO : FnOk P w K mg base (L2.CX P w) 4 fO fdO ["deed", "table"] (spOn K CD CB)) (bO : Binds K fdO ["deed", "table"] []) (kO : KBn K fdO ["deed", "table"] 0 ["deed", "table"] (fun _ ws => ws) (fun _ zs => zs)) (gO : mg "on_names" = some (.ref fO))
    (lkC : K.lookup fC = some ⟨ocC, odC, .func (PySem.W.fnOf "_law_caught" "_law_caught" (defArgs sCaught) (defBody sCaught) (defScope sCaught) dVC kVC docC pmC anC cdvC ctC), oslC⟩) (hcdC : PySem.W.codeIn K cdvC "_law_caught" = true) (kC : PySem.W.keepIn K (.ref fC) = true)
    (bC : Binds K (PySem.W.fnOf "_law_caught" "_law_caught" (defArgs sCaught) (defBody sCaught) (defScope sCaught) dVC kVC docC pmC anC cdvC ctC) ["action"] []) (gC : mg "_law_caught" = some (.ref fC))
    (gRE : mg "RulerError" = some (.ref CR)) (gBB : mg "BadTable" = some (.ref CB)) (exmB : PySem.W.exmOne K (.ref CB) (.ref CR) = some true) (kitB : PySem.W.kitOne K (.ref CB) (.ref CB) = some true) (EB : ExcC K CB)
    (me : mg "enumerate" = none) (md : mg "dict" = none) (mt : mg "tuple" = none) (mlen : mg "len" = none) (mi : mg "isinstance" = none) :
    FnG P w K mg base CX0 7 f (PySem.W.fnOf "_law_told_right" "_law_told_right" (defArgs sTold) (defBody sTold) (defScope sTold) dV kV doc pm an (.ref c) ct) ["state", "deed"] (spTold K TT) := by
  refine okGL lk hcd scTo (fun vs H Q E h => ?_) (fun A outer s H vs Q E g hr h => ?_)
  · obtain ⟨a, w, c, p, T, w0, k, us, way, rfl, _⟩ := h
    rfl
  · obtain ⟨sa, sw, sc, p, T, w0, k, us, way, rfl, hSt, hT, hf, hul, hus, hway, hp, tabs, q⟩ := h
    have hu := hu_of (hr.mono (Nat.zero_le _) : Room 0 _)
    have hr4 : Room 4 _ := hr.mono (by decide)
    have hr3 : Room 3 _ := hr.mono (by decide)
    have hr1 : Room 1 _ := hr.mono (by decide)
    refine ⟨_, pss_cons (ps_set (i := 2) scTo.nd rfl (.inr rfl) (pe_slice sl_tup (pv 1) (po_some pe_int) (po_some (pe_op op_add pe_int (pe_dget hu (pe_call0 GF hr1 (by rfl) gF FF.kp bF .nil pass0) (pe_ix ix_tup (pv 1) pe_int (fun _ _ => rfl)) (fun _ _ => rfl))))))
      (pss_cons (ps_setLc (i := 3) (own := [("spot", 8), ("name", 9)]) (g := gTup K 2 (gCons (gName 8) (gCons (gName 9) gNil))) rfl scTo.nd rfl rfl (sw_true rfl rfl rfl (by decide +kernel)) (pi_en (by rfl) me (pa_cons (pv 2) pa_nil))
          (blkOk_by (own := [("spot", 8), ("name", 9)]) (N := toldN) (sc := defScope sTold) (by decide +kernel))
          (fun _ _ _ _ _ => pg_tup (by rfl) (pgs_cons (pg_name (i := 8) scTo.nd rfl (.inl rfl)) (pgs_cons (pg_name (i := 9) scTo.nd rfl (.inl rfl)) pgs_nil)))
          (fun _ _ _ _ _ => pts_one (pt_cmpR (show OpR _ (compareOp .NotIn) (rIn K true) from op_notIn_seq) (pv 9) (pe_slice (show SlR _ (rSlW K) from sl_tupW) (pv 2) po_none (po_some (pv 8))) (by rfl))) (fun _ _ _ _ _ => pv 9))
      (pss_cons (ps_set (i := 4) scTo.nd rfl (.inl rfl) (pe_dget2 hu (pe_disp (pps_cons pe_str pe_str (pps_cons pe_str pe_str (pps_cons pe_str pe_str pps_nil))) (by rfl) (by rfl) (fun z => by cases z) (by decide)) (pe_ix ix_tup (pv 1) pe_int (fun _ _ => rfl)) (pe_ix ix_tup (pv 1) pe_int (fun _ _ => rfl)) ⟨rfl, rfl, rfl, rfl⟩))
      (pss_cons (ps_set (i := 5) scTo.nd rfl (.inr rfl) (pe_callTy (call_dictP rfl) (by rfl) md (by decide +kernel) (pa_cons
          (pe_lc (own := [("name", 9)]) (g := gName 9) (tt := tYes) rfl scTo.nd (pi_list (pe_lst (pa_cons pe_str (pa_cons pe_str (pa_cons pe_str (pa_cons (pe_ix ix_tup (pv 1) pe_int (fun _ _ => rfl)) pa_nil))))))
            (blkOk_by (own := [("name", 9)]) (N := toldN) (sc := defScope sTold) (by decide +kernel)) (fun _ _ _ _ _ => pg_name (i := 9) scTo.nd rfl (.inl rfl)) (fun _ _ _ _ _ => pts_nil)
            (fun _ _ _ _ _ => pe_tup (pa_cons (pv 9) (pa_cons (pe_call GP hr3 (by rfl) gP FP.kp bP .nil pass0 (pa_cons (pv 0) (pa_cons (pe_lst (pa_cons pe_str (pa_cons pe_str (pa_cons pe_str (pa_cons pe_str pa_nil))))) pa_nil))) pa_nil)))) pa_nil)))
      (pss_cons (ps_set (i := 6) scTo.nd rfl (.inl rfl) (pe_op op_catW (pe_op op_catW (pe_slice sl_tupW (pv 1) po_none (po_some pe_int)) (pe_callTy call_tuple_of (by rfl) mt (by decide +kernel) (pa_cons
            (pe_lc (own := [("name", 9)]) (g := gName 9) (tt := tYes) rfl scTo.nd (pi_tup (pv 2)) (blkOk_by (own := [("name", 9)]) (N := toldN) (sc := defScope sTold) (by decide +kernel)) (fun _ _ _ _ _ => pg_name (i := 9) scTo.nd rfl (.inl rfl)) (fun _ _ _ _ _ => pts_nil)
              (fun _ _ _ _ _ => pe_dget2 hu (pv 5) (pv 9) (pv 9) ⟨rfl, rfl, rfl, rfl⟩)) pa_nil)))
          (pe_slice sl_tupW (pv 1) (po_some (pe_op op_add pe_int (pe_callB call_len_seq (by rfl) mlen PySem.boot_len (pa_cons (pv 2) pa_nil)))) po_none)))
      (pss_cons (ps_if (pt_cmpR (op_neD hr.units) (pe_lst (pa_cons (pe_kw GN hr4 (by rfl) gN FN.kp kN passN (pk_cons (pv 1) pk_nil)) (pa_cons (pe_kw GT hr4 (by rfl) gT FT.kp kT passN (pk_cons (pv 1) pk_nil)) (pa_cons (pe_kw GO hr4 (by rfl) gO FO.kp kO passN (pk_cons (pv 1) (pk_cons (pv 5) pk_nil))) pa_nil))))
          (pe_lst (pa_cons (pe_callTy call_tuple_of (by rfl) mt (by decide +kernel) (pa_cons (pv 3) pa_nil)) (pa_cons (pv 4) (pa_cons (pv 6) pa_nil)))) (by rfl)) (pss_one (ps_ret pe_bl)) pss_nil)
      (pss_cons (ps_set (i := 7) scTo.nd rfl (.inr rfl) (pe_call GP hr3 (by rfl) gP FP.kp bP .nil pass0 (pa_cons (pv 0) (pa_cons (pe_lst (pa_cons pe_non (pa_cons (pe_lst pa_nil) (pa_cons (pe_lst (pa_cons (pe_tup (pa_cons pe_str (pa_cons pe_str pa_nil))) pa_nil))
          (pa_cons (pe_disp (pps_cons pe_str pe_non pps_nil) (by rfl) (by rfl) (fun z => by cases z) (by decide)) (pa_cons (pe_disp (pps_cons pe_str pe_str pps_nil) (by rfl) (by rfl) (fun z => by cases z) (by decide)) (pa_cons (pe_disp (pps_cons pe_str pe_str pps_nil) (by rfl) (by rfl) (fun z => by cases z) (by decide))
          (pa_cons (pe_disp (pps_cons pe_int pe_str pps_nil) (by rfl) (by rfl) (fun z => by cases z) (by decide)) pa_nil)))))))) pa_nil))))
      (pss_one (ps_ret (pe_callB (call_isErr EB) (by rfl) mi (by decide +kernel) (pa_cons
          (pe_cau lkC hcdC kC bC gC gRE TB rfl hmT huT (hr.mono (by decide) : Room (4 + 2) _) (by rfl) (show LamX.LamS (defScope sTold) _ from LamX.lamS_by (by decide +kernel)) rfl (fun _ _ _ _ _ => rfl)
            (fun A o s H E f c' hrl => pe_call GO hrl (by rfl) gO FO.kp bO .nil (passes_call (takes_of rfl rfl rfl rfl) (fun _ _ _ _ h => h)) (pa_cons (pv 1) (pa_cons (pv 7) pa_nil))))
          (pa_cons (pe_glob (v := .ref CB) (by rfl) gBB rfl) pa_nil)))))))))))
      , ?_⟩
    have hd : deedL (dwL w0 us way) = true := drawn_deed hf hul (fun u hu' => (good_name (hus u hu')).1) hway
    have hnm : namesL (dwL w0 us way) = us := drawn_names hf hul
    obtain ⟨k2, k5⟩ := formOf_small hf
    have wl := way_len hway
    have hat : ∀ x ∈ dwL w0 us way, AtomV x = true := by
      intro x hx
      rcases List.mem_cons.mp hx with rfl | hx
      · exact word_atom hf
      · rcases List.mem_append.mp hx with hx | hx
        · obtain ⟨u, hu', rfl⟩ := List.mem_map.mp hx
          exact good_atom (hus u hu')
        · exact List.all_eq_true.mp (way_atom hway) x hx
    have hp0 : SqT K H p (.str w0 :: (us.map V.str ++ way)) := hp
    have at0 : ∀ v r, atI (v :: r : List V) 0 = some v := fun _ _ => atI_nat (j := 0) rfl
    -- the names
    refine ⟨_, rfl, _, rfl, rfl, fun d nd => ?_⟩
    have S1 : Same H (upd H d (.dK formsD)) := same_upd nd
    have g2 : DGet (upd H d (.dK formsD)) d (.str w0) (some (.int (k : Nat))) := by
      have e : valV formsD (.inr w0) = some (.int (k : Nat)) := by rw [forms_get, hf]; rfl
      exact e ▸ DGet.k (k := (.inr w0 : Key)) upd_same
    have hp1 := sqT_same hp0 S1
    refine ⟨_, rfl, p, _, 0, _, rfl, rfl, hp1, at0 _ _, d, .int k, rfl, g2, 1, (k : Int), rfl, rfl, _, rfl, p, _, rfl, hp1, not_whole _ _ _, fun np nnp => ?_⟩
    rw [cut_1', show (us.map V.str ++ way).take k = us.map V.str by rw [← hul, ← List.length_map (f := V.str), List.take_left]]
    have S2 := S1.trans (same_upd (o := .tup (us.map V.str)) nnp)
    have hnp : (upd (upd H d (.dK formsD)) np (.tup (us.map V.str))) np = some (.tup (us.map V.str)) := upd_same
    generalize upd (upd H d (.dK formsD)) np (.tup (us.map V.str)) = G2 at *
    have lus : us.length ≤ 5 := by omega
    have txt : ∀ (i : Nat) (x : V), (us.map V.str)[i]? = some x → ∃ z, x = V.str z ∧ us[i]? = some z := fun i x hx => by
      rw [List.getElem?_map] at hx
      cases e : us[i]? with
      | none => rw [e] at hx; cases hx
      | some z => rw [e] at hx; exact ⟨z, (Option.some.inj hx).symm, rfl⟩
    -- once each
    refine ⟨_, rfl, np, us.map V.str, rfl, en_of (.inr (.inl (.inl hnp))) same_rfl fun J Gw wk hG => fun D nD => ?_⟩
    have oD := St.off (St.same hSt S2) nD
    refine lc_it wk (fun i H1 => ∃ bs : List Str, H1 D = some (.lst (bs.map V.str)) ∧ bs = onceL (us.take i) [] ∧ bs.length ≤ i ∧ Same G2 H1) ⟨[], upd_same, rfl, Nat.le_refl _, same_upd nD⟩ (fun i H1 _ ⟨_, _, _, _, sm⟩ => hG _ sm) ?_ ?_
    · rintro i x H1 H1b hi ⟨bs, hD, hbs, hbl, sm⟩ ⟨Tt, x1, y1, rfl, hTt, rfl, e1, e2⟩
      cases e1
      obtain ⟨u, rfl, hui⟩ := txt i y1 e2
      have hil : i < us.length := (List.getElem?_eq_some_iff.mp hui).1
      have Sx := same_upd (o := .tup [V.int (i : Nat), .str u]) hTt
      refine ⟨Tt, _, rfl, .inl (.inl upd_same), rfl, _, _, rfl, _, _, rfl, rfl, rfl, ?_⟩
      have smx := sm.trans Sx
      have hDx := Sx _ _ hD
      have sD0 : G2 D = none := nD
      generalize upd H1 Tt (.tup [V.int (i : Nat), .str u]) = H2 at *
      refine ⟨_, rfl, _, rfl, _, rfl, _, rfl, np, us.map V.str, rfl, .inl (.inl (smx _ _ hnp)), fun H3 qq S3 hq => ?_⟩
      rw [cut_take _ i (by rw [List.length_map]; omega), ← List.map_take] at hq
      refine ⟨qq, _, rfl, .inr hq, rfl, strs_flat _, _, rfl, ?_⟩
      show if (!inV (.str u) ((us.take i).map V.str)) = true then _ else _
      rw [inV_kn]
      have os := once_step hui
      by_cases c : u ∈ us.take i
      · rw [if_pos c] at os
        exact iteF2 (by rw [decide_eq_true c]; rfl) ⟨bs, S3 _ _ hDx, by rw [os, hbs], Nat.le_succ_of_le hbl, smx.trans S3⟩
      · rw [if_neg c] at os
        refine iteT2 (by rw [decide_eq_false c]; rfl) ⟨_, rfl, _, S3 _ _ hDx, ?_, bs ++ [u], by rw [upd_same, List.map_append]; rfl, by rw [os, hbs], by rw [List.length_append, List.length_singleton]; omega, same_put (smx.trans S3) sD0⟩
        rw [List.length_map]
        exact small1000 (by omega)
    rintro H3 ⟨bs, hD, hbs, hbl, sm3⟩
    rw [List.length_map, List.take_length] at hbs
    have S3 : Same H H3 := S2.trans sm3
    have hnp3 := sm3 _ _ hnp
    have hp3 := sqT_same hp0 S3
    clear S1 g2 hp1 S2 nD nnp nd
    -- the tool
    refine fun d2 nd2 => ⟨upd_same, toolD, rfl, by show 3 ≤ 15; decide, ?_⟩
    rw [upd_upd, tool_new]
    have S4 := same_upd (o := .dK toolD) nd2
    have hd2 : (upd H3 d2 (.dK toolD)) d2 = some (.dK toolD) := upd_same
    generalize upd H3 d2 (.dK toolD) = H4 at *
    have hp4 := sqT_same hp3 S4
    refine ⟨d2, rfl, .inl ⟨_, .inl hd2⟩, _, rfl, p, _, 0, _, rfl, rfl, hp4, at0 _ _, _, rfl, p, _, 0, _, rfl, rfl, hp4, at0 _ _, _, DGet.k (k := (.inr w0 : Key)) hd2, ?_⟩
    rw [tool_get]
    have SH4 : Same H H4 := S3.trans S4
    have s4 := St.same hSt SH4
    have hnp4 := S4 _ _ hnp3
    have hD4 := S4 _ _ hD
    -- the table
    obtain ⟨u0, ur, eu⟩ : ∃ u0 ur, us = u0 :: ur := by
      cases us with
      | nil => simp at hul; omega
      | cons u0 ur => exact ⟨u0, ur, rfl⟩
    have gu0 : goodN u0 = true := hus u0 (by rw [eu]; exact List.mem_cons_self)
    have hp4' : atI (V.str w0 :: (us.map V.str ++ way)) 1 = some (.str u0) := by
      rw [eu]
      exact atI_nat (j := 1) rfl
    refine ⟨_, rfl, p, _, 1, _, rfl, rfl, hp4, hp4', by show 4 ≤ sizeLine; decide, fun L nL => ?_⟩
    have oL := St.off s4 nL
    have s5 := St.put (o := .lst [.str "a", .str "b", .str "zz", .str u0]) s4 oL
    have S5 := same_upd (o := .lst [.str "a", .str "b", .str "zz", .str u0]) nL
    have hL : (upd H4 L (.lst [.str "a", .str "b", .str "zz", .str u0])) L = some (.lst [.str "a", .str "b", .str "zz", .str u0]) := upd_same
    generalize upd H4 L (.lst [.str "a", .str "b", .str "zz", .str u0]) = H5 at *
    have S35 : Same H3 H5 := S4.trans S5
    have k5 : Kept sa sw H H5 := Kept.of (S3.trans S35)
    refine ⟨L, rfl, ⟨_, .inl (.inl hL)⟩, fun B nB => ?_⟩
    have oB := St.off s5 nB
    have LB : L ≠ B := ne_of_none hL nB
    have srcok : ∀ (i : Nat) (x : V), [V.str "a", .str "b", .str "zz", .str u0][i]? = some x → ∃ z, x = V.str z ∧ okN x := fun i x hx => by
      match i, hx with
      | 0, hx => cases hx; exact ⟨_, rfl, abz_ok.1⟩
      | 1, hx => cases hx; exact ⟨_, rfl, abz_ok.2.1⟩
      | 2, hx => cases hx; exact ⟨_, rfl, abz_ok.2.2⟩
      | 3, hx => cases hx; exact ⟨_, rfl, good_ok gu0⟩
    refine lc_list (K := K) (a := L) (xs := [.str "a", .str "b", .str "zz", .str u0]) (fun i H' => ∃ (ts : List Addr) (kvs : List (Key × V)), H' B = some (.lst (ts.map V.ref)) ∧ Paired (fun q kv => SqT K H' q [L2.kV kv.1, kv.2]) ts kvs ∧ ts.length = i ∧ kvs.length = i ∧ (∀ e ∈ kvs, okN (L2.kV e.1) ∧ okN e.2) ∧ Kept sa sw H5 H' ∧ St H' sa sw sc (T + i))
      ⟨[], [], upd_same, .nil, rfl, rfl, (fun e he => absurd he List.not_mem_nil), Kept.put (fun b o e _ _ => e) nB, St.put s5 oB⟩ (fun i H' _ ⟨_, _, _, _, _, _, _, k, _⟩ => .inl (.inl (k _ _ hL oL.1 oL.2.1))) ?_ ?_
    · rintro i x H6 hx ⟨ts, kvs, hB, hpr, hl1, hl2, hok, k6, s6⟩
      obtain ⟨z, rfl, hz⟩ := srcok i x hx
      have hi4 : i < 4 := (List.getElem?_eq_some_iff.mp hx).1
      refine ⟨rfl, _, rfl, _, rfl, by show 4 ≤ sizeLine; decide, fun M nM => ?_⟩
      have oM := St.off s6 nM
      have s7 := St.put (o := .lst [.str "a", .str "b", .str "q", .str "o"]) s6 oM
      have S7 := same_upd (o := .lst [.str "a", .str "b", .str "q", .str "o"]) nM
      have hM : (upd H6 M (.lst [.str "a", .str "b", .str "q", .str "o"])) M = some (.lst [.str "a", .str "b", .str "q", .str "o"]) := upd_same
      generalize upd H6 M (.lst [.str "a", .str "b", .str "q", .str "o"]) = H7 at *
      refine ⟨sa, sw, sc, M, T + i, _, rfl, s7, by omega, .inl (.inl hM), oM.1, oM.2.1, by show 0 < 4; decide, by show 4 ≤ 1000; decide, fun H8 v hv k8 s8 => ⟨by show 2 ≤ sizeLine; decide, fun t nt => ?_⟩⟩
      have k68 : Kept sa sw H6 H8 := (Kept.of S7).trans k8
      have ot := St.off s8 nt
      have S9 := same_upd (o := .tup [.str z, v]) nt
      have ht : SqT K (upd H8 t (.tup [.str z, v])) t [L2.kV (.inr z), v] := .inl (.inl upd_same)
      have s9 := St.put (o := .tup [.str z, v]) s8 ot
      have hB8 := S9 _ _ (k68 _ _ hB oB.1 oB.2.1)
      have tk : TK K H6 (upd H8 t (.tup [.str z, v])) := (TK.kept s6 k68).trans (TK.of S9)
      have k9 : Kept sa sw H5 (upd H8 t (.tup [.str z, v])) := k6.trans (k68.trans (Kept.of S9))
      generalize upd H8 t (.tup [.str z, v]) = H9 at *
      have tkB := TK.put (K := K) (o := .lst (ts.map V.ref ++ [.ref t])) hB8
      refine ⟨_, hB8, by rw [List.length_map]; exact small1000 (by omega), ts ++ [t], kvs ++ [(.inr z, v)], by rw [upd_same, List.map_append]; rfl, ?_, by rw [List.length_append, hl1]; rfl, by rw [List.length_append, hl2]; rfl, ?_, Kept.put k9 nB, ?_⟩
      · exact Paired.snoc (Paired.mono (fun a b h => tkB _ _ (tk _ _ h)) hpr) (tkB _ _ ht)
      · intro e he
        rcases List.mem_append.mp he with he | he
        · exact hok e he
        · rw [List.mem_singleton.mp he]
          exact ⟨hz, abq_ok v hv⟩
      · exact St.mono (St.put s9 oB) (by omega)
    rintro H6 ⟨ts, kvs, hB, hpr, hl1, hl2, hok, k6, s6⟩
    have hl2 : kvs.length = 4 := hl2
    refine ⟨B, ts, kvs, rfl, .inl (.inl hB), hpr, fun tb ntb => ?_⟩
    have otb := St.off s6 ntb
    have s7 := St.put (o := .dK (mergeK [] kvs)) s6 otb
    have S7 := same_upd (o := .dK (mergeK [] kvs)) ntb
    have htb : (upd H6 tb (.dK (mergeK [] kvs))) tb = some (.dK (mergeK [] kvs)) := upd_same
    generalize upd H6 tb (.dK (mergeK [] kvs)) = H7 at *
    have k57 : Kept sa sw H5 H7 := k6.trans (Kept.of S7)
    have kH7 : Kept sa sw H H7 := k5.trans k57
    have tk7 : TK K H5 H7 := TK.kept s5 k57
    have hp7 : SqT K H7 p (.str w0 :: (us.map V.str ++ way)) := tk7 _ _ (sqT_same hp3 S35)
    have hnp7 : SqT K H7 np (us.map V.str) := tk7 _ _ (.inl (.inl (S35 _ _ hnp3)))
    have hD7 : H7 D = some (.lst (bs.map V.str)) := k57 _ _ (S5 _ _ hD4) oD.1 oD.2.1
    have s7' : St H7 sa sw sc (T + 4) := s7
    have tabs7 := tabs_kept tabs hSt kH7
    have htab : TabV H7 (.ref tb) true := tab_of htb (by omega) hok
    clear hB hpr k6 s6 k57 tk7 hp3 hp4 hnp3 hnp4 hD hD4 S3 S4 S5 S35 s4 s5 hL nL nB oL oB S7 SH4 sm3 k5 LB srcok nd2 hd2 ntb
    -- the deed with the names exchanged
    have a7 : ∀ (Hx : Hp), Same H7 Hx → SqT K Hx p (.str w0 :: (us.map V.str ++ way)) := fun Hx sx => sqT_same hp7 sx
    have lw : (V.str w0 :: (us.map V.str ++ way)).length ≤ 10 := by
      rw [List.length_cons, List.length_append, List.length_map]
      omega
    refine ⟨_, rfl, _, rfl, p, _, rfl, hp7, fun H8 a8 S8 h8 => ?_⟩
    rw [show cutV (V.str w0 :: (us.map V.str ++ way)) none (some 1) = [.str w0] from cut_take (V.str w0 :: (us.map V.str ++ way)) 1 (by rw [List.length_cons]; omega)] at h8
    refine ⟨_, rfl, np, rfl, ⟨_, sqT_same hnp7 S8⟩, fun D2 nD2 => ?_⟩
    refine lc_it (walk_tup (K := K) (a := np) (xs := us.map V.str)) (fun i H1 => ∃ cs : List V, H1 D2 = some (.lst cs) ∧ cs = ((us.map V.str).take i).map (subV (mergeK [] kvs)) ∧ Same H8 H1) ⟨[], upd_same, rfl, same_upd nD2⟩ (fun i H1 _ ⟨_, _, _, sm⟩ => sqT_same hnp7 (S8.trans sm)) ?_ ?_
    · rintro i x H9 H10 hi ⟨cs, hD2, hcs, sm⟩ ⟨rfl, hx⟩
      obtain ⟨u, rfl, hui⟩ := txt i x hx
      have hil : i < us.length := (List.getElem?_eq_some_iff.mp hui).1
      have step : ((us.map V.str).take (i + 1)).map (subV (mergeK [] kvs)) = cs ++ [subV (mergeK [] kvs) (.str u)] := by
        rw [hcs, List.take_succ, List.map_append, hx]
        rfl
      have htbx := sm _ _ (S8 _ _ htb)
      refine ⟨rfl, _, rfl, tb, rfl, .inl ⟨_, .inl htbx⟩, _, rfl, _, rfl, _, DGet.k (k := (.inr u : Key)) htbx, ?_⟩
      refine ⟨cs, hD2, ?_, cs ++ [subV (mergeK [] kvs) (.str u)], upd_same, step.symm, same_put sm nD2⟩
      rw [hcs, List.length_map, List.length_take]
      exact small1000 (by omega)
    rintro H9 ⟨cs, hD2, hcs, sm9⟩
    rw [List.length_map, ← List.length_map (f := V.str), List.take_length] at hcs
    have S79 := S8.trans sm9
    have lcs : cs.length = us.length := by rw [hcs, List.length_map, List.length_map]
    refine ⟨D2, cs, rfl, .inl ⟨.inl (.inl hD2), fun t9 n9 => ?_⟩⟩
    have S9 := same_upd (o := .tup cs) n9
    have h9 : SqT K (upd H9 t9 (.tup cs)) t9 cs := .inl (.inl upd_same)
    generalize upd H9 t9 (.tup cs) = H10 at *
    have S710 := S79.trans S9
    have sz : ∀ n m : Nat, n ≤ 20 → m ≤ 20 → n + m ≤ sizeLine := fun n m h1 h2 => Nat.le_of_lt (small1000 (by omega))
    refine ⟨a8, t9, _, _, rfl, rfl, sqT_same h8 (sm9.trans S9), h9, sz _ _ (by show 1 ≤ 20; decide) (by omega), fun H11 b11 S11 h11 => ?_⟩
    have S711 := S710.trans S11
    refine ⟨_, rfl, _, rfl, np, _, rfl, .inr (sqT_same hnp7 S711), _, _, rfl, rfl, _, rfl, p, _, rfl, a7 _ S711, fun H12 c12 S12 h12 => ?_⟩
    have ecut : cutV (V.str w0 :: (us.map V.str ++ way)) (some (1 + (((us.map V.str).length : Nat) : Int))) none = way := by
      rw [show (1 + (((us.map V.str).length : Nat) : Int)) = (((us.map V.str).length + 1 : Nat) : Int) by omega]
      refine (cut_drop (V.str w0 :: (us.map V.str ++ way)) ((us.map V.str).length + 1) (by rw [List.length_cons, List.length_append]; omega)).trans ?_
      rw [List.drop_succ_cons, List.drop_left]
    rw [ecut] at h12
    refine ⟨b11, c12, _, _, rfl, rfl, sqT_same h11 S12, h12, sz _ _ (by rw [List.length_append, List.length_singleton]; omega) (by omega), fun H13 du S13 h13 => ?_⟩
    have S713 := S711.trans (S12.trans S13)
    have edu : ([V.str w0] ++ cs) ++ way = subL (mergeK [] kvs) (dwL w0 us way) := by
      rw [dw_sub hf hul, hcs]
      rfl
    rw [edu] at h13
    generalize hdl : subL (mergeK [] kvs) (dwL w0 us way) = dl at *
    have dlat : ∀ x ∈ dl, AtomV x = true := by
      rw [← hdl, dw_sub hf hul]
      intro x hx
      rcases List.mem_cons.mp hx with rfl | hx
      · exact word_atom hf
      · rcases List.mem_append.mp hx with hx | hx
        · obtain ⟨y, hy, rfl⟩ := List.mem_map.mp hx
          obtain ⟨u, hu', rfl⟩ := List.mem_map.mp hy
          exact sub_atom hok (good_atom (hus u hu'))
        · exact List.all_eq_true.mp (way_atom hway) x hx
    clear h8 h9 h11 h12 hD2 sm9 S8 S9 S79 S710 S711 S11 S12 S13 nD2 n9 edu ecut
    -- three answers
    have dd : ∀ Hx, Same H7 Hx → Dd K Hx (.ref p) (some (dwL w0 us way)) := fun Hx sx => .inl ⟨p, _, rfl, a7 _ sx, fun x hx => .atom (hat x hx), by show (V.str w0 :: (us.map V.str ++ way)).length ≤ 100; omega, rfl⟩
    refine ⟨_, rfl, rfl, .ref p, _, rfl, dd _ S713, .inr ⟨_, rfl, hd, fun H14 q14 S14 h14 => ?_⟩⟩
    rw [hnm] at h14
    have S714 := S713.trans S14
    refine ⟨_, rfl, rfl, .ref p, _, rfl, dd _ S714, .inr ⟨_, rfl, hd, fun H15 S15 => ?_⟩⟩
    have S715 := S714.trans S15
    refine ⟨_, rfl, _, rfl, rfl, .ref p, .ref tb, _, rfl, dd _ S715, .inr ⟨_, rfl, hd, .inr ⟨tb, mergeK [] kvs, rfl, S715 _ _ htb, htab.same S715, fun H16 q16 S16 h16 => ?_⟩⟩⟩
    rw [hdl] at h16
    have S716 := S715.trans S16
    refine ⟨by show 3 ≤ sizeLine; decide, fun l16 n16 => ?_⟩
    have S17 := same_upd (o := .lst [.ref q14, .str (toolW (wordL (dwL w0 us way))), .ref q16]) n16
    have h17 : (upd H16 l16 (.lst [.ref q14, .str (toolW (wordL (dwL w0 us way))), .ref q16])) l16 = some (.lst [.ref q14, .str (toolW (wordL (dwL w0 us way))), .ref q16]) := upd_same
    refine ⟨_, rfl, D, _, rfl, .inl ⟨.inl (.inl (S17 _ _ (S716 _ _ hD7))), fun t18 n18 => ?_⟩⟩
    have S18 := same_upd (o := .tup (bs.map V.str)) n18
    have h18 : (upd (upd H16 l16 (.lst [.ref q14, .str (toolW (wordL (dwL w0 us way))), .ref q16])) t18 (.tup (bs.map V.str))) t18 = some (.tup (bs.map V.str)) := upd_same
    refine ⟨_, rfl, _, rfl, by show 3 ≤ sizeLine; decide, fun l19 n19 => ?_⟩
    have S19 := same_upd (o := .lst [.ref t18, .str (toolW w0), .ref du]) n19
    have h19 : (upd (upd (upd H16 l16 (.lst [.ref q14, .str (toolW (wordL (dwL w0 us way))), .ref q16])) t18 (.tup (bs.map V.str))) l19 (.lst [.ref t18, .str (toolW w0), .ref du])) l19 = some (.lst [.ref t18, .str (toolW w0), .ref du]) := upd_same
    generalize upd H16 l16 (.lst [.ref q14, .str (toolW (wordL (dwL w0 us way))), .ref q16]) = G17 at *
    generalize upd G17 t18 (.tup (bs.map V.str)) = G18 at *
    generalize upd G18 l19 (.lst [.ref t18, .str (toolW w0), .ref du]) = G19 at *
    have S1619 := S17.trans (S18.trans S19)
    have S1319 := S14.trans (S15.trans (S16.trans S1619))
    have bsok : ∀ b ∈ bs, PyData.strOk b = true := fun b hb => by
      rw [hbs, once_mem] at hb
      exact (good_name (hus b (hb.resolve_right List.not_mem_nil))).2.1
    have tok : PyData.strOk (toolW w0) = true := by
      have all : ∀ p ∈ formsL, PyData.strOk (toolW p.1) = true := by decide +kernel
      exact all (w0, k) (PySem.mem_of_lookup hf)
    have lay : PyData.canLay0 (.list [.tuple (bs.map PyData.str), .str (toolW w0), .tuple (dl.map atomD)]) = true := by
      simp [PyData.canLay0, PyData.canLayAll0, canLay_strs bs bsok, tok, canLay_atoms dl dlat]
    have shp : SeqAt.shaped (.list [.tuple (bs.map PyData.str), .str (toolW w0), .tuple (dl.map atomD)]) = true := by
      unfold SeqAt.shaped
      rw [lay]
      simp only [PyData.depth, PyData.depthAll, depth_strs, depth_atoms]
      decide
    rw [← hbs] at h14
    refine ⟨.list [.tuple (bs.map PyData.str), .str (toolW w0), .tuple (dl.map atomD)], .list [.tuple (bs.map PyData.str), .str (toolW w0), .tuple (dl.map atomD)],
      .lst (.inl (.inl ((S18.trans S19) _ _ h17))) (.cons (.tup (sqT_same h14 (S15.trans (S16.trans S1619))) (dpAll_strs bs)) (.cons (.str _) (.cons (.tup (sqT_same h16 S1619) (dpAll_atoms dl dlat)) .nil))),
      .lst (.inl (.inl h19)) (.cons (.tup (.inl (.inl (S19 _ _ h18))) (dpAll_strs bs)) (.cons (.str _) (.cons (.tup (sqT_same h13 S1319) (dpAll_atoms dl dlat)) .nil))), shp, shp, _, rfl, ?_⟩
    refine iteF2 (by rw [SeqAt.eqv_refl _ lay]; rfl) ?_
    have S719 := S716.trans S1619
    have sA := St.same s7' S719
    have tabsA := tabs_same tabs7 S719
    have kA : Kept sa sw H G19 := kH7.trans (Kept.of S719)
    have ddA := dd _ S719
    clear S14 S15 S16 S17 S18 S19 S1319 S1619 S713 S714 S715 S716 S719 h13 h14 h16 h17 h18 h19 n16 n18 n19 dd a7 hp7 hnp7 hD7 s7 s7' tabs7 htab htb
    -- a table that is none
    have one : ∀ (kk : Key) (v : V), mergeK [] [(kk, v)] = [(kk, v)] := fun kk v => rfl
    refine ⟨_, rfl, Nat.zero_le _, fun l1 n1 => ⟨by show 2 ≤ sizeLine; decide, fun t1 m1 => ⟨by show 1 ≤ sizeLine; decide, fun l2 n2 => fun e1 c1 => ⟨upd_same, [(.inr "a", .non)], rfl, by show 1 ≤ 15; decide, ?_⟩⟩⟩⟩
    rw [upd_upd, one]
    refine fun e2 c2 => ⟨upd_same, [(.inr "", .str "a")], rfl, by show 1 ≤ 15; decide, ?_⟩
    rw [upd_upd, one]
    refine fun e3 c3 => ⟨upd_same, [(.inr "a", .str "B")], rfl, by show 1 ≤ 15; decide, ?_⟩
    rw [upd_upd, one]
    refine fun e4 c4 => ⟨upd_same, [(.inl 1, .str "a")], rfl, by show 1 ≤ 15; decide, ?_⟩
    rw [upd_upd, one]
    have o1 := St.off sA n1
    have s1 := St.put (o := .lst []) sA o1
    have B1 := same_upd (o := .lst []) n1
    have f1 := upd_same (H := G19) (a := l1) (o := .lst [])
    generalize upd G19 l1 (.lst []) = G1 at *
    have o2 := St.off s1 m1
    have s2 := St.put (o := .tup [.str "a", .str "b"]) s1 o2
    have B2 := same_upd (o := .tup [.str "a", .str "b"]) m1
    generalize upd G1 t1 (.tup [.str "a", .str "b"]) = G2' at *
    have o3 := St.off s2 n2
    have s3 := St.put (o := .lst [.ref t1]) s2 o3
    have B3 := same_upd (o := .lst [.ref t1]) n2
    have f3 := upd_same (H := G2') (a := l2) (o := .lst [.ref t1])
    generalize upd G2' l2 (.lst [.ref t1]) = G3 at *
    have o4 := St.off s3 c1
    have s4 := St.put (o := .dK [(.inr "a", .non)]) s3 o4
    have B4 := same_upd (o := .dK [(.inr "a", .non)]) c1
    have f4 := upd_same (H := G3) (a := e1) (o := .dK [(.inr "a", .non)])
    generalize upd G3 e1 (.dK [(.inr "a", .non)]) = G4 at *
    have o5 := St.off s4 c2
    have s5 := St.put (o := .dK [(.inr "", .str "a")]) s4 o5
    have B5 := same_upd (o := .dK [(.inr "", .str "a")]) c2
    have f5 := upd_same (H := G4) (a := e2) (o := .dK [(.inr "", .str "a")])
    generalize upd G4 e2 (.dK [(.inr "", .str "a")]) = G5 at *
    have o6 := St.off s5 c3
    have s6 := St.put (o := .dK [(.inr "a", .str "B")]) s5 o6
    have B6 := same_upd (o := .dK [(.inr "a", .str "B")]) c3
    have f6 := upd_same (H := G5) (a := e3) (o := .dK [(.inr "a", .str "B")])
    generalize upd G5 e3 (.dK [(.inr "a", .str "B")]) = G6 at *
    have o7 := St.off s6 c4
    have s7 := St.put (o := .dK [(.inl 1, .str "a")]) s6 o7
    have B7 := same_upd (o := .dK [(.inl 1, .str "a")]) c4
    have f7 := upd_same (H := G6) (a := e4) (o := .dK [(.inl 1, .str "a")])
    generalize upd G6 e4 (.dK [(.inl 1, .str "a")]) = G7 at *
    refine ⟨by show 7 ≤ sizeLine; decide, fun L8 n8 => ?_⟩
    have o8 := St.off s7 n8
    have s8 := St.put (o := .lst (oddT l1 l2 e1 e2 e3 e4)) s7 o8
    have B8 := same_upd (o := .lst (oddT l1 l2 e1 e2 e3 e4)) n8
    refine ⟨sa, sw, sc, L8, T + 4, oddT l1 l2 e1 e2 e3 e4, rfl, s8, by omega, .inl (.inl upd_same), o8.1, o8.2.1, by show 0 < 7; decide, by show 7 ≤ 1000; decide, fun HF x hx kF sF => ?_⟩
    have kk : ∀ b o, G7 b = some o → b ≠ sa → b ≠ sw → HF b = some o := fun b o e1 h1 h2 => kF _ _ (B8 _ _ e1) h1 h2
    have kAF : Kept sa sw G19 HF := (Kept.of (B1.trans (B2.trans (B3.trans (B4.trans (B5.trans (B6.trans (B7.trans B8)))))))).trans kF
    have odd : TabV HF x false := by
      simp only [oddT, List.mem_cons, List.not_mem_nil, or_false] at hx
      have dict : ∀ (e : Addr) (kx : Key) (v : V), HF e = some (.dK [(kx, v)]) → AtomV (L2.kV kx) = true → AtomV v = true → (nameV (L2.kV kx) && nameV v) = false → TabV HF (.ref e) false := fun e kx v h a b c => by
        have r : ([(kx, v)].all fun e => nameV (L2.kV e.1) && nameV e.2) = false := by
          rw [List.all_cons, c]
          rfl
        exact r ▸ .dict h (by show 1 ≤ 10; decide) (by simp) fun y hy => by
          rw [List.mem_singleton.mp hy]
          exact ⟨a, b⟩
      rcases hx with rfl | rfl | rfl | rfl | rfl | rfl | rfl
      · exact .non
      · exact .lst (kk _ _ ((B2.trans (B3.trans (B4.trans (B5.trans (B6.trans B7))))) _ _ f1) o1.1 o1.2.1)
      · exact .lst (kk _ _ ((B4.trans (B5.trans (B6.trans B7))) _ _ f3) o3.1 o3.2.1)
      · exact dict _ _ _ (kk _ _ ((B5.trans (B6.trans B7)) _ _ f4) o4.1 o4.2.1) (by decide +kernel) rfl (by decide +kernel)
      · exact dict _ _ _ (kk _ _ ((B6.trans B7) _ _ f5) o5.1 o5.2.1) (by decide +kernel) (by decide +kernel) (by decide +kernel)
      · exact dict _ _ _ (kk _ _ (B7 _ _ f6) o6.1 o6.2.1) (by decide +kernel) (by decide +kernel) (by decide +kernel)
      · exact dict _ _ _ (kk _ _ f7 o7.1 o7.2.1) (by decide +kernel) (by decide +kernel) (by decide +kernel)
    have tabsF := tabs_kept tabsA sA kAF
    have ddF := Dd.kept ddA sA sF kAF
    -- it is refused
    refine ⟨tabsF, fun Ha ea ta => ?_⟩
    refine ⟨_, rfl, _, rfl, .ref p, x, _, rfl, Dd.ext ddF ea, .inr ⟨_, rfl, hd, .inl ⟨TabV.ext odd ea, fun Hb Sb => ⟨exmB, fun e ne => ?_⟩⟩⟩⟩
    have he : (upd Hb e (ErrO (.ref CB) none e)) e = some (ErrO (.ref CB) none e) := upd_same
    have eb : LamX.ExtN HF (upd Hb e (ErrO (.ref CB) none e)) := ea.trans (LamX.ExtN.of (Sb.trans (same_upd ne)))
    have tb := tabs_same ta (Sb.trans (same_upd (o := ErrO (.ref CB) none e) ne))
    generalize upd Hb e (ErrO (.ref CB) none e) = Hc at eb tb he
    refine ⟨e, .ref CB, .ref CB, true, rfl, he, fun u r => r, kitB, ?_⟩
    exact q Hc ((KeptN.of (kA.trans kAF)).trans (KeptN.ext eb)) (St.mono (St.ext sF eb) (by omega)) tb
end
end Z62

set_option Elab.async false
set_option linter.all false
set_option maxRecDepth 100000
set_option maxHeartbeats 4000000
namespace Z63
open PySem PySem.Spec PyProof.Rows L2 Cau RepG Dr14 Z1 Z2 Z3 Z4 ZE Z5 Z6 Z7 Z8 Z9 ZN5 ZN6 ZN7 ZN8 ZN10 ZN11 ZN12 ZN13 ZN19 ZN20 ZN21 ZN22 ZN22b ZN25 Z50 Z51 Z52 Z53 Z54 Z55 Z56 Z57 Z58 Z59 Z60 Z61 Z62 TxtSet
abbrev sErrR : Stmt := topS 165
theorem once_find {f : Str → Bool} : ∀ (l acc : List Str), (onceL l acc).find? f = (acc ++ l).find? f
  | [], acc => by rw [List.append_nil]; rfl
  | z :: r, acc => by
    rw [onceL_cons]
    split
    · rename_i h
      rw [once_find r acc, List.find?_append, List.find?_append, List.find?_cons]
      cases e : acc.find? f with
      | some x => rfl
      | none =>
        have hz : f z = false := by
          have := List.find?_eq_none.mp e z h
          simpa using this
        rw [hz]
    · rw [once_find r (acc ++ [z]), List.append_assoc]
      rfl
theorem head_filter {α : Type} (f : α → Bool) : ∀ l : List α, (l.filter f).head? = l.find? f
  | [] => rfl
  | x :: r => by
    rw [List.filter_cons, List.find?_cons]
    cases e : f x with
    | true => rfl
    | false => exact head_filter f r
/-- but for lists, dicts and tables of code objects -/
def KObj (H H' : Hp) : Prop := ∀ b o, H b = some o → (∀ xs, o ≠ .lst xs) → (∀ kvs, o ≠ .dK kvs) → (∀ ps, o ≠ .tbl ps) → H' b = some o
theorem KObj.kept {H H' : Hp} {a w c : Addr} {T : Nat} (s : St H a w c T) (k : Kept a w H H') : KObj H H' := fun b o e n1 n2 _ => by
  obtain ⟨_, ws, cs, r, t, h1, h2, _⟩ := s
  refine k b o e (fun z => ?_) (fun z => ?_)
  · rw [z, h1] at e
    exact n2 _ (Option.some.inj e).symm
  · rw [z, h2] at e
    exact n1 _ (Option.some.inj e).symm
theorem KObj.ext {H H' : Hp} (e : LamX.ExtN H H') : KObj H H' := fun b o h _ _ n3 => e b o h n3
theorem NumAt.kobj {CN p : Addr} {H H' : Hp} (h : NumAt CN H p) (k : KObj H H') : NumAt CN H' p := by
  obtain ⟨dx, fs, h⟩ := h
  exact ⟨dx, fs, k _ _ h (fun _ z => by cases z) (fun _ z => by cases z) (fun _ z => by cases z)⟩
theorem PtV.kobj {CN : Addr} {H H' : Hp} {v : V} {b : Bool} (h : PtV CN H v b) (k : KObj H H') : PtV CN H' v b := by
  cases h with
  | int h => exact .int h
  | duo h => exact .duo (k _ _ h (fun _ z => by cases z) (fun _ z => by cases z) (fun _ z => by cases z))
  | pt h na nc => exact .pt (k _ _ h (fun _ z => by cases z) (fun _ z => by cases z) (fun _ z => by cases z)) (NumAt.kobj na k) (NumAt.kobj nc k)
theorem SheetAt.kobj {CN p : Addr} {H H' : Hp} (h : SheetAt CN H p) (k : KObj H H') (d : ∀ o, H p = some o → (∀ ps, o ≠ .tbl ps) → H' p = some o) : SheetAt CN H' p := by
  obtain ⟨rs, h1, h2, h3⟩ := h
  exact ⟨rs, d _ h1 (fun _ z => by cases z), h2, fun r hr => ⟨PtV.kobj (h3 r hr).1 k, (h3 r hr).2⟩⟩
theorem PtsV.ext {CN : Addr} {H H' : Hp} {v : V} {b : Bool} (h : PtsV CN H v b) (e : LamX.ExtN H H') : PtsV CN H' v b := by
  cases h with
  | non => exact .non
  | lst h => exact .lst (e _ _ h fun _ z => by cases z)
  | dict h l nd ok => exact .dict (e _ _ h fun _ z => by cases z) l nd fun r hr => ⟨(ok r hr).1, PtV.kobj (ok r hr).2 (KObj.ext e)⟩
theorem sheet_val {CN d : Addr} {H : Hp} (h : SheetAt CN H d) {z : Str} (hz : z ∈ sheetL) : ∃ v, DGet H d (.str z) (some v) ∧ PtV CN H v true := by
  obtain ⟨rs, h1, h2, h3⟩ := h
  rw [← h2] at hz
  obtain ⟨r, hr, rfl⟩ := List.mem_map.mp hz
  obtain ⟨i, hi, e⟩ := List.getElem_of_mem hr
  have v := val_at (rs := rs) (i := i) (r := r) (h2 ▸ sheet_nd) (by rw [List.getElem?_eq_getElem hi, e])
  exact ⟨r.2.1, v ▸ DGet.k (k := (.inr r.1 : Key)) h1, (h3 r hr).1⟩
def errN : List Str := ["state", "deed", "bent", "whole", "first", "second", "errors", "odd", "points", "name", "error"]
def spErrR (K : PySem.W.Frag) (TT : List (Addr × Str)) : Sp := fun vs H Q _ => ∃ (a w c p : Addr) (T : Nat) (xs : List V) (bv : V) (bo : Option (List V)), vs = [.ref a, .ref p, bv] ∧ St H a w c T ∧ T + 100 ≤ 1000000 ∧ deedL xs = true ∧ (∀ u ∈ namesL xs, goodN u = true) ∧ Dd K H (.ref p) (some xs) ∧ Dd K H bv bo ∧ LamX.Tabs TT H ∧
  ∀ H', KeptN a w H H' → St H' a w c (T + 100) → LamX.Tabs TT H' → Q (.bl true) H'
/-- the second question -/
def tSec (K : PySem.W.Frag) (TT : List (Addr × Str)) (CN : Addr) : TS := fun D σ H => ∃ (x0 x2 x4 x7 : V) (p W sh : Addr) (xs : List V) (bs : List Str), σ = [some x0, some (.ref p), some x2, some (.ref W), some x4, none, none, some x7, some (.ref sh), none, none] ∧ Dd K H (.ref p) (some xs) ∧ deedL xs = true ∧ SheetAt CN H sh ∧ H W = some (.lst (bs.map V.str)) ∧ bs.head? = lostL (namesL xs) ∧ (∀ b ∈ bs, PyData.strOk b = true) ∧ LamX.Tabs TT H ∧
  ∀ H' y5, LamX.ExtN H H' → LamX.Tabs TT H' → D.nx [some x0, some (.ref p), some x2, some (.ref W), some x4, y5, none, some x7, some (.ref sh), none, none] H'
section
variable {P : Program} {w : World} {K : PySem.W.Frag} {mg : Str → Option Value} {base : Heap} {CN : Addr}
theorem scEr : FnScope errN ["state", "deed", "bent"] (defScope sErrR) := ⟨rfl, rfl, rfl, by decide +kernel, rfl, by decide +kernel, by decide +kernel⟩
theorem ok_errR {f fP fS fN fT fO fL fU fC CR CD CB CP CM c Pt : Addr} {fdP fdS fdN fdT fdO fdL fdU : FuncData} {TT : List (Addr × Str)}
    {od an odC anC : Option Addr} {osl oslC : Array (Option Value)} {dV kV doc pm ct oc kVC docC pmC ctC ocC cdvC dVC : Value}
    (lk : K.lookup f = some ⟨oc, od, .func (PySem.W.fnOf "_law_errors_right" "_law_errors_right" (defArgs sErrR) (defBody sErrR) (defScope sErrR) dV kV doc pm an (.ref c) ct), osl⟩) (hcd : PySem.W.codeIn K (.ref c) "_law_errors_right" = true)
    (TB : LamX.TabB base mg c Pt) (hmT : (Pt, lamQ "_law_errors_right") ∈ TT) (huT : ∀ p ∈ TT, p.1 = Pt → p.2 = lamQ "_law_errors_right")
    (FP : Fun K "_law_pick" "_law_pick" sPick fP fdP) (GP : FnOk P w K mg base CX0 3 fP fdP ["state", "some"] (spPick K)) (bP : Binds K fdP ["state", "some"] []) (gP : mg "_law_pick" = some (.ref fP))
    (FS : Fun K "sheet" "sheet" sSheet fS fdS) (GS : FnOk P w K mg base CX0 8 fS fdS [] (spSheet CN)) (bS : Binds K fdS [] []) (gS : mg "sheet" = some (.ref fS))
    (FN : Fun K "names_of" "names_of" sNamesOf fN fdN) (GN : FnOk P w K mg base (L2.CX P w) 4 fN fdN ["deed"] (spOfDeed K CD (goodNames K))) (bN : Binds K fdN ["deed"] []) (gN : mg "names_of" = some (.ref fN))
    (FT : Fun K "tool_of" "tool_of" sToolOf fT fdT) (GT : FnOk P w K mg base (L2.CX P w) 4 fT fdT ["deed"] (spOfDeed K CD goodTool)) (bT : Binds K fdT ["deed"] []) (gT : mg "tool_of" = some (.ref fT))
    (FO : Fun K "on_names" "on_names" sOnNames fO fdO) (GO : FnOk P w K mg base (L2.CX P w) 4 fO fdO ["deed", "table"] (spOn K CD CB)) (bO : Binds K fdO ["deed", "table"] []) (gO : mg "on_names" = some (.ref fO))
    (FL : Fun K "laid" "laid" sLaid fL fdL) (GL : FnOk P w K mg base (L2.CX P w) 5 fL fdL ["deed", "points"] (spLaid K CN CD CP CM)) (bL : Binds K fdL ["deed", "points"] []) (gL : mg "laid" = some (.ref fL))
    (FU : Fun K "_law_is_deed_due" "_law_is_deed_due" sDeedDue fU fdU) (GU : FnG P w K mg base CX0 2 fU fdU ["value"] (spDeed K)) (bU : Binds K fdU ["value"] []) (gU : mg "_law_is_deed_due" = some (.ref fU))
    (lkC : K.lookup fC = some ⟨ocC, odC, .func (PySem.W.fnOf "_law_caught" "_law_caught" (defArgs sCaught) (defBody sCaught) (defScope sCaught) dVC kVC docC pmC anC cdvC ctC), oslC⟩) (hcdC : PySem.W.codeIn K cdvC "_law_caught" = true) (kC : PySem.W.keepIn K (.ref fC) = true)
    (bC : Binds K (PySem.W.fnOf "_law_caught" "_law_caught" (defArgs sCaught) (defBody sCaught) (defScope sCaught) dVC kVC docC pmC anC cdvC ctC) ["action"] []) (gC : mg "_law_caught" = some (.ref fC))
    (gRE : mg "RulerError" = some (.ref CR))
    (gBD : mg "BadDeed" = some (.ref CD)) (exmD : PySem.W.exmOne K (.ref CD) (.ref CR) = some true) (kitD : PySem.W.kitOne K (.ref CD) (.ref CD) = some true) (ED : ExcC K CD)
    (gBP : mg "BadPoints" = some (.ref CP)) (exmP : PySem.W.exmOne K (.ref CP) (.ref CR) = some true) (kitP : PySem.W.kitOne K (.ref CP) (.ref CP) = some true) (EP : ExcC K CP)
    (gNN : mg "NoName" = some (.ref CM)) (exmM : PySem.W.exmOne K (.ref CM) (.ref CR) = some true) (kitM : PySem.W.kitOne K (.ref CM) (.ref CM) = some true) (EM : ExcC K CM) (hno : PySem.W.findIn K (.ref CM) "name" = some none)
    (mi : mg "isinstance" = none) :
    FnG P w K mg base CX0 9 f (PySem.W.fnOf "_law_errors_right" "_law_errors_right" (defArgs sErrR) (defBody sErrR) (defScope sErrR) dV kV doc pm an (.ref c) ct) ["state", "deed", "bent"] (spErrR K TT) := by
  refine okGL lk hcd scEr (fun vs H Q E h => ?_) (fun A outer s H vs Q E g hr h => ?_)
  · obtain ⟨a, w, c, p, T, xs, bv, bo, rfl, _⟩ := h
    rfl
  · obtain ⟨sa, sw, sc, p, T, xs, bv, bo, rfl, hSt, hT, hd, hgood, hp, hb, tabs, q⟩ := h
    have hu := hu_of (hr.mono (Nat.zero_le _) : Room 0 _)
    have hr4 : Room 4 _ := hr.mono (by decide)
    have hr3 : Room 3 _ := hr.mono (by decide)
    refine ⟨_, pss_cons (ps_asg (pe_tup (pa_cons (pe_call0 GS hr (by rfl) gS FS.kp bS .nil pass0) (pa_cons
          (pe_lc (own := [("name", 9)]) (g := gName 9) rfl scEr.nd (pi_tup (pe_call GN hr4 (by rfl) gN FN.kp bN .nil passN (pa_cons (pv 1) pa_nil)))
            (blkOk_by (own := [("name", 9)]) (N := errN) (sc := defScope sErrR) (by decide +kernel)) (fun _ _ _ _ _ => pg_name (i := 9) scEr.nd rfl (.inl rfl))
            (fun _ _ _ _ _ => pts_one (pt_cmp (pc_dnotin hu (pv 9) (pe_call0 GS hr (by rfl) gS FS.kp bS .nil pass0)))) (fun _ _ _ _ _ => pv 9)) pa_nil)))
          (pg_tup (by rfl) (pgs_cons (pg_name (i := 8) scEr.nd rfl (.inr rfl)) (pgs_cons (pg_name (i := 3) scEr.nd rfl (.inl rfl)) pgs_nil))))
      (pss_cons (ps_set (i := 7) scEr.nd rfl (.inr rfl) (pe_call GP hr3 (by rfl) gP FP.kp bP .nil pass0 (pa_cons (pv 0) (pa_cons (pe_lst (pa_cons pe_non (pa_cons (pe_lst pa_nil)
          (pa_cons (pe_disp (pps_cons pe_str pe_int pps_nil) (by rfl) (by rfl) (fun z => by cases z) (by decide)) (pa_cons (pe_disp (pps_cons pe_str (pe_tup (pa_cons pe_int (pa_cons pe_int pa_nil))) pps_nil) (by rfl) (by rfl) (fun z => by cases z) (by decide))
          (pa_cons (pe_disp (pps_cons pe_str (pe_dget hu (pv 8) pe_str (fun _ _ => rfl)) pps_nil) (by rfl) (by rfl) (fun z => by cases z) (by decide)) pa_nil)))))) pa_nil))))
      (pss_cons (ps_set (i := 4) scEr.nd rfl (.inl rfl) (pe_cau (T := TT) lkC hcdC kC bC gC gRE TB rfl hmT huT (hr.mono (by decide) : Room (5 + 2) _) (by rfl) (show LamX.LamS (defScope sErrR) _ from LamX.lamS_by (by decide +kernel)) rfl (fun _ _ _ _ _ => rfl)
            (fun A o s H E f c' hrl => pe_call GL hrl (by rfl) gL FL.kp bL .nil (passes_call (takes_of rfl rfl rfl rfl) (fun _ _ _ _ h => h)) (pa_cons (pv 1) (pa_cons (pv 7) pa_nil)))))
      (pss_cons (ps_if (pt_not (pt_val (pe_callB (call_isErr EP) (by rfl) mi (by decide +kernel) (pa_cons (pv 4) (pa_cons (pe_glob (v := .ref CP) (by rfl) gBP rfl) pa_nil))))) (pss_one (ps_ret pe_bl)) pss_nil)
      (pss_cons (ps_weak (t' := tSec K TT CN) (ps_if (pt_cmpR (op_neD hr.units) (pv 3) (pe_lst pa_nil) (nomark _))
          (pss_cons (ps_set (i := 5) scEr.nd rfl (.inl rfl) (pe_cau (T := TT) lkC hcdC kC bC gC gRE TB rfl hmT huT (hr.mono (by decide) : Room (5 + 2) _) (by rfl) (show LamX.LamS (defScope sErrR) _ from LamX.lamS_by (by decide +kernel)) rfl (fun _ _ _ _ _ => rfl)
            (fun A o s H E f c' hrl => pe_call GL hrl (by rfl) gL FL.kp bL .nil (passes_call (takes_of rfl rfl rfl rfl) (fun _ _ _ _ h => h)) (pa_cons (pv 1) (pa_cons (pv 8) pa_nil)))))
          (pss_one (ps_if (PW.pt (pw_or (pt_not (pt_val (pe_callB (ErrD.call_isErrD EM) (by rfl) mi (by decide +kernel) (pa_cons (pv 5) (pa_cons (pe_glob (v := .ref CM) (by rfl) gNN rfl) pa_nil)))))
            (pw_or1 (pt_cmpR op_ne (ErrD.pe_errF EM hno (pv 5)) (pe_ix ix_list (pv 3) pe_int (fun _ _ => rfl)) (nomark _))))) (pss_one (ps_ret pe_bl)) pss_nil))) pss_nil) ?sec)
      (pss_cons (ps_if (pt_val (pe_callG GU g (hr.mono (by decide)) (by rfl) gU FU.kp bU pass0 (pa_cons (pv 2) pa_nil))) (pss_one (ps_ret pe_bl)) pss_nil)
      (pss_cons (ps_set (i := 6) scEr.nd rfl (.inl rfl) (pe_lst (pa_cons (pe_cau (T := TT) lkC hcdC kC bC gC gRE TB rfl hmT huT (hr.mono (by decide) : Room (5 + 2) _) (by rfl) (show LamX.LamS (defScope sErrR) _ from LamX.lamS_by (by decide +kernel)) rfl (fun _ _ _ _ _ => rfl)
            (fun A o s H E f c' hrl => pe_call GL hrl (by rfl) gL FL.kp bL .nil (passes_call (takes_of rfl rfl rfl rfl) (fun _ _ _ _ h => h)) (pa_cons (pv 2) (pa_cons (pv 7) pa_nil))))
          (pa_cons (pe_cau (T := TT) lkC hcdC kC bC gC gRE TB rfl hmT huT (hr.mono (by decide) : Room (4 + 2) _) (by rfl) (show LamX.LamS (defScope sErrR) _ from LamX.lamS_by (by decide +kernel)) rfl (fun _ _ _ _ _ => rfl)
            (fun A o s H E f c' hrl => pe_call GN hrl (by rfl) gN FN.kp bN .nil (passes_call (takes_of rfl rfl rfl rfl) (fun _ _ _ _ h => h)) (pa_cons (pv 2) pa_nil))) pa_nil))))
      (pss_cons (ps_set (i := 6) scEr.nd rfl (.inl rfl) (pe_op op_cat (pv 6) (pe_lst (pa_cons (pe_cau (T := TT) lkC hcdC kC bC gC gRE TB rfl hmT huT (hr.mono (by decide) : Room (4 + 2) _) (by rfl) (show LamX.LamS (defScope sErrR) _ from LamX.lamS_by (by decide +kernel)) rfl (fun _ _ _ _ _ => rfl)
            (fun A o s H E f c' hrl => pe_call GT hrl (by rfl) gT FT.kp bT .nil (passes_call (takes_of rfl rfl rfl rfl) (fun _ _ _ _ h => h)) (pa_cons (pv 2) pa_nil)))
          (pa_cons (pe_cau (T := TT) lkC hcdC kC bC gC gRE TB rfl hmT huT (hr.mono (by decide) : Room (4 + 2) _) (by rfl) (show LamX.LamS (defScope sErrR) _ from LamX.lamS_by (by decide +kernel)) rfl (fun _ _ _ _ _ => rfl)
            (fun A o s H E f c' hrl => pe_call GO hrl (by rfl) gO FO.kp bO .nil (passes_call (takes_of rfl rfl rfl rfl) (fun _ _ _ _ h => h)) (pa_cons (pv 2) (pa_cons (pv 7) pa_nil)))) pa_nil)))))
      (pss_one (ps_ret (pe_cmpR (op_eqD hr.units) (pe_lc (own := [("error", 10)]) (g := gName 10) rfl scEr.nd (pi_list (pv 6))
            (blkOk_by (own := [("error", 10)]) (N := errN) (sc := defScope sErrR) (by decide +kernel)) (fun _ _ _ _ _ => pg_name (i := 10) scEr.nd rfl (.inl rfl))
            (fun _ _ _ _ _ => pts_one (pt_not (pt_val (pe_callB (show CallR _ (.builtin "isinstance") (rIsErr K CD) from call_isErr ED) (by rfl) mi (by decide +kernel) (pa_cons (pv 10) (pa_cons (pe_glob (v := .ref CD) (by rfl) gBD rfl) pa_nil)))))) (fun _ _ _ _ _ => pe_int)) (pe_lst pa_nil) (nomark _)))))))))))
      , ?_⟩
    case sec =>
      rintro Dn σ H7 ⟨x0, x2, x4, x7, p, W, sh, xs, bs, rfl, hp, hd, hsh, hW, hh, hok, tb, q⟩
      refine ⟨_, rfl, Nat.zero_le _, fun l nl => ?_⟩
      have S := same_upd (o := .lst []) nl
      refine ⟨_, _, dp_strs (.inl (.inl (S _ _ hW))), dp_nil upd_same, shaped_strs hok, shaped_nil, _, rfl, ?_⟩
      rw [eqv_nil]
      cases bs with
      | nil => exact iteF2 rfl (q _ _ (LamX.ExtN.of S) (tabs_same tb S))
      | cons z r =>
        refine iteT2 rfl ?_
        have hW0 := S _ _ hW
        have tb0 := tabs_same tb S
        have hsh0 := hsh.same S
        have hp0 := hp.same S
        have e0 : LamX.ExtN H7 (upd H7 l (.lst [])) := LamX.ExtN.of S
        generalize upd H7 l (.lst []) = H8 at *
        refine ⟨tb0, fun Ha ea ta => ?_⟩
        refine ⟨_, rfl, _, rfl, .ref p, .ref sh, _, rfl, Z62.Dd.ext hp0 ea, .inr ⟨xs, rfl, hd, .inr ⟨sh, z, rfl, SheetAt.kobj hsh0 (KObj.ext ea) (fun o e n => ea _ _ e n), hh.symm, fun Hb dd Sb ndd hdd => ⟨exmM, fun e ne => ?_⟩⟩⟩⟩
        have nde : dd ≠ e := ne_of_none hdd ne
        have hE : (upd Hb e (ErrO (.ref CM) (some dd) e)) e = some (ErrO (.ref CM) (some dd) e) := upd_same
        have hd2 : (upd Hb e (ErrO (.ref CM) (some dd) e)) dd = some (.xd [("name", .str z)]) := (upd_ne nde).trans hdd
        have eb : LamX.ExtN H8 (upd Hb e (ErrO (.ref CM) (some dd) e)) := ea.trans (LamX.ExtN.of (Sb.trans (same_upd ne)))
        have tc := tabs_same ta (Sb.trans (same_upd (o := ErrO (.ref CM) (some dd) e) ne))
        generalize upd Hb e (ErrO (.ref CM) (some dd) e) = Hc at hE hd2 eb tc
        refine ⟨_, rfl, e, dd, _, .ref CM, .ref CM, true, rfl, hE, hd2, fun u r => r, kitM, true, rfl, iteF ?_⟩
        have hWc := eb _ _ hW0 (fun _ z => by cases z)
        refine ⟨_, rfl, e, dd, _, .str z, rfl, hE, hd2, rfl, _, rfl, W, _, 0, _, rfl, rfl, .inl (.inl hWc), atI_nat (j := 0) rfl, rfl, _, rfl, iteF2 (by simp) ?_⟩
        exact q Hc _ (e0.trans eb) tc
    -- the sheet, and the names that are not on it
    refine ⟨rfl, fun H1 sh S1 nsh hsh => ?_⟩
    have hp1 := hp.same S1
    refine ⟨_, rfl, .ref p, _, rfl, hp1, .inr ⟨xs, rfl, hd, fun H2 q2 S2 h2 => ?_⟩⟩
    generalize hns : onceL (namesL xs) [] = ns at *
    have lns : ns.length ≤ 5 := by
      obtain ⟨w0, r, k, rfl, hf, _, _⟩ := word_of hd
      rw [← hns, names_is hf]
      have h1 := onceL_le ((r.take k).filterMap txtOf) []
      have h2 := List.length_filterMap_le txtOf (r.take k)
      have h3 := (formOf_small hf).2
      rw [List.length_take] at h2
      have h4 : ([] : List Str).length = 0 := rfl
      omega
    have nsgood : ∀ z ∈ ns, goodN z = true := fun z hz => by
      rw [← hns, once_mem] at hz
      exact hgood z (hz.resolve_right List.not_mem_nil)
    refine ⟨q2, rfl, ⟨_, h2⟩, fun D nD => ?_⟩
    have S12 := S1.trans S2
    refine lc_it (walk_tup (K := K) (a := q2) (xs := ns.map V.str)) (fun i H1 => ∃ bs : List Str, H1 D = some (.lst (bs.map V.str)) ∧ bs = (ns.take i).filter (fun u => !decide (u ∈ sheetL)) ∧ bs.length ≤ i ∧ Same H2 H1) ⟨[], upd_same, rfl, Nat.le_refl _, same_upd nD⟩ (fun i H1 _ ⟨_, _, _, _, sm⟩ => sqT_same h2 sm) ?_ ?_
    · rintro i x H3 H4 hi ⟨bs, hD, hbs, hbl, sm⟩ ⟨rfl, hx⟩
      obtain ⟨z, rfl, hz⟩ : ∃ z, x = V.str z ∧ ns[i]? = some z := by
        rw [List.getElem?_map] at hx
        cases e : ns[i]? with
        | none => rw [e] at hx; cases hx
        | some z => rw [e] at hx; exact ⟨z, (Option.some.inj hx).symm, rfl⟩
      have hil := (List.getElem?_eq_some_iff.mp hz).1
      have step : (ns.take (i + 1)).filter (fun u => !decide (u ∈ sheetL)) = bs ++ (if z ∈ sheetL then [] else [z]) := by
        rw [hbs, List.take_succ, hz, List.filter_append]
        by_cases h : z ∈ sheetL <;> simp [h]
      refine ⟨rfl, _, rfl, rfl, fun H5 s5 S5 n5 h5 => ?_⟩
      obtain ⟨o, gd, ho⟩ := sheet_get h5 z
      refine ⟨s5, o, rfl, gd, _, rfl, ?_⟩
      rw [ho]
      by_cases h : z ∈ sheetL
      · rw [if_pos h, List.append_nil] at step
        exact iteF2 (by rw [decide_eq_true h]; rfl) ⟨bs, S5 _ _ hD, step.symm, Nat.le_succ_of_le hbl, sm.trans S5⟩
      · rw [if_neg h] at step
        refine iteT2 (by rw [decide_eq_false h]; rfl) ⟨_, rfl, _, S5 _ _ hD, ?_, bs ++ [z], by rw [upd_same, List.map_append]; rfl, step.symm, by rw [List.length_append, List.length_singleton]; omega, same_put (sm.trans S5) nD⟩
        rw [List.length_map]
        exact small1000 (by omega)
    rintro H3 ⟨bs, hD, hbs, hbl, sm⟩
    rw [List.length_map, List.take_length] at hbs
    have hh : bs.head? = lostL (namesL xs) := by
      rw [hbs, head_filter, ← hns, once_find]
      rfl
    have bok : ∀ b ∈ bs, PyData.strOk b = true := fun b hb' => by
      rw [hbs] at hb'
      exact (good_name (nsgood b (List.mem_filter.mp hb').1)).2.1
    refine ⟨by show 2 ≤ sizeLine; decide, fun tp ntp => ⟨tp, _, rfl, .inl (.inl upd_same), rfl, _, _, rfl, _, _, rfl, rfl, ?_⟩⟩
    have S4 : Same H (upd H3 tp (.tup [.ref sh, .ref D])) := S12.trans (sm.trans (same_upd ntp))
    have Dn := PySem.Spec.same_none S12 nD
    have oD := St.off hSt Dn
    have osh := St.off hSt nsh
    have hD4 : (upd H3 tp (.tup [.ref sh, .ref D])) D = some (.lst (bs.map V.str)) := (same_upd ntp) _ _ hD
    have hsh4 : SheetAt CN (upd H3 tp (.tup [.ref sh, .ref D])) sh := hsh.same (S2.trans (sm.trans (same_upd ntp)))
    have hp4 := hp.same S4
    have hb4 := hb.same S4
    have s4 := St.same hSt S4
    have tb4 := tabs_same tabs S4
    generalize upd H3 tp (.tup [.ref sh, .ref D]) = H4 at *
    have k4 : Kept sa sw H H4 := Kept.of S4
    clear S12 S1 S2 sm hD h2 hp1 hsh nsh nD Dn
    -- points that are none
    obtain ⟨vo, gvo, pvo⟩ := sheet_val hsh4 (z := "o") (by decide +kernel)
    have one : ∀ (kk : Key) (v : V), mergeK [] [(kk, v)] = [(kk, v)] := fun kk v => rfl
    refine ⟨_, rfl, Nat.zero_le _, fun l1 n1 => fun e1 c1 => ⟨upd_same, [(.inr "a", .int 5)], rfl, by show 1 ≤ 15; decide, ?_⟩⟩
    rw [upd_upd, one]
    have o1 := St.off s4 n1
    have s5 := St.put (o := .lst []) s4 o1
    have B1 := same_upd (o := .lst []) n1
    have f1 := upd_same (H := H4) (a := l1) (o := .lst [])
    generalize upd H4 l1 (.lst []) = G1 at *
    have o2 := St.off s5 c1
    have s6 := St.put (o := .dK [(.inr "a", .int 5)]) s5 o2
    have B2 := same_upd (o := .dK [(.inr "a", .int 5)]) c1
    have f2 := upd_same (H := G1) (a := e1) (o := .dK [(.inr "a", .int 5)])
    generalize upd G1 e1 (.dK [(.inr "a", .int 5)]) = G2 at *
    refine fun e2 c2 => ⟨by show 2 ≤ sizeLine; decide, fun t2 m2 => ⟨(same_upd m2) _ _ upd_same, [(.inr "a", .ref t2)], rfl, by show 1 ≤ 15; decide, ?_⟩⟩
    rw [one]
    have o3 := St.off s6 c2
    have te2 : t2 ≠ e2 := (ne_of_none upd_same m2).symm
    have B3a : Same G2 (upd (upd G2 e2 (.dK [])) t2 (.tup [.int 1, .int 2])) := (same_upd c2).trans (same_upd m2)
    have B3 : Same G2 (upd (upd (upd G2 e2 (.dK [])) t2 (.tup [.int 1, .int 2])) e2 (.dK [(.inr "a", .ref t2)])) := same_put B3a c2
    have f3 : (upd (upd (upd G2 e2 (.dK [])) t2 (.tup [.int 1, .int 2])) e2 (.dK [(.inr "a", .ref t2)])) e2 = some (.dK [(.inr "a", .ref t2)]) := upd_same
    have f3t : (upd (upd (upd G2 e2 (.dK [])) t2 (.tup [.int 1, .int 2])) e2 (.dK [(.inr "a", .ref t2)])) t2 = some (.tup [.int 1, .int 2]) := (upd_ne te2).trans upd_same
    have s7 := St.same s6 B3
    generalize upd (upd (upd G2 e2 (.dK [])) t2 (.tup [.int 1, .int 2])) e2 (.dK [(.inr "a", .ref t2)]) = G3 at *
    have S43 : Same H4 G3 := B1.trans (B2.trans B3)
    refine fun e3 c3 => ?_
    have hsh5 := (hsh4.same S43).same (same_upd (o := .dK []) c3)
    obtain ⟨vo, gvo, pvo⟩ := sheet_val hsh5 (z := "o") (by decide +kernel)
    refine ⟨_, rfl, sh, vo, rfl, gvo, upd_same, [(.inr "O", vo)], rfl, by show 1 ≤ 15; decide, ?_⟩
    have pvo2 : PtV CN (upd (upd G3 e3 (.dK [])) e3 (.dK [(.inr "O", vo)])) vo true := pvo.but upd_same fun c o e hc => (upd_ne hc).trans e
    rw [upd_upd] at pvo2
    rw [upd_upd, one]
    have o4 := St.off s7 c3
    have s8 := St.put (o := .dK [(.inr "O", vo)]) s7 o4
    have B4 := same_upd (o := .dK [(.inr "O", vo)]) c3
    have f4 := upd_same (H := G3) (a := e3) (o := .dK [(.inr "O", vo)])
    generalize upd G3 e3 (.dK [(.inr "O", vo)]) = G4 at *
    refine ⟨by show 5 ≤ sizeLine; decide, fun L nL => ?_⟩
    have oL := St.off s8 nL
    have s9 := St.put (o := .lst [.non, .ref l1, .ref e1, .ref e2, .ref e3]) s8 oL
    have B5 := same_upd (o := .lst [.non, .ref l1, .ref e1, .ref e2, .ref e3]) nL
    have f5 := upd_same (H := G4) (a := L) (o := .lst [.non, .ref l1, .ref e1, .ref e2, .ref e3])
    generalize upd G4 L (.lst [.non, .ref l1, .ref e1, .ref e2, .ref e3]) = G5 at *
    have S45 : Same H4 G5 := S43.trans (B4.trans B5)
    refine ⟨sa, sw, sc, L, T, _, rfl, s9, by omega, .inl (.inl f5), oL.1, oL.2.1, by show 0 < 5; decide, by show 5 ≤ 1000; decide, fun HF x hx kF sF => ?_⟩
    have k4F : Kept sa sw H4 HF := (Kept.of S45).trans kF
    have ko : KObj G5 HF := KObj.kept s9 kF
    have odd : PtsV CN HF x false := by
      have oneP : ∀ (e : Addr) (kx : Str) (v : V) (b : Bool), HF e = some (.dK [(.inr kx, v)]) → AtomV (.str kx) = true → PtV CN HF v b → (nameS kx && b) = false → PtsV CN HF (.ref e) false := fun e kx v b h a c d => by
        have r : (([(kx, v, b)] : List PtR).all fun r => nameS r.1 && r.2.2) = false := by
          rw [List.all_cons]
          show ((nameS kx && b) && true) = false
          rw [d]
          rfl
        exact r ▸ .dict (rs := [(kx, v, b)]) h (by show 1 ≤ 10; decide) (by simp) fun y hy => by
          rw [List.mem_singleton.mp hy]
          exact ⟨a, c⟩
      simp only [List.mem_cons, List.not_mem_nil, or_false] at hx
      rcases hx with rfl | rfl | rfl | rfl | rfl
      · exact .non
      · exact .lst (kF _ _ ((B2.trans (B3.trans (B4.trans B5))) _ _ f1) o1.1 o1.2.1)
      · exact oneP _ _ _ false (kF _ _ ((B3.trans (B4.trans B5)) _ _ f2) o2.1 o2.2.1) (by decide +kernel) (.int (by decide)) (by decide +kernel)
      · exact oneP _ _ _ false (kF _ _ ((B4.trans B5) _ _ f3) o3.1 o3.2.1) (by decide +kernel) (PtV.kobj (.duo ((B4.trans B5) _ _ f3t)) ko) (by decide +kernel)
      · exact oneP _ _ _ true (kF _ _ (B5 _ _ f4) o4.1 o4.2.1) (by decide +kernel) (PtV.kobj (pvo2.same B5) ko) (by decide +kernel)
    have hshF : SheetAt CN HF sh := SheetAt.kobj (hsh4.same S45) ko fun o e _ => kF _ _ e osh.1 osh.2.1
    have hDF := k4F _ _ hD4 oD.1 oD.2.1
    have hpF := Dd.kept hp4 s4 sF k4F
    have hbF := Dd.kept hb4 s4 sF k4F
    have tbF := tabs_kept tb4 s4 k4F
    have kHF : Kept sa sw H HF := k4.trans k4F
    -- the first question
    refine ⟨tbF, fun Ha ea ta => ?_⟩
    refine ⟨_, rfl, _, rfl, .ref p, x, _, rfl, Z62.Dd.ext hpF ea, .inr ⟨xs, rfl, hd, .inl ⟨PtsV.ext odd ea, fun Hb Sb => ⟨exmP, fun e ne => ?_⟩⟩⟩⟩
    have he : (upd Hb e (ErrO (.ref CP) none e)) e = some (ErrO (.ref CP) none e) := upd_same
    have eb : LamX.ExtN HF (upd Hb e (ErrO (.ref CP) none e)) := ea.trans (LamX.ExtN.of (Sb.trans (same_upd ne)))
    have tb := tabs_same ta (Sb.trans (same_upd (o := ErrO (.ref CP) none e) ne))
    generalize upd Hb e (ErrO (.ref CP) none e) = Hc at eb tb he
    refine ⟨_, rfl, e, .ref CP, .ref CP, true, rfl, he, fun u r => r, kitP, _, rfl, iteF ?_⟩
    refine ⟨.ref sa, bv, .ref e, x, p, D, sh, xs, bs, rfl, Z62.Dd.ext hpF eb, hd, SheetAt.kobj hshF (KObj.ext eb) (fun o e n => eb _ _ e n), eb _ _ hDF (fun _ z => by cases z), hh, bok, tb, fun Hd y5 ed td => ?_⟩
    have ed' := eb.trans ed
    have hbd := Z62.Dd.ext hbF ed'
    refine ⟨_, rfl, bv, bo, rfl, hbd, fun He Se => ⟨_, rfl, ?_⟩⟩
    have ee := ed'.trans (LamX.ExtN.of Se)
    have te := tabs_same td Se
    cases hbo : deedO bo with
    | true => exact iteT2 rfl (q He ((KeptN.of kHF).trans (KeptN.ext ee)) (St.mono (St.ext sF ee) (by omega)) te)
    | false =>
      refine iteF2 rfl ?_
      have hbe := Z62.Dd.ext hbF ee
      -- four refusals
      refine ⟨te, fun Ha1 ea1 ta1 => ?_⟩
      refine ⟨_, rfl, _, rfl, bv, x, bo, rfl, Z62.Dd.ext hbe ea1, .inl ⟨hbo, fun Hb1 Sb1 => ⟨exmD, fun x1 nx1 => ?_⟩⟩⟩
      have h1 : (upd Hb1 x1 (ErrO (.ref CD) none x1)) x1 = some (ErrO (.ref CD) none x1) := upd_same
      have E1 : LamX.ExtN He (upd Hb1 x1 (ErrO (.ref CD) none x1)) := ea1.trans (LamX.ExtN.of (Sb1.trans (same_upd nx1)))
      have t1 := tabs_same ta1 (Sb1.trans (same_upd (o := ErrO (.ref CD) none x1) nx1))
      generalize upd Hb1 x1 (ErrO (.ref CD) none x1) = K1 at *
      refine ⟨t1, fun Ha2 ea2 ta2 => ?_⟩
      refine ⟨_, rfl, bv, bo, rfl, Z62.Dd.ext (Z62.Dd.ext hbe E1) ea2, .inl ⟨hbo, fun Hb2 Sb2 => ⟨exmD, fun x2 nx2 => ?_⟩⟩⟩
      have h2 : (upd Hb2 x2 (ErrO (.ref CD) none x2)) x2 = some (ErrO (.ref CD) none x2) := upd_same
      have E2 : LamX.ExtN K1 (upd Hb2 x2 (ErrO (.ref CD) none x2)) := ea2.trans (LamX.ExtN.of (Sb2.trans (same_upd nx2)))
      have t2' := tabs_same ta2 (Sb2.trans (same_upd (o := ErrO (.ref CD) none x2) nx2))
      generalize upd Hb2 x2 (ErrO (.ref CD) none x2) = K2 at *
      refine ⟨by show 2 ≤ sizeLine; decide, fun la na => ?_⟩
      have E3 : Same K2 (upd K2 la (.lst [.ref x1, .ref x2])) := same_upd na
      have h3 : (upd K2 la (.lst [.ref x1, .ref x2])) la = some (.lst [.ref x1, .ref x2]) := upd_same
      have t3 := tabs_same t2' E3
      generalize upd K2 la (.lst [.ref x1, .ref x2]) = K3 at *
      have E13 : LamX.ExtN He K3 := E1.trans (E2.trans (LamX.ExtN.of E3))
      refine ⟨_, rfl, t3, fun Ha4 ea4 ta4 => ?_⟩
      refine ⟨_, rfl, bv, bo, rfl, Z62.Dd.ext (Z62.Dd.ext hbe E13) ea4, .inl ⟨hbo, fun Hb4 Sb4 => ⟨exmD, fun x4 nx4 => ?_⟩⟩⟩
      have h4 : (upd Hb4 x4 (ErrO (.ref CD) none x4)) x4 = some (ErrO (.ref CD) none x4) := upd_same
      have E4 : LamX.ExtN K3 (upd Hb4 x4 (ErrO (.ref CD) none x4)) := ea4.trans (LamX.ExtN.of (Sb4.trans (same_upd nx4)))
      have t4 := tabs_same ta4 (Sb4.trans (same_upd (o := ErrO (.ref CD) none x4) nx4))
      generalize upd Hb4 x4 (ErrO (.ref CD) none x4) = K4 at *
      refine ⟨t4, fun Ha5 ea5 ta5 => ?_⟩
      refine ⟨_, rfl, _, rfl, bv, x, bo, rfl, Z62.Dd.ext (Z62.Dd.ext hbe (E13.trans E4)) ea5, .inl ⟨hbo, fun Hb5 Sb5 => ⟨exmD, fun x5 nx5 => ?_⟩⟩⟩
      have h5 : (upd Hb5 x5 (ErrO (.ref CD) none x5)) x5 = some (ErrO (.ref CD) none x5) := upd_same
      have E5 : LamX.ExtN K4 (upd Hb5 x5 (ErrO (.ref CD) none x5)) := ea5.trans (LamX.ExtN.of (Sb5.trans (same_upd nx5)))
      have t5 := tabs_same ta5 (Sb5.trans (same_upd (o := ErrO (.ref CD) none x5) nx5))
      generalize upd Hb5 x5 (ErrO (.ref CD) none x5) = K5 at *
      refine ⟨by show 2 ≤ sizeLine; decide, fun lb nb => ?_⟩
      have E6 : Same K5 (upd K5 lb (.lst [.ref x4, .ref x5])) := same_upd nb
      have h6 : (upd K5 lb (.lst [.ref x4, .ref x5])) lb = some (.lst [.ref x4, .ref x5]) := upd_same
      generalize upd K5 lb (.lst [.ref x4, .ref x5]) = K6 at *
      have nt : ∀ (c : Value) (d : Option Addr) (e : Addr) ps, ErrO c d e ≠ .tbl ps := fun c d e ps z => by
        have z' : HO.ext _ = HO.tbl ps := z
        cases z'
      have E56 := E5.trans (LamX.ExtN.of E6)
      have E36 := E4.trans E56
      refine ⟨la, lb, _, _, rfl, rfl, E36 _ _ h3 (fun _ z => by cases z), h6, by show 4 ≤ sizeLine; decide, fun lc nc => ?_⟩
      have E7 : Same K6 (upd K6 lc (.lst ([.ref x1, .ref x2] ++ [.ref x4, .ref x5]))) := same_upd nc
      have h7 : (upd K6 lc (.lst ([.ref x1, .ref x2] ++ [.ref x4, .ref x5]))) lc = some (.lst ([.ref x1, .ref x2] ++ [.ref x4, .ref x5])) := upd_same
      have t7 := tabs_same (tabs_same t5 E6) E7
      generalize upd K6 lc (.lst ([.ref x1, .ref x2] ++ [.ref x4, .ref x5])) = K7 at *
      have e7 := LamX.ExtN.of E7
      have g1 := (E2.trans ((LamX.ExtN.of E3).trans (E36.trans e7))) _ _ h1 (nt _ _ _)
      have g2 := ((LamX.ExtN.of E3).trans (E36.trans e7)) _ _ h2 (nt _ _ _)
      have g4 := (E56.trans e7) _ _ h4 (nt _ _ _)
      have g5 := ((LamX.ExtN.of E6).trans e7) _ _ h5 (nt _ _ _)
      have four : ∀ (i : Nat) (y : V), ([V.ref x1, .ref x2] ++ [V.ref x4, .ref x5])[i]? = some y → ∃ z, y = .ref z ∧ K7 z = some (ErrO (.ref CD) none z) := fun i y hy => by
        match i, hy with
        | 0, hy => cases hy; exact ⟨_, rfl, g1⟩
        | 1, hy => cases hy; exact ⟨_, rfl, g2⟩
        | 2, hy => cases hy; exact ⟨_, rfl, g4⟩
        | 3, hy => cases hy; exact ⟨_, rfl, g5⟩
      refine ⟨_, rfl, lc, rfl, ⟨_, .inl (.inl h7)⟩, fun R nR => ?_⟩
      refine lc_list (K := K) (a := lc) (xs := [.ref x1, .ref x2] ++ [.ref x4, .ref x5]) (fun i H' => H' = upd K7 R (.lst [])) rfl (fun i H' _ e => .inl (.inl (by rw [e]; exact (same_upd nR) _ _ h7))) ?_ ?_
      · rintro i y H' hy rfl
        obtain ⟨z, rfl, hz⟩ := four i y hy
        exact ⟨rfl, _, rfl, z, .ref CD, .ref CD, true, rfl, (same_upd nR) _ _ hz, fun u r => r, kitD, _, rfl, iteF2 rfl rfl⟩
      rintro H' rfl
      refine ⟨Nat.zero_le _, fun l9 n9 => ?_⟩
      refine ⟨.list [], .list [], .lst (.inl (.inl ((same_upd n9) _ _ upd_same))) .nil, dp_nil upd_same, shaped_nil, shaped_nil, ?_⟩
      have eF : LamX.ExtN HF (upd (upd K7 R (.lst [])) l9 (.lst [])) := ee.trans (E13.trans (E36.trans (e7.trans (LamX.ExtN.of ((same_upd nR).trans (same_upd n9))))))
      exact q _ ((KeptN.of kHF).trans (KeptN.ext eF)) (St.mono (St.ext sF eF) (by omega)) (tabs_same t7 ((same_upd nR).trans (same_upd n9)))
end
end Z63

set_option Elab.async false
set_option linter.all false
set_option maxRecDepth 100000
set_option maxHeartbeats 4000000
namespace Z64
open PySem PySem.Spec PyProof.Rows L2 Cau RepG Dr14 Z1 Z2 Z3 Z4 ZE Z5 Z6 Z7 Z8 Z9 ZN5 ZN6 ZN7 ZN8 ZN10 ZN11 ZN12 ZN13 ZN19 ZN20 ZN21 ZN22 ZN22b ZN25 Z50 Z51 Z52 Z53 Z54 Z55 Z56 Z57 Z58 Z59 Z60 Z61 Z62 Z63 TxtSet
abbrev sLaw : Stmt := topS 166
/-! ### bools as text -/
theorem bools_show (bs : List Bool) (l : bs.length ≤ 4) : (PyData.list (bs.map PyData.bool)).showable = true ∧ (PyData.list (bs.map PyData.bool)).hasDict = false ∧ (PyData.list (bs.map PyData.bool)).depth ≤ 60 ∧ (PyData.list (bs.map PyData.bool)).shown.length ≤ sizeLine := by
  match bs, l with
  | [], _ => decide +kernel
  | [a], _ => cases a <;> decide +kernel
  | [a, b], _ => cases a <;> cases b <;> decide +kernel
  | [a, b, c], _ => cases a <;> cases b <;> cases c <;> decide +kernel
  | [a, b, c, d], _ => cases a <;> cases b <;> cases c <;> cases d <;> decide +kernel
theorem dp_bools {K : PySem.W.Frag} {H : Hp} {l : Addr} {bs : List Bool} (h : H l = some (.lst (bs.map V.bl))) : Dp K H (.ref l) (.list (bs.map PyData.bool)) := by
  have all : ∀ bs : List Bool, DpAll K H (bs.map V.bl) (bs.map PyData.bool) := by
    intro bs
    induction bs with
    | nil => exact .nil
    | cons b r ih => exact .cons (.bl b) ih
  exact .lst (.inl (.inl h)) (all bs)
theorem Dd.keptN {K : PySem.W.Frag} {H H' : Hp} {a w c : Addr} {T T' : Nat} {v : V} {o : Option (List V)} (h : Dd K H v o) (s : St H a w c T) (s' : St H' a w c T') (k : KeptN a w H H') : Dd K H' v o := by
  have it : ∀ x, ItV H x → ItV H' x := fun x hx => by
    cases hx with
    | atom h => exact .atom h
    | @lst l h =>
      obtain ⟨_, ws, cs, r, t, h1, h2, _⟩ := s
      refine .lst (k _ _ h (fun _ z => by cases z) (fun z => by rw [z, h1] at h; cases h) fun z => ?_)
      rw [z, h2] at h
      have e := HO.lst.inj (Option.some.inj h)
      cases ws with
      | nil => cases e
      | cons x r => cases (List.cons.inj e).1
  rcases h with ⟨p, xs, r, h1, h2, h3, h4⟩ | ⟨h, r⟩
  · exact .inl ⟨p, xs, r, k.tk s _ _ h1, fun x hx => it x (h2 x hx), h3, h4⟩
  · refine .inr ⟨?_, r⟩
    cases h with
    | atom h => exact .atom h
    | @lst p xs h =>
      by_cases e1 : p = a
      · obtain ⟨_, _, _, _, _, h1, _⟩ := s
        rw [e1, h1] at h
        cases h
      · by_cases e2 : p = w
        · obtain ⟨_, _, _, _, _, _, h2, _⟩ := s'
          rw [e2]
          exact .lst h2
        · exact .lst (k _ _ h (fun _ z => by cases z) e1 e2)
    | @dK p kvs h =>
      by_cases e1 : p = a
      · obtain ⟨_, _, _, _, _, h1, _⟩ := s'
        rw [e1]
        exact .dK h1
      · by_cases e2 : p = w
        · obtain ⟨_, _, _, _, _, _, h2, _⟩ := s
          rw [e2, h2] at h
          cases h
        · exact .dK (k _ _ h (fun _ z => by cases z) e1 e2)
def lawN : List Str := ["script", "state", "words", "turn", "deed", "bent", "steps", "spoilt", "told"]
theorem scL : FnScope lawN ["script"] (defScope sLaw) := ⟨rfl, rfl, rfl, by decide +kernel, rfl, by decide +kernel, by decide +kernel⟩
def tabsL (Pt Pe : Addr) : List (Addr × Str) := [(Pt, lamQ "_law_told_right"), (Pe, lamQ "_law_errors_right")]
def spLaw (K : PySem.W.Frag) (Pt Pe : Addr) : Sp := fun vs H Q _ => ∃ (a : Addr) (ns : List Int), vs = [.ref a] ∧ SqL K H a (ns.map V.int) ∧ ns.length ≤ 63 ∧ H Pt = some (.tbl #[]) ∧ H Pe = some (.tbl #[]) ∧ ∀ H', Q (.bl true) H'
def sixL : List Str := ["o", "a", "b", "u", "v9", "uu"]
theorem six_good : ∀ z ∈ sixL, goodN z = true := by decide +kernel
section
variable {P : Program} {w : World} {K : PySem.W.Frag} {mg : Str → Option Value} {base : Heap}
theorem ok_law {f fB fF fE fP fN fI fU fT fR fS fG fD fV Pt Pe : Addr} {fd fdB fdF fdE fdP fdN fdI fdU fdT fdR fdS fdG fdD fdV : FuncData}
    (F : Fun K "law" "law" sLaw f fd)
    (FB : Fun K "_law_begun" "_law_begun" sBegun fB fdB) (GB : FnOk P w K mg base CX0 1 fB fdB ["script"] (spBegun K)) (bB : Binds K fdB ["script"] []) (gB : mg "_law_begun" = some (.ref fB))
    (FF : Fun K "_law_forms" "_law_forms" sForms fF fdF) (GF : FnOk P w K mg base CX0 1 fF fdF [] spForms) (bF : Binds K fdF [] []) (gF : mg "_law_forms" = some (.ref fF))
    (FE : Fun K "_law_deed" "_law_deed" sDrawn fE fdE) (GE : FnOk P w K mg base CX0 4 fE fdE ["state", "word", "names"] (spDrawn K)) (bE : Binds K fdE ["state", "word", "names"] []) (gE : mg "_law_deed" = some (.ref fE))
    (FP : Fun K "_law_pick" "_law_pick" sPick fP fdP) (GP : FnOk P w K mg base CX0 3 fP fdP ["state", "some"] (spPick K)) (bP : Binds K fdP ["state", "some"] []) (gP : mg "_law_pick" = some (.ref fP))
    (FN : Fun K "_law_bent" "_law_bent" sBent fN fdN) (GN : FnOk P w K mg base CX0 4 fN fdN ["state", "deed"] (spBent K)) (bN : Binds K fdN ["state", "deed"] []) (gN : mg "_law_bent" = some (.ref fN))
    (FI : Fun K "is_deed" "is_deed" sIsDeed fI fdI) (GI : FnOk P w K mg base CX0 2 fI fdI ["value"] (spDeed K)) (bI : Binds K fdI ["value"] []) (kI : KBn K fdI ["value"] 0 ["value"] (fun _ ws => ws) (fun _ zs => zs)) (gI : mg "is_deed" = some (.ref fI))
    (FU : Fun K "_law_is_deed_due" "_law_is_deed_due" sDeedDue fU fdU) (GU : FnG P w K mg base CX0 2 fU fdU ["value"] (spDeed K)) (bU : Binds K fdU ["value"] []) (gU : mg "_law_is_deed_due" = some (.ref fU))
    (kT : PySem.W.keepIn K (.ref fT) = true) (GT : FnG P w K mg base CX0 7 fT fdT ["state", "deed"] (spTold K (tabsL Pt Pe))) (bT : Binds K fdT ["state", "deed"] []) (gT : mg "_law_told_right" = some (.ref fT))
    (kR : PySem.W.keepIn K (.ref fR) = true) (GR : FnG P w K mg base CX0 9 fR fdR ["state", "deed", "bent"] (spErrR K (tabsL Pt Pe))) (bR : Binds K fdR ["state", "deed", "bent"] []) (gR : mg "_law_errors_right" = some (.ref fR))
    (FS : Fun K "_law_steps" "_law_steps" sStp fS fdS) (GS : FnOk P w K mg base CX0 5 fS fdS ["state", "words"] (spStp K)) (bS : Binds K fdS ["state", "words"] []) (gS : mg "_law_steps" = some (.ref fS))
    (FG : Fun K "_law_bent_steps" "_law_bent_steps" sBSt fG fdG) (GG : FnOk P w K mg base CX0 5 fG fdG ["state", "steps"] (spBSt K)) (bG : Binds K fdG ["state", "steps"] []) (gG : mg "_law_bent_steps" = some (.ref fG))
    (FD : Fun K "is_drawing" "is_drawing" sIsDrawing fD fdD) (GD : FnOk P w K mg base CX0 4 fD fdD ["value"] (spDrawing K)) (bD : Binds K fdD ["value"] []) (kD : KBn K fdD ["value"] 0 ["value"] (fun _ ws => ws) (fun _ zs => zs)) (gD : mg "is_drawing" = some (.ref fD))
    (FV : Fun K "_law_is_drawing_due" "_law_is_drawing_due" sDrawDue fV fdV) (GV : FnG P w K mg base CX0 3 fV fdV ["value"] (spDrawing K)) (bV : Binds K fdV ["value"] []) (gV : mg "_law_is_drawing_due" = some (.ref fV))
    (mr : mg "range" = none) (mrp : mg "repr" = none) (mso : mg "sorted" = none) (mtu : mg "tuple" = none) (mlen : mg "len" = none) (mmin : mg "min" = none) :
    FnG P w K mg base CX0 10 f fd ["script"] (spLaw K Pt Pe) := by
  refine okG F scL (fun vs H Q E h => ?_) (fun cdv A outer s H vs Q E g hr h => ?_)
  · obtain ⟨a, ns, rfl, _⟩ := h
    rfl
  · obtain ⟨a, ns, rfl, hS, hlen, hPt, hPe, q⟩ := h
    have hu := hu_of (hr.mono (Nat.zero_le _) : Room 0 _)
    have hr7 : Room 7 _ := hr.mono (by decide)
    have hr5 : Room 5 _ := hr.mono (by decide)
    have hr4 : Room 4 _ := hr.mono (by decide)
    have hr3 : Room 3 _ := hr.mono (by decide)
    have hr2 : Room 2 _ := hr.mono (by decide)
    have hr1 : Room 1 _ := hr.mono (by decide)
    refine ⟨_, pss_cons (ps_set (i := 1) scL.nd rfl (.inl rfl) (pe_call GB hr1 (by rfl) gB FB.kp bB .nil pass0 (pa_cons (pv 0) pa_nil)))
      (pss_cons (ps_set (i := 2) scL.nd rfl (.inl rfl) (pe_callB (call_sortedD rfl) (by rfl) mso (by decide +kernel) (pa_cons (pe_call0 GF hr1 (by rfl) gF FF.kp bF .nil pass0) pa_nil)))
      (pss_cons (ps_for PassesOwn.never rfl (pi_range1 (by rfl) mr (pa_cons (pe_op op_add pe_int (pe_callB (call_min2 rfl) (by rfl) mmin (by decide +kernel) (pa_cons (pe_callB call_len_seq (by rfl) mlen PySem.boot_len (pa_cons (pv 0) pa_nil)) (pa_cons pe_int pa_nil)))) pa_nil)) (pg_name (i := 3) scL.nd rfl (.inl rfl))
        (pss_cons (ps_set (i := 4) scL.nd rfl (.inl rfl) (pe_call GE hr4 (by rfl) gE FE.kp bE .nil pass0 (pa_cons (pv 1) (pa_cons (pe_call GP hr3 (by rfl) gP FP.kp bP .nil pass0 (pa_cons (pv 1) (pa_cons (pv 2) pa_nil))) (pa_cons (pe_lst (pa_cons pe_str (pa_cons pe_str (pa_cons pe_str (pa_cons pe_str (pa_cons pe_str (pa_cons pe_str pa_nil))))))) pa_nil)))))
        (pss_cons (ps_set (i := 5) scL.nd rfl (.inl rfl) (pe_call GN hr4 (by rfl) gN FN.kp bN .nil pass0 (pa_cons (pv 1) (pa_cons (pv 4) pa_nil))))
        (pss_cons (ps_if (pt_cmpR op_ne (pe_callB (call_repr g hr) (by rfl) mrp (by decide +kernel) (pa_cons (pe_lst (pa_cons (pe_kw GI hr2 (by rfl) gI FI.kp kI pass0 (pk_cons (pv 4) pk_nil)) (pa_cons (pe_call GI hr2 (by rfl) gI FI.kp bI .nil pass0 (pa_cons (pv 5) pa_nil)) pa_nil))) pa_nil))
            (pe_callB (call_repr g hr) (by rfl) mrp (by decide +kernel) (pa_cons (pe_lst (pa_cons pe_bl (pa_cons (pe_callG GU g hr2 (by rfl) gU FU.kp bU pass0 (pa_cons (pv 5) pa_nil)) pa_nil))) pa_nil)) (nomark _)) (pss_one (ps_ret pe_bl)) pss_nil)
        (pss_cons (ps_if (PW.pt (pw_or (pt_not (pt_val (pe_callG GT g hr7 (by rfl) gT kT bT pass0 (pa_cons (pv 1) (pa_cons (pv 4) pa_nil)))))
            (pw_or1 (pt_not (pt_val (pe_callG GR g hr (by rfl) gR kR bR pass0 (pa_cons (pv 1) (pa_cons (pv 4) (pa_cons (pv 5) pa_nil))))))))) (pss_one (ps_ret pe_bl)) pss_nil)
        (pss_cons (ps_set (i := 6) scL.nd rfl (.inl rfl) (pe_call GS hr5 (by rfl) gS FS.kp bS .nil pass0 (pa_cons (pv 1) (pa_cons (pv 2) pa_nil))))
        (pss_cons (ps_set (i := 7) scL.nd rfl (.inl rfl) (pe_call GG hr5 (by rfl) gG FG.kp bG .nil pass0 (pa_cons (pv 1) (pa_cons (pv 6) pa_nil))))
        (pss_cons (ps_set (i := 8) scL.nd rfl (.inl rfl) (pe_lst (pa_cons (pe_kw GD hr4 (by rfl) gD FD.kp kD pass0 (pk_cons (pv 6) pk_nil)) (pa_cons (pe_call GD hr4 (by rfl) gD FD.kp bD .nil pass0 (pa_cons (pe_callTy call_tuple_of (by rfl) mtu (by decide +kernel) (pa_cons (pv 6) pa_nil)) pa_nil)) (pa_cons (pe_call GD hr4 (by rfl) gD FD.kp bD .nil pass0 (pa_cons (pv 7) pa_nil)) pa_nil)))))
        (pss_one (ps_if (pt_cmpR op_ne (pe_callB (call_repr g hr) (by rfl) mrp (by decide +kernel) (pa_cons (pv 8) pa_nil))
            (pe_callB (call_repr g hr) (by rfl) mrp (by decide +kernel) (pa_cons (pe_lst (pa_cons pe_bl (pa_cons pe_bl (pa_cons (pe_callG GV g hr3 (by rfl) gV FV.kp bV pass0 (pa_cons (pv 7) pa_nil)) pa_nil)))) pa_nil)) (nomark _)) (pss_one (ps_ret pe_bl)) pss_nil))))))))))
      (pss_one (ps_ret (pe_cmpR op_eq (pe_callB (call_repr g hr) (by rfl) mrp (by decide +kernel) (pa_cons (pe_lst (pa_cons (pe_call GI hr2 (by rfl) gI FI.kp bI .nil pass0 (pa_cons pe_non pa_nil)) (pa_cons (pe_call GI hr2 (by rfl) gI FI.kp bI .nil pass0 (pa_cons (pe_tup pa_nil) pa_nil))
            (pa_cons (pe_call GD hr4 (by rfl) gD FD.kp bD .nil pass0 (pa_cons (pe_lst pa_nil) pa_nil)) (pa_cons (pe_call GD hr4 (by rfl) gD FD.kp bD .nil pass0 (pa_cons pe_non pa_nil)) pa_nil))))) pa_nil))
          (pe_callB (call_repr g hr) (by rfl) mrp (by decide +kernel) (pa_cons (pe_lst (pa_cons pe_bl (pa_cons pe_bl (pa_cons pe_bl (pa_cons pe_bl pa_nil))))) pa_nil)) (nomark _)))))), ?_⟩
    refine ⟨_, rfl, a, ns, rfl, hS, hlen, fun H1 sa sw sc S1 nsa nsw nsc _ _ _ s1 => ?_⟩
    -- the words
    refine ⟨rfl, fun dd nd => ?_⟩
    have S2 : Same H1 (upd H1 dd (.dK formsD)) := same_upd nd
    have hd2 : (upd H1 dd (.dK formsD)) dd = some (.dK formsD) := upd_same
    have s2 := St.same s1 S2
    generalize upd H1 dd (.dK formsD) = H2 at S2 hd2 s2
    refine ⟨dd, formsD, formsL.map (·.1), rfl, .inl hd2, forms_keys, by decide, fun ws wd perm srt nwd => ?_⟩
    have S3 : Same H2 (upd H2 wd (.lst (ws.map V.str))) := same_upd nwd
    have hw : (upd H2 wd (.lst (ws.map V.str))) wd = some (.lst (ws.map V.str)) := upd_same
    have owd := St.off s2 nwd
    have s3 := St.same s2 S3
    generalize upd H2 wd (.lst (ws.map V.str)) = H3 at S3 hw s3
    have wl : ws.length = 11 := perm.length_eq
    have S13 := S1.trans (S2.trans S3)
    have t3 : LamX.Tabs (tabsL Pt Pe) H3 := fun p hp => by
      rcases List.mem_cons.mp hp with rfl | hp
      · exact LamX.TabS.nil (S13 _ _ hPt)
      · rw [List.mem_singleton.mp hp]
        exact LamX.TabS.nil (S13 _ _ hPe)
    refine ⟨.ref a, rfl, a, _, rfl, .inl (S13.seq hS), _, _, rfl, 2, _, rfl, rfl, ?_⟩
    obtain ⟨m, hm, hm0, hm1⟩ : ∃ m : Int, (2 + if (6 : Int) < (((ns.map V.int).length : Nat) : Int) then 6 else (((ns.map V.int).length : Nat) : Int)) = m ∧ 2 ≤ m ∧ m ≤ 8 := by
      refine ⟨_, rfl, ?_, ?_⟩ <;> split <;> omega
    refine ⟨_, rfl, by show (-4611686018427387904 : Int) ≤ _; rw [hm]; omega, by show _ < (4611686018427387904 : Int); rw [hm]; omega, ?_⟩
    rw [hm]
    refine for_range (lo := 0) (n := m.toNat) (fun i σ H' => ∃ y3 y4 y5 y6 y7 y8 : Option V, σ = [some (.ref a), some (.ref sa), some (.ref wd), y3, y4, y5, y6, y7, y8] ∧ H' wd = some (.lst (ws.map V.str)) ∧ St H' sa sw sc (5000 * i) ∧ LamX.Tabs (tabsL Pt Pe) H')
      ⟨_, _, _, _, _, _, rfl, hw, s3, t3⟩ ?_ ?_
    · rintro i σ H4 hi ⟨y3, y4, y5, y6, y7, y8, rfl, hw4, s4, t4⟩
      have hi8 : i < 8 := by omega
      -- a deed
      refine ⟨_, rfl, _, rfl, _, rfl, sa, sw, sc, wd, _, ws.map V.str, rfl, s4, by omega, .inl (.inl hw4), owd.1, owd.2.1, by rw [List.length_map]; omega, by rw [List.length_map]; omega, fun H5 x hx k5 s5 => ?_⟩
      obtain ⟨w0, hw0, rfl⟩ := List.mem_map.mp hx
      obtain ⟨k, hf⟩ := Option.isSome_iff_exists.mp (forms_ok w0 (perm.mem_iff.mp hw0)).2
      refine ⟨by show 6 ≤ sizeLine; decide, fun L nL => ?_⟩
      have oL := St.off s5 nL
      have s6 := St.put (o := .lst (sixL.map V.str)) s5 oL
      have S6 := same_upd (o := .lst (sixL.map V.str)) nL
      have hL : (upd H5 L (.lst (sixL.map V.str))) L = some (.lst (sixL.map V.str)) := upd_same
      refine ⟨sa, sw, sc, L, _, w0, k, sixL, rfl, s6, by show 5000 * i + 1 + 6 + 20 ≤ 1000000; omega, hf, .inl (.inl hL), oL.1, oL.2.1, by decide, by decide, fun z hz => (good_name (six_good z hz)).2.1, fun H7 qd us way nqd hqd hul hus hway k7 s7 oqd => ?_⟩
      have k47 : Kept sa sw H4 H7 := k5.trans ((Kept.of S6).trans k7)
      have hus' : ∀ u ∈ us, goodN u = true := fun u hu' => six_good u (hus u hu')
      obtain ⟨k2, k5'⟩ := formOf_small hf
      have wl' := way_len hway
      have hd : deedL (dwL w0 us way) = true := drawn_deed hf hul (fun u hu' => (good_name (hus' u hu')).1) hway
      have hnm : namesL (dwL w0 us way) = us := drawn_names hf hul
      have hat : ∀ x ∈ dwL w0 us way, AtomV x = true := by
        intro x hx
        rcases List.mem_cons.mp hx with rfl | hx
        · exact word_atom hf
        · rcases List.mem_append.mp hx with hx | hx
          · obtain ⟨u, hu', rfl⟩ := List.mem_map.mp hx
            exact good_atom (hus' u hu')
          · exact List.all_eq_true.mp (way_atom hway) x hx
      have dlen : (dwL w0 us way).length ≤ 10 := by
        show (V.str w0 :: (us.map V.str ++ way)).length ≤ 10
        rw [List.length_cons, List.length_append, List.length_map]
        omega
      have dpos : 0 < (dwL w0 us way).length := Nat.succ_pos _
      have dd7 : Dd K H7 (.ref qd) (some (dwL w0 us way)) := .inl ⟨qd, _, rfl, .inl (.inl hqd), fun x hx => .atom (hat x hx), Nat.le_trans dlen (by decide), rfl⟩
      -- bent
      refine ⟨_, rfl, _, rfl, sa, sw, sc, qd, _, dwL w0 us way, rfl, s7, by show 5000 * i + 1 + 6 + 20 + 10 ≤ 1000000; omega, .inl (.inl hqd), fun x hx => .atom (hat x hx), dpos, by omega, fun H8 bv bo k8 s8 hb => ?_⟩
      have dd8 := Dd.kept dd7 s7 s8 k8
      have k48 := k47.trans k8
      have hdO : deedO (some (dwL w0 us way)) = true := hd
      refine ⟨_, rfl, rfl, .ref qd, _, rfl, dd8, fun H9 S9 => ?_⟩
      rw [hdO]
      refine ⟨_, rfl, bv, bo, rfl, hb.same S9, fun H10 S10 => ⟨by show 2 ≤ sizeLine; decide, fun l1 n1 => ?_⟩⟩
      have sh1 := bools_show [true, deedO bo] (by show 2 ≤ 4; decide)
      refine ⟨_, .list ([true, deedO bo].map PyData.bool), rfl, dp_bools (bs := [true, deedO bo]) upd_same, sh1.1, sh1.2.1, sh1.2.2.1, sh1.2.2.2, ?_⟩
      have S8a : Same H8 (upd H10 l1 (.lst [.bl true, .bl (deedO bo)])) := S9.trans (S10.trans (same_upd n1))
      generalize upd H10 l1 (.lst [.bl true, .bl (deedO bo)]) = H11 at *
      refine ⟨_, rfl, bv, bo, rfl, hb.same S8a, fun H12 S12 => ⟨by show 2 ≤ sizeLine; decide, fun l2 n2 => ?_⟩⟩
      refine ⟨_, .list ([true, deedO bo].map PyData.bool), rfl, dp_bools (bs := [true, deedO bo]) upd_same, sh1.1, sh1.2.1, sh1.2.2.1, sh1.2.2.2, rfl, _, rfl, iteNS rfl ?_⟩
      have S8b : Same H8 (upd H12 l2 (.lst [.bl true, .bl (deedO bo)])) := S8a.trans (S12.trans (same_upd n2))
      generalize upd H12 l2 (.lst [.bl true, .bl (deedO bo)]) = H13 at *
      have s13 := St.same s8 S8b
      have k413 : Kept sa sw H4 H13 := k48.trans (Kept.of S8b)
      have t13 := tabs_kept t4 s4 k413
      have dd13 := dd8.same S8b
      have hb13 := hb.same S8b
      have hw13 := k413 _ _ hw4 owd.1 owd.2.1
      obtain ⟨qd', eqd, hqd13, _, _⟩ := deed_at dd13
      cases eqd
      -- told right
      refine ⟨_, rfl, _, rfl, sa, sw, sc, qd, _, w0, k, us, way, rfl, s13, by show 5000 * i + 1 + 6 + 20 + 3 + 100 ≤ 1000000; omega, hf, hul, hus', hway, hqd13, t13, fun H14 k14 s14 t14 => ⟨_, rfl, iteF ?_⟩⟩
      have dd14 := Dd.keptN dd13 s13 s14 k14
      have hb14 := Dd.keptN hb13 s13 s14 k14
      have hw14 := k14.lst hw13 ⟨owd.1, owd.2.1⟩
      refine ⟨_, rfl, _, rfl, _, rfl, sa, sw, sc, qd, _, dwL w0 us way, bv, bo, rfl, s14, by show 5000 * i + 1 + 6 + 20 + 3 + 100 + 100 ≤ 1000000; omega, hd, (fun u hu' => hus' u (hnm ▸ hu')), dd14, hb14, t14, fun H15 k15 s15 t15 => ⟨_, rfl, iteF ?_⟩⟩
      have hw15 := k15.lst hw14 ⟨owd.1, owd.2.1⟩
      -- steps
      refine ⟨_, rfl, _, rfl, sa, sw, sc, wd, _, ws, rfl, s15, by show 5000 * i + 1 + 6 + 20 + 3 + 100 + 100 + 1000 ≤ 1000000; omega, .inl (.inl hw15), owd.1, owd.2.1, by omega, by omega, fun z hz => (forms_ok z (perm.mem_iff.mp hz)).2, fun H16 l st nl hst hstl hg hgn k16 s16 ol => ?_⟩
      obtain ⟨ys, hys, hsd⟩ := hst
      have hsd : Sdl K H16 ys st := hsd
      have deeds := goes_deeds st _ hg
      have hw16 := k16 _ _ hw15 owd.1 owd.2.1
      refine ⟨_, rfl, _, rfl, sa, sw, sc, l, _, ys, st, rfl, s16, by show 5000 * i + 1 + 6 + 20 + 3 + 100 + 100 + 1000 + 100 ≤ 1000000; omega, hys, hsd, hstl, ⟨ol.1, ol.2.1⟩, fun p hp => ⟨(deeds p hp).1, hgn p hp⟩, fun H17 v o k17 s17 hv => ?_⟩
      have hys17 := k17 _ _ hys ol.1 ol.2.1
      have hsd17 := hsd.tk (TK.kept s16 k17)
      have hw17 := k17 _ _ hw16 owd.1 owd.2.1
      have hgO : goesO (some (st.map sdOf)) sheetL = true := hg
      have kt17 := tabs_kept (tabs_kept t15 s15 k16) s16 k17
      refine ⟨_, rfl, rfl, .ref l, _, rfl, hsd17.sv (.inl (.inl (.inl hys17))) (by omega), fun H18 S18 => ?_⟩
      rw [hgO]
      refine ⟨_, rfl, l, ys, rfl, .inl ⟨.inl (.inl (S18 _ _ hys17)), fun t9 n9 => ?_⟩⟩
      have S19 := S18.trans (same_upd (o := .tup ys) n9)
      have h19 : (upd H18 t9 (.tup ys)) t9 = some (.tup ys) := upd_same
      generalize upd H18 t9 (.tup ys) = H19 at *
      refine ⟨.ref t9, some (st.map sdOf), rfl, (hsd17.tk (TK.of S19)).sv (.inr (.inl (.inl h19))) (by omega), fun H20 S20 => ?_⟩
      rw [hgO]
      refine ⟨_, rfl, v, o, rfl, hv.same (S19.trans S20), fun H21 S21 => ⟨by show 3 ≤ sizeLine; decide, fun l3 n3 => ?_⟩⟩
      have S22 : Same H17 (upd H21 l3 (.lst [.bl true, .bl true, .bl (goesO o sheetL)])) := S19.trans (S20.trans (S21.trans (same_upd n3)))
      have h22 : (upd H21 l3 (.lst [.bl true, .bl true, .bl (goesO o sheetL)])) l3 = some (.lst [.bl true, .bl true, .bl (goesO o sheetL)]) := upd_same
      generalize upd H21 l3 (.lst [.bl true, .bl true, .bl (goesO o sheetL)]) = H22 at *
      have sh2 := bools_show [true, true, goesO o sheetL] (by show 3 ≤ 4; decide)
      refine ⟨_, rfl, _, .list ([true, true, goesO o sheetL].map PyData.bool), rfl, dp_bools (bs := [true, true, goesO o sheetL]) h22, sh2.1, sh2.2.1, sh2.2.2.1, sh2.2.2.2, ?_⟩
      refine ⟨_, rfl, v, o, rfl, hv.same S22, fun H23 S23 => ⟨by show 3 ≤ sizeLine; decide, fun l4 n4 => ?_⟩⟩
      have S24 : Same H17 (upd H23 l4 (.lst [.bl true, .bl true, .bl (goesO o sheetL)])) := S22.trans (S23.trans (same_upd n4))
      refine ⟨_, .list ([true, true, goesO o sheetL].map PyData.bool), rfl, dp_bools (bs := [true, true, goesO o sheetL]) upd_same, sh2.1, sh2.2.1, sh2.2.2.1, sh2.2.2.2, rfl, _, rfl, iteNS rfl ?_⟩
      exact ⟨_, _, _, _, _, _, rfl, S24 _ _ hw17, St.mono (St.same s17 S24) (by show 5000 * i + 1 + 6 + 20 + 3 + 100 + 100 + 1000 + 100 ≤ 5000 * (i + 1); omega), tabs_same kt17 S24⟩
    · rintro σ H4 ⟨y3, y4, y5, y6, y7, y8, rfl, hw4, s4, t4⟩
      refine ⟨.non, none, rfl, .inr ⟨.atom rfl, rfl⟩, fun H5 S5 => ?_⟩
      refine ⟨Nat.zero_le _, fun t6 n6 => ?_⟩
      refine ⟨.ref t6, some [], rfl, .inl ⟨t6, [], rfl, .inl (.inl upd_same), (fun x hx => absurd hx List.not_mem_nil), by show 0 ≤ 100; decide, rfl⟩, fun H7 S7 => ?_⟩
      refine ⟨Nat.zero_le _, fun l8 n8 => ?_⟩
      refine ⟨.ref l8, some [], rfl, SdL.sv SdL.nil (.inl (.inl (.inl upd_same))) (by show 0 ≤ 200; decide), fun H9 S9 => ?_⟩
      refine ⟨.non, none, rfl, .inr ⟨.atom rfl, rfl⟩, fun H10 S10 => ⟨by show 4 ≤ sizeLine; decide, fun l11 n11 => ?_⟩⟩
      have sh := bools_show [false, false, true, false] (by decide)
      refine ⟨_, .list ([false, false, true, false].map PyData.bool), rfl, dp_bools (bs := [false, false, true, false]) upd_same, sh.1, sh.2.1, sh.2.2.1, sh.2.2.2, ?_⟩
      refine ⟨by show 4 ≤ sizeLine; decide, fun l12 n12 => ?_⟩
      refine ⟨_, .list ([false, false, true, false].map PyData.bool), rfl, dp_bools (bs := [false, false, true, false]) upd_same, sh.1, sh.2.1, sh.2.2.1, sh.2.2.2, rfl, ?_⟩
      rw [decide_eq_true rfl]
      exact q _
end
end Z64

set_option Elab.async false
set_option linter.all false
set_option maxRecDepth 100000
set_option maxHeartbeats 4000000
namespace Z65
open PySem PySem.Spec PyProof.Rows L2 Cau RepG Dr14 Z1 Z2 Z3 Z4 ZE Z5 Z6 Z7 Z8 Z9 ZN5 ZN6 ZN7 ZN8 ZN10 ZN11 ZN12 ZN13 ZN19 ZN20 ZN21 ZN22 ZN22b ZN25 Z50 Z51 Z52 Z53 Z54 Z55 Z56 Z57 Z58 Z59 Z60 Z61 Z62 Z63 Z64
abbrev sInit : Stmt := (ZN26.clsBody (topS 10)).getD 0 (.Pass ⟨0, 0, 0, 0⟩)
/-! ### what the top has written, and the law's own head -/
theorem all_mk {l : PySem.W.OpenLaw} {w : World} {K : PySem.W.Frag} {h : Heap} {mg : Str → Option Value} {fa : Addr} (X : K.In h) (G : h.Ns mainGlobals mg) (hfa : mg "law" = some (.ref fa))
    (own : ∀ x ∈ (["_law_told_right", "_law_errors_right"] : List Str), ∀ c P : Addr, PySem.W.tabIn K x = some (c, P) → PySem.W.CodeHd h c P ∧ h.get? P = some { cls := .none, data := .fields #[] })
    {f0 : Addr} {od0 an0 : Option Addr} {sl0 : Array (Option Value)} {oc0 kV0 dc0 pm0 ct0 cd0 : Value}
    {f1 : Addr} {od1 an1 : Option Addr} {sl1 : Array (Option Value)} {oc1 kV1 dc1 pm1 ct1 cd1 : Value}
    {f2 : Addr} {od2 an2 : Option Addr} {sl2 : Array (Option Value)} {oc2 kV2 dc2 pm2 ct2 cd2 : Value}
    {f3 : Addr} {od3 an3 : Option Addr} {sl3 : Array (Option Value)} {oc3 kV3 dc3 pm3 ct3 cd3 : Value}
    {f4 : Addr} {od4 an4 : Option Addr} {sl4 : Array (Option Value)} {oc4 kV4 dc4 pm4 ct4 cd4 : Value}
    {f5 : Addr} {od5 an5 : Option Addr} {sl5 : Array (Option Value)} {oc5 kV5 dc5 pm5 ct5 cd5 : Value}
    {f6 : Addr} {od6 an6 : Option Addr} {sl6 : Array (Option Value)} {oc6 kV6 dc6 pm6 ct6 cd6 : Value}
    {f7 : Addr} {od7 an7 : Option Addr} {sl7 : Array (Option Value)} {oc7 kV7 dc7 pm7 ct7 cd7 : Value}
    {f8 : Addr} {od8 an8 : Option Addr} {sl8 : Array (Option Value)} {oc8 kV8 dc8 pm8 ct8 cd8 : Value}
    {f9 : Addr} {od9 an9 : Option Addr} {sl9 : Array (Option Value)} {oc9 kV9 dc9 pm9 ct9 cd9 : Value}
    {f10 : Addr} {od10 an10 : Option Addr} {sl10 : Array (Option Value)} {oc10 kV10 dc10 pm10 ct10 cd10 : Value}
    {f11 : Addr} {od11 an11 : Option Addr} {sl11 : Array (Option Value)} {oc11 kV11 dc11 pm11 ct11 cd11 : Value}
    {f12 : Addr} {od12 an12 : Option Addr} {sl12 : Array (Option Value)} {oc12 kV12 dc12 pm12 ct12 cd12 : Value}
    {f13 : Addr} {od13 an13 : Option Addr} {sl13 : Array (Option Value)} {oc13 kV13 dc13 pm13 ct13 cd13 : Value}
    {f14 : Addr} {od14 an14 : Option Addr} {sl14 : Array (Option Value)} {oc14 kV14 dc14 pm14 ct14 cd14 : Value}
    {f15 : Addr} {od15 an15 : Option Addr} {sl15 : Array (Option Value)} {oc15 kV15 dc15 pm15 ct15 cd15 : Value}
    {f16 : Addr} {od16 an16 : Option Addr} {sl16 : Array (Option Value)} {oc16 kV16 dc16 pm16 ct16 cd16 : Value}
    {f17 : Addr} {od17 an17 : Option Addr} {sl17 : Array (Option Value)} {oc17 kV17 dc17 pm17 ct17 cd17 : Value}
    {f18 : Addr} {od18 an18 : Option Addr} {sl18 : Array (Option Value)} {oc18 kV18 dc18 pm18 ct18 cd18 : Value}
    {f19 : Addr} {od19 an19 : Option Addr} {sl19 : Array (Option Value)} {oc19 kV19 dc19 pm19 ct19 cd19 : Value}
    {f20 : Addr} {od20 an20 : Option Addr} {sl20 : Array (Option Value)} {oc20 kV20 dc20 pm20 ct20 cd20 : Value}
    {f21 : Addr} {od21 an21 : Option Addr} {sl21 : Array (Option Value)} {oc21 kV21 dc21 pm21 ct21 cd21 : Value}
    {f22 : Addr} {od22 an22 : Option Addr} {sl22 : Array (Option Value)} {oc22 kV22 dc22 pm22 ct22 cd22 : Value}
    {f23 : Addr} {od23 an23 : Option Addr} {sl23 : Array (Option Value)} {oc23 kV23 dc23 pm23 ct23 cd23 : Value}
    {f24 : Addr} {od24 an24 : Option Addr} {sl24 : Array (Option Value)} {oc24 kV24 dc24 pm24 ct24 cd24 : Value}
    {f25 : Addr} {od25 an25 : Option Addr} {sl25 : Array (Option Value)} {oc25 kV25 dc25 pm25 ct25 cd25 : Value}
    {f26 : Addr} {od26 an26 : Option Addr} {sl26 : Array (Option Value)} {oc26 kV26 dc26 pm26 ct26 cd26 : Value}
    {f27 : Addr} {od27 an27 : Option Addr} {sl27 : Array (Option Value)} {oc27 kV27 dc27 pm27 ct27 cd27 : Value}
    {f28 : Addr} {od28 an28 : Option Addr} {sl28 : Array (Option Value)} {oc28 kV28 dc28 pm28 ct28 cd28 : Value}
    {f29 : Addr} {od29 an29 : Option Addr} {sl29 : Array (Option Value)} {oc29 kV29 dc29 pm29 ct29 cd29 : Value}
    {f30 : Addr} {od30 an30 : Option Addr} {sl30 : Array (Option Value)} {oc30 kV30 dc30 pm30 ct30 cd30 : Value}
    {f31 : Addr} {od31 an31 : Option Addr} {sl31 : Array (Option Value)} {oc31 kV31 dc31 pm31 ct31 cd31 : Value}
    {f32 : Addr} {od32 an32 : Option Addr} {sl32 : Array (Option Value)} {oc32 kV32 dc32 pm32 ct32 cd32 : Value}
    {f33 : Addr} {od33 an33 : Option Addr} {sl33 : Array (Option Value)} {oc33 kV33 dc33 pm33 ct33 cd33 : Value}
    {f34 : Addr} {od34 an34 : Option Addr} {sl34 : Array (Option Value)} {oc34 kV34 dc34 pm34 ct34 cd34 : Value}
    {f35 : Addr} {od35 an35 : Option Addr} {sl35 : Array (Option Value)} {oc35 kV35 dc35 pm35 ct35 cd35 : Value}
    {f36 : Addr} {od36 an36 : Option Addr} {sl36 : Array (Option Value)} {oc36 kV36 dc36 pm36 ct36 cd36 : Value}
    {f37 : Addr} {od37 an37 : Option Addr} {sl37 : Array (Option Value)} {oc37 kV37 dc37 pm37 ct37 cd37 : Value}
    {f38 : Addr} {od38 an38 : Option Addr} {sl38 : Array (Option Value)} {oc38 kV38 dc38 pm38 ct38 cd38 : Value}
    {f39 : Addr} {od39 an39 : Option Addr} {sl39 : Array (Option Value)} {oc39 kV39 dc39 pm39 ct39 cd39 : Value}
    {f40 : Addr} {od40 an40 : Option Addr} {sl40 : Array (Option Value)} {oc40 kV40 dc40 pm40 ct40 cd40 : Value}
    {f41 : Addr} {od41 an41 : Option Addr} {sl41 : Array (Option Value)} {oc41 kV41 dc41 pm41 ct41 cd41 : Value}
    {f42 : Addr} {od42 an42 : Option Addr} {sl42 : Array (Option Value)} {oc42 kV42 dc42 pm42 ct42 cd42 : Value}
    {f43 : Addr} {od43 an43 : Option Addr} {sl43 : Array (Option Value)} {oc43 kV43 dc43 pm43 ct43 cd43 : Value}
    {f44 : Addr} {od44 an44 : Option Addr} {sl44 : Array (Option Value)} {oc44 kV44 dc44 pm44 ct44 cd44 : Value}
    {f45 : Addr} {od45 an45 : Option Addr} {sl45 : Array (Option Value)} {oc45 kV45 dc45 pm45 ct45 cd45 : Value}
    {f46 : Addr} {od46 an46 : Option Addr} {sl46 : Array (Option Value)} {oc46 kV46 dc46 pm46 ct46 : Value}
    {cO46 Pt46 : Addr} {co46 : Value} {cdd46 : Option Addr} {cvs46 : Array Value} {csl46 : Array (Option Value)}
    {f47 : Addr} {od47 an47 : Option Addr} {sl47 : Array (Option Value)} {oc47 kV47 dc47 pm47 ct47 : Value}
    {cO47 Pt47 : Addr} {co47 : Value} {cdd47 : Option Addr} {cvs47 : Array Value} {csl47 : Array (Option Value)}
    {f48 : Addr} {od48 an48 : Option Addr} {sl48 : Array (Option Value)} {oc48 kV48 dc48 pm48 ct48 cd48 : Value}
    {KB iKB : Addr} {ocKB kVKB dcKB pmKB cdKB ctKB : Value} {odKB anKB : Option Addr} {slKB : Array (Option Value)}
    {KT iKT : Addr} {ocKT kVKT dcKT pmKT cdKT ctKT : Value} {odKT anKT : Option Addr} {slKT : Array (Option Value)}
    {KN iKN : Addr} {ocKN kVKN dcKN pmKN cdKN ctKN : Value} {odKN anKN : Option Addr} {slKN : Array (Option Value)}
    {dT e0 fFr dF : Addr} {odT odE odFr anFr odF : Option Addr} {usT usE usF : Array Value} {nT nE nF_ : Nat} {slT slE slFr slF : Array (Option Value)} {ocFr kVFr dcFr pmFr cdFr ctFr : Value}
    {CM NM : Addr} {nmM qM : Str} {bsM bmM subM : List Value} {snM : List Str} {abM : Bool} {colM : Option Bool} {ddM : Option Addr} {m0M m1M m2M m3M m5M : Option Value}
    {fI cdI ccI : Addr} {ocI kVI dcI pmI ctI clI cclI : Value} {odI anI cldI cddI : Option Addr} {slI cslI ccsI : Array (Option Value)} {vsI : Array Value} {fileI : Str} {tfI : Tok}
    {d1 d2 d3 d4 : Addr} {es1 es3 : Array DictEntry} {n1 n3 mm2 mm4 : Nat} {us2 us4 : Array Value} {od_2 od_4 : Option Addr} {sl_2 sl_4 : Array (Option Value)}
    {CR : Addr}
    {CD : Addr}
    {CB : Addr}
    {CP : Addr}
    {t1 : Tok}
    {t2 : Tok}
    {t3 : Tok}
    {t4 : Tok}
    (a0 : PySem.W.nsIn K mainGlobals "is_whole" = some (some (.ref f0)))
    (l0 : K.lookup f0 = some ⟨oc0, od0, .func (PySem.W.fnOf "is_whole" "is_whole" (defArgs sIsWhole) (defBody sIsWhole) (defScope sIsWhole) .none kV0 dc0 pm0 an0 cd0 ct0), sl0⟩)
    (c0 : PySem.W.codeIn K cd0 "is_whole" = true)
    (k0 : PySem.W.keepIn K (.ref f0) = true)
    (a1 : PySem.W.nsIn K mainGlobals "is_tuple_of" = some (some (.ref f1)))
    (l1 : K.lookup f1 = some ⟨oc1, od1, .func (PySem.W.fnOf "is_tuple_of" "is_tuple_of" (defArgs sTupleOf) (defBody sTupleOf) (defScope sTupleOf) .none kV1 dc1 pm1 an1 cd1 ct1), sl1⟩)
    (c1 : PySem.W.codeIn K cd1 "is_tuple_of" = true)
    (k1 : PySem.W.keepIn K (.ref f1) = true)
    (a2 : PySem.W.nsIn K mainGlobals "is_list" = some (some (.ref f2)))
    (l2 : K.lookup f2 = some ⟨oc2, od2, .func (PySem.W.fnOf "is_list" "is_list" (defArgs sIsList) (defBody sIsList) (defScope sIsList) .none kV2 dc2 pm2 an2 cd2 ct2), sl2⟩)
    (c2 : PySem.W.codeIn K cd2 "is_list" = true)
    (k2 : PySem.W.keepIn K (.ref f2) = true)
    (a3 : PySem.W.nsIn K mainGlobals "is_fraction" = some (some (.ref f3)))
    (l3 : K.lookup f3 = some ⟨oc3, od3, .func (PySem.W.fnOf "is_fraction" "is_fraction" (defArgs sIsFr) (defBody sIsFr) (defScope sIsFr) .none kV3 dc3 pm3 an3 cd3 ct3), sl3⟩)
    (c3 : PySem.W.codeIn K cd3 "is_fraction" = true)
    (k3 : PySem.W.keepIn K (.ref f3) = true)
    (a4 : PySem.W.nsIn K mainGlobals "are_fractions" = some (some (.ref f4)))
    (l4 : K.lookup f4 = some ⟨oc4, od4, .func (PySem.W.fnOf "are_fractions" "are_fractions" (defArgs sAreFr) (defBody sAreFr) (defScope sAreFr) .none kV4 dc4 pm4 an4 cd4 ct4), sl4⟩)
    (c4 : PySem.W.codeIn K cd4 "are_fractions" = true)
    (k4 : PySem.W.keepIn K (.ref f4) = true)
    (a5 : PySem.W.nsIn K mainGlobals "is_name" = some (some (.ref f5)))
    (l5 : K.lookup f5 = some ⟨oc5, od5, .func (PySem.W.fnOf "is_name" "is_name" (defArgs sIsName) (defBody sIsName) (defScope sIsName) .none kV5 dc5 pm5 an5 cd5 ct5), sl5⟩)
    (c5 : PySem.W.codeIn K cd5 "is_name" = true)
    (k5 : PySem.W.keepIn K (.ref f5) = true)
    (a6 : PySem.W.nsIn K mainGlobals "is_name_table" = some (some (.ref f6)))
    (l6 : K.lookup f6 = some ⟨oc6, od6, .func (PySem.W.fnOf "is_name_table" "is_name_table" (defArgs sNameT) (defBody sNameT) (defScope sNameT) .none kV6 dc6 pm6 an6 cd6 ct6), sl6⟩)
    (c6 : PySem.W.codeIn K cd6 "is_name_table" = true)
    (k6 : PySem.W.keepIn K (.ref f6) = true)
    (a7 : PySem.W.nsIn K mainGlobals "bare_basis" = some (some (.ref f7)))
    (l7 : K.lookup f7 = some ⟨oc7, od7, .func (PySem.W.fnOf "bare_basis" "bare_basis" (defArgs sBare) (defBody sBare) (defScope sBare) .none kV7 dc7 pm7 an7 cd7 ct7), sl7⟩)
    (c7 : PySem.W.codeIn K cd7 "bare_basis" = true)
    (k7 : PySem.W.keepIn K (.ref f7) = true)
    (a8 : PySem.W.nsIn K mainGlobals "settled_value" = some (some (.ref f8)))
    (l8 : K.lookup f8 = some ⟨oc8, od8, .func (PySem.W.fnOf "settled_value" "settled_value" (defArgs sSettled) (defBody sSettled) (defScope sSettled) .none kV8 dc8 pm8 an8 cd8 ct8), sl8⟩)
    (c8 : PySem.W.codeIn K cd8 "settled_value" = true)
    (k8 : PySem.W.keepIn K (.ref f8) = true)
    (a9 : PySem.W.nsIn K mainGlobals "value_of_parts" = some (some (.ref f9)))
    (l9 : K.lookup f9 = some ⟨oc9, od9, .func (PySem.W.fnOf "value_of_parts" "value_of_parts" (defArgs sValOf) (defBody sValOf) (defScope sValOf) .none kV9 dc9 pm9 an9 cd9 ct9), sl9⟩)
    (c9 : PySem.W.codeIn K cd9 "value_of_parts" = true)
    (k9 : PySem.W.keepIn K (.ref f9) = true)
    (a10 : PySem.W.nsIn K mainGlobals "parts_of_value" = some (some (.ref f10)))
    (l10 : K.lookup f10 = some ⟨oc10, od10, .func (PySem.W.fnOf "parts_of_value" "parts_of_value" (defArgs sParOf) (defBody sParOf) (defScope sParOf) .none kV10 dc10 pm10 an10 cd10 ct10), sl10⟩)
    (c10 : PySem.W.codeIn K cd10 "parts_of_value" = true)
    (k10 : PySem.W.keepIn K (.ref f10) = true)
    (a11 : PySem.W.nsIn K mainGlobals "basis_of" = some (some (.ref f11)))
    (l11 : K.lookup f11 = some ⟨oc11, od11, .func (PySem.W.fnOf "basis_of" "basis_of" (defArgs sBasOf) (defBody sBasOf) (defScope sBasOf) .none kV11 dc11 pm11 an11 cd11 ct11), sl11⟩)
    (c11 : PySem.W.codeIn K cd11 "basis_of" = true)
    (k11 : PySem.W.keepIn K (.ref f11) = true)
    (a12 : PySem.W.nsIn K mainGlobals "is_number" = some (some (.ref f12)))
    (l12 : K.lookup f12 = some ⟨oc12, od12, .func (PySem.W.fnOf "is_number" "is_number" (defArgs sIsNum) (defBody sIsNum) (defScope sIsNum) .none kV12 dc12 pm12 an12 cd12 ct12), sl12⟩)
    (c12 : PySem.W.codeIn K cd12 "is_number" = true)
    (k12 : PySem.W.keepIn K (.ref f12) = true)
    (a13 : PySem.W.nsIn K mainGlobals "number_on" = some (some (.ref f13)))
    (l13 : K.lookup f13 = some ⟨oc13, od13, .func (PySem.W.fnOf "number_on" "number_on" (defArgs sNumOn) (defBody sNumOn) (defScope sNumOn) .none kV13 dc13 pm13 an13 cd13 ct13), sl13⟩)
    (c13 : PySem.W.codeIn K cd13 "number_on" = true)
    (k13 : PySem.W.keepIn K (.ref f13) = true)
    (a14 : PySem.W.nsIn K mainGlobals "is_point" = some (some (.ref f14)))
    (l14 : K.lookup f14 = some ⟨oc14, od14, .func (PySem.W.fnOf "is_point" "is_point" (defArgs sIsPt) (defBody sIsPt) (defScope sIsPt) .none kV14 dc14 pm14 an14 cd14 ct14), sl14⟩)
    (c14 : PySem.W.codeIn K cd14 "is_point" = true)
    (k14 : PySem.W.keepIn K (.ref f14) = true)
    (a15 : PySem.W.nsIn K mainGlobals "are_points" = some (some (.ref f15)))
    (l15 : K.lookup f15 = some ⟨oc15, od15, .func (PySem.W.fnOf "are_points" "are_points" (defArgs sArePts) (defBody sArePts) (defScope sArePts) .none kV15 dc15 pm15 an15 cd15 ct15), sl15⟩)
    (c15 : PySem.W.codeIn K cd15 "are_points" = true)
    (k15 : PySem.W.keepIn K (.ref f15) = true)
    (a16 : PySem.W.nsIn K mainGlobals "check_dict_of_points" = some (some (.ref f16)))
    (l16 : K.lookup f16 = some ⟨oc16, od16, .func (PySem.W.fnOf "check_dict_of_points" "check_dict_of_points" (defArgs sCkPts) (defBody sCkPts) (defScope sCkPts) .none kV16 dc16 pm16 an16 cd16 ct16), sl16⟩)
    (c16 : PySem.W.codeIn K cd16 "check_dict_of_points" = true)
    (k16 : PySem.W.keepIn K (.ref f16) = true)
    (a17 : PySem.W.nsIn K mainGlobals "sheet" = some (some (.ref f17)))
    (l17 : K.lookup f17 = some ⟨oc17, od17, .func (PySem.W.fnOf "sheet" "sheet" (defArgs sSheet) (defBody sSheet) (defScope sSheet) .none kV17 dc17 pm17 an17 cd17 ct17), sl17⟩)
    (c17 : PySem.W.codeIn K cd17 "sheet" = true)
    (k17 : PySem.W.keepIn K (.ref f17) = true)
    (a18 : PySem.W.nsIn K mainGlobals "is_deed" = some (some (.ref f18)))
    (l18 : K.lookup f18 = some ⟨oc18, od18, .func (PySem.W.fnOf "is_deed" "is_deed" (defArgs sIsDeed) (defBody sIsDeed) (defScope sIsDeed) .none kV18 dc18 pm18 an18 cd18 ct18), sl18⟩)
    (c18 : PySem.W.codeIn K cd18 "is_deed" = true)
    (k18 : PySem.W.keepIn K (.ref f18) = true)
    (a19 : PySem.W.nsIn K mainGlobals "check_deed" = some (some (.ref f19)))
    (l19 : K.lookup f19 = some ⟨oc19, od19, .func (PySem.W.fnOf "check_deed" "check_deed" (defArgs sCheckDeed) (defBody sCheckDeed) (defScope sCheckDeed) .none kV19 dc19 pm19 an19 cd19 ct19), sl19⟩)
    (c19 : PySem.W.codeIn K cd19 "check_deed" = true)
    (k19 : PySem.W.keepIn K (.ref f19) = true)
    (a20 : PySem.W.nsIn K mainGlobals "are_steps" = some (some (.ref f20)))
    (l20 : K.lookup f20 = some ⟨oc20, od20, .func (PySem.W.fnOf "are_steps" "are_steps" (defArgs sAreSteps) (defBody sAreSteps) (defScope sAreSteps) .none kV20 dc20 pm20 an20 cd20 ct20), sl20⟩)
    (c20 : PySem.W.codeIn K cd20 "are_steps" = true)
    (k20 : PySem.W.keepIn K (.ref f20) = true)
    (a21 : PySem.W.nsIn K mainGlobals "is_drawing" = some (some (.ref f21)))
    (l21 : K.lookup f21 = some ⟨oc21, od21, .func (PySem.W.fnOf "is_drawing" "is_drawing" (defArgs sIsDrawing) (defBody sIsDrawing) (defScope sIsDrawing) .none kV21 dc21 pm21 an21 cd21 ct21), sl21⟩)
    (c21 : PySem.W.codeIn K cd21 "is_drawing" = true)
    (k21 : PySem.W.keepIn K (.ref f21) = true)
    (a22 : PySem.W.nsIn K mainGlobals "deed_names" = some (some (.ref f22)))
    (l22 : K.lookup f22 = some ⟨oc22, od22, .func (PySem.W.fnOf "deed_names" "deed_names" (defArgs sDeedNames) (defBody sDeedNames) (defScope sDeedNames) .none kV22 dc22 pm22 an22 cd22 ct22), sl22⟩)
    (c22 : PySem.W.codeIn K cd22 "deed_names" = true)
    (k22 : PySem.W.keepIn K (.ref f22) = true)
    (a23 : PySem.W.nsIn K mainGlobals "names_of" = some (some (.ref f23)))
    (l23 : K.lookup f23 = some ⟨oc23, od23, .func (PySem.W.fnOf "names_of" "names_of" (defArgs sNamesOf) (defBody sNamesOf) (defScope sNamesOf) .none kV23 dc23 pm23 an23 cd23 ct23), sl23⟩)
    (c23 : PySem.W.codeIn K cd23 "names_of" = true)
    (k23 : PySem.W.keepIn K (.ref f23) = true)
    (a24 : PySem.W.nsIn K mainGlobals "tool_of" = some (some (.ref f24)))
    (l24 : K.lookup f24 = some ⟨oc24, od24, .func (PySem.W.fnOf "tool_of" "tool_of" (defArgs sToolOf) (defBody sToolOf) (defScope sToolOf) .none kV24 dc24 pm24 an24 cd24 ct24), sl24⟩)
    (c24 : PySem.W.codeIn K cd24 "tool_of" = true)
    (k24 : PySem.W.keepIn K (.ref f24) = true)
    (a25 : PySem.W.nsIn K mainGlobals "on_names" = some (some (.ref f25)))
    (l25 : K.lookup f25 = some ⟨oc25, od25, .func (PySem.W.fnOf "on_names" "on_names" (defArgs sOnNames) (defBody sOnNames) (defScope sOnNames) .none kV25 dc25 pm25 an25 cd25 ct25), sl25⟩)
    (c25 : PySem.W.codeIn K cd25 "on_names" = true)
    (k25 : PySem.W.keepIn K (.ref f25) = true)
    (a26 : PySem.W.nsIn K mainGlobals "with_names" = some (some (.ref f26)))
    (l26 : K.lookup f26 = some ⟨oc26, od26, .func (PySem.W.fnOf "with_names" "with_names" (defArgs sWithN) (defBody sWithN) (defScope sWithN) .none kV26 dc26 pm26 an26 cd26 ct26), sl26⟩)
    (c26 : PySem.W.codeIn K cd26 "with_names" = true)
    (k26 : PySem.W.keepIn K (.ref f26) = true)
    (a27 : PySem.W.nsIn K mainGlobals "first_unknown" = some (some (.ref f27)))
    (l27 : K.lookup f27 = some ⟨oc27, od27, .func (PySem.W.fnOf "first_unknown" "first_unknown" (defArgs sFirstU) (defBody sFirstU) (defScope sFirstU) .none kV27 dc27 pm27 an27 cd27 ct27), sl27⟩)
    (c27 : PySem.W.codeIn K cd27 "first_unknown" = true)
    (k27 : PySem.W.keepIn K (.ref f27) = true)
    (a28 : PySem.W.nsIn K mainGlobals "check_known_names" = some (some (.ref f28)))
    (l28 : K.lookup f28 = some ⟨oc28, od28, .func (PySem.W.fnOf "check_known_names" "check_known_names" (defArgs sCkKn) (defBody sCkKn) (defScope sCkKn) .none kV28 dc28 pm28 an28 cd28 ct28), sl28⟩)
    (c28 : PySem.W.codeIn K cd28 "check_known_names" = true)
    (k28 : PySem.W.keepIn K (.ref f28) = true)
    (a29 : PySem.W.nsIn K mainGlobals "laid" = some (some (.ref f29)))
    (l29 : K.lookup f29 = some ⟨oc29, od29, .func (PySem.W.fnOf "laid" "laid" (defArgs sLaid) (defBody sLaid) (defScope sLaid) .none kV29 dc29 pm29 an29 cd29 ct29), sl29⟩)
    (c29 : PySem.W.codeIn K cd29 "laid" = true)
    (k29 : PySem.W.keepIn K (.ref f29) = true)
    (a30 : PySem.W.nsIn K mainGlobals "_law_begun" = some (some (.ref f30)))
    (l30 : K.lookup f30 = some ⟨oc30, od30, .func (PySem.W.fnOf "_law_begun" "_law_begun" (defArgs sBegun) (defBody sBegun) (defScope sBegun) .none kV30 dc30 pm30 an30 cd30 ct30), sl30⟩)
    (c30 : PySem.W.codeIn K cd30 "_law_begun" = true)
    (k30 : PySem.W.keepIn K (.ref f30) = true)
    (a31 : PySem.W.nsIn K mainGlobals "_law_stirred" = some (some (.ref f31)))
    (l31 : K.lookup f31 = some ⟨oc31, od31, .func (PySem.W.fnOf "_law_stirred" "_law_stirred" (defArgs sStirred) (defBody sStirred) (defScope sStirred) .none kV31 dc31 pm31 an31 cd31 ct31), sl31⟩)
    (c31 : PySem.W.codeIn K cd31 "_law_stirred" = true)
    (k31 : PySem.W.keepIn K (.ref f31) = true)
    (a32 : PySem.W.nsIn K mainGlobals "_law_draw" = some (some (.ref f32)))
    (l32 : K.lookup f32 = some ⟨oc32, od32, .func (PySem.W.fnOf "_law_draw" "_law_draw" (defArgs sDraw) (defBody sDraw) (defScope sDraw) .none kV32 dc32 pm32 an32 cd32 ct32), sl32⟩)
    (c32 : PySem.W.codeIn K cd32 "_law_draw" = true)
    (k32 : PySem.W.keepIn K (.ref f32) = true)
    (a33 : PySem.W.nsIn K mainGlobals "_law_pick" = some (some (.ref f33)))
    (l33 : K.lookup f33 = some ⟨oc33, od33, .func (PySem.W.fnOf "_law_pick" "_law_pick" (defArgs sPick) (defBody sPick) (defScope sPick) .none kV33 dc33 pm33 an33 cd33 ct33), sl33⟩)
    (c33 : PySem.W.codeIn K cd33 "_law_pick" = true)
    (k33 : PySem.W.keepIn K (.ref f33) = true)
    (a34 : PySem.W.nsIn K mainGlobals "_law_shuffled" = some (some (.ref f34)))
    (l34 : K.lookup f34 = some ⟨oc34, od34, .func (PySem.W.fnOf "_law_shuffled" "_law_shuffled" (defArgs sShuf) (defBody sShuf) (defScope sShuf) .none kV34 dc34 pm34 an34 cd34 ct34), sl34⟩)
    (c34 : PySem.W.codeIn K cd34 "_law_shuffled" = true)
    (k34 : PySem.W.keepIn K (.ref f34) = true)
    (a35 : PySem.W.nsIn K mainGlobals "_law_name" = some (some (.ref f35)))
    (l35 : K.lookup f35 = some ⟨oc35, od35, .func (PySem.W.fnOf "_law_name" "_law_name" (defArgs sNm) (defBody sNm) (defScope sNm) .none kV35 dc35 pm35 an35 cd35 ct35), sl35⟩)
    (c35 : PySem.W.codeIn K cd35 "_law_name" = true)
    (k35 : PySem.W.keepIn K (.ref f35) = true)
    (a36 : PySem.W.nsIn K mainGlobals "_law_caught" = some (some (.ref f36)))
    (l36 : K.lookup f36 = some ⟨oc36, od36, .func (PySem.W.fnOf "_law_caught" "_law_caught" (defArgs sCaught) (defBody sCaught) (defScope sCaught) .none kV36 dc36 pm36 an36 cd36 ct36), sl36⟩)
    (c36 : PySem.W.codeIn K cd36 "_law_caught" = true)
    (k36 : PySem.W.keepIn K (.ref f36) = true)
    (a37 : PySem.W.nsIn K mainGlobals "_law_forms" = some (some (.ref f37)))
    (l37 : K.lookup f37 = some ⟨oc37, od37, .func (PySem.W.fnOf "_law_forms" "_law_forms" (defArgs sForms) (defBody sForms) (defScope sForms) .none kV37 dc37 pm37 an37 cd37 ct37), sl37⟩)
    (c37 : PySem.W.codeIn K cd37 "_law_forms" = true)
    (k37 : PySem.W.keepIn K (.ref f37) = true)
    (a38 : PySem.W.nsIn K mainGlobals "_law_has_way" = some (some (.ref f38)))
    (l38 : K.lookup f38 = some ⟨oc38, od38, .func (PySem.W.fnOf "_law_has_way" "_law_has_way" (defArgs sHasWay) (defBody sHasWay) (defScope sHasWay) .none kV38 dc38 pm38 an38 cd38 ct38), sl38⟩)
    (c38 : PySem.W.codeIn K cd38 "_law_has_way" = true)
    (k38 : PySem.W.keepIn K (.ref f38) = true)
    (a39 : PySem.W.nsIn K mainGlobals "_law_deed" = some (some (.ref f39)))
    (l39 : K.lookup f39 = some ⟨oc39, od39, .func (PySem.W.fnOf "_law_deed" "_law_deed" (defArgs sDrawn) (defBody sDrawn) (defScope sDrawn) .none kV39 dc39 pm39 an39 cd39 ct39), sl39⟩)
    (c39 : PySem.W.codeIn K cd39 "_law_deed" = true)
    (k39 : PySem.W.keepIn K (.ref f39) = true)
    (a40 : PySem.W.nsIn K mainGlobals "_law_is_name_due" = some (some (.ref f40)))
    (l40 : K.lookup f40 = some ⟨oc40, od40, .func (PySem.W.fnOf "_law_is_name_due" "_law_is_name_due" (defArgs sLName) (defBody sLName) (defScope sLName) .none kV40 dc40 pm40 an40 cd40 ct40), sl40⟩)
    (c40 : PySem.W.codeIn K cd40 "_law_is_name_due" = true)
    (k40 : PySem.W.keepIn K (.ref f40) = true)
    (a41 : PySem.W.nsIn K mainGlobals "_law_is_deed_due" = some (some (.ref f41)))
    (l41 : K.lookup f41 = some ⟨oc41, od41, .func (PySem.W.fnOf "_law_is_deed_due" "_law_is_deed_due" (defArgs sDeedDue) (defBody sDeedDue) (defScope sDeedDue) .none kV41 dc41 pm41 an41 cd41 ct41), sl41⟩)
    (c41 : PySem.W.codeIn K cd41 "_law_is_deed_due" = true)
    (k41 : PySem.W.keepIn K (.ref f41) = true)
    (a42 : PySem.W.nsIn K mainGlobals "_law_bent" = some (some (.ref f42)))
    (l42 : K.lookup f42 = some ⟨oc42, od42, .func (PySem.W.fnOf "_law_bent" "_law_bent" (defArgs sBent) (defBody sBent) (defScope sBent) .none kV42 dc42 pm42 an42 cd42 ct42), sl42⟩)
    (c42 : PySem.W.codeIn K cd42 "_law_bent" = true)
    (k42 : PySem.W.keepIn K (.ref f42) = true)
    (a43 : PySem.W.nsIn K mainGlobals "_law_is_drawing_due" = some (some (.ref f43)))
    (l43 : K.lookup f43 = some ⟨oc43, od43, .func (PySem.W.fnOf "_law_is_drawing_due" "_law_is_drawing_due" (defArgs sDrawDue) (defBody sDrawDue) (defScope sDrawDue) .none kV43 dc43 pm43 an43 cd43 ct43), sl43⟩)
    (c43 : PySem.W.codeIn K cd43 "_law_is_drawing_due" = true)
    (k43 : PySem.W.keepIn K (.ref f43) = true)
    (a44 : PySem.W.nsIn K mainGlobals "_law_steps" = some (some (.ref f44)))
    (l44 : K.lookup f44 = some ⟨oc44, od44, .func (PySem.W.fnOf "_law_steps" "_law_steps" (defArgs sStp) (defBody sStp) (defScope sStp) .none kV44 dc44 pm44 an44 cd44 ct44), sl44⟩)
    (c44 : PySem.W.codeIn K cd44 "_law_steps" = true)
    (k44 : PySem.W.keepIn K (.ref f44) = true)
    (a45 : PySem.W.nsIn K mainGlobals "_law_bent_steps" = some (some (.ref f45)))
    (l45 : K.lookup f45 = some ⟨oc45, od45, .func (PySem.W.fnOf "_law_bent_steps" "_law_bent_steps" (defArgs sBSt) (defBody sBSt) (defScope sBSt) .none kV45 dc45 pm45 an45 cd45 ct45), sl45⟩)
    (c45 : PySem.W.codeIn K cd45 "_law_bent_steps" = true)
    (k45 : PySem.W.keepIn K (.ref f45) = true)
    (a46 : PySem.W.nsIn K mainGlobals "_law_told_right" = some (some (.ref f46)))
    (l46 : K.lookup f46 = some ⟨oc46, od46, .func (PySem.W.fnOf "_law_told_right" "_law_told_right" (defArgs sTold) (defBody sTold) (defScope sTold) .none kV46 dc46 pm46 an46 (.ref cO46) ct46), sl46⟩)
    (c46 : PySem.W.codeIn K (.ref cO46) "_law_told_right" = true)
    (k46 : PySem.W.keepIn K (.ref f46) = true)
    (co46 : K.lookup cO46 = some ⟨co46, cdd46, .fields cvs46, csl46⟩)
    (cp46 : cvs46[11]? = some (.ref Pt46))
    (cn46 : K.lookup Pt46 = none)
    (a47 : PySem.W.nsIn K mainGlobals "_law_errors_right" = some (some (.ref f47)))
    (l47 : K.lookup f47 = some ⟨oc47, od47, .func (PySem.W.fnOf "_law_errors_right" "_law_errors_right" (defArgs sErrR) (defBody sErrR) (defScope sErrR) .none kV47 dc47 pm47 an47 (.ref cO47) ct47), sl47⟩)
    (c47 : PySem.W.codeIn K (.ref cO47) "_law_errors_right" = true)
    (k47 : PySem.W.keepIn K (.ref f47) = true)
    (co47 : K.lookup cO47 = some ⟨co47, cdd47, .fields cvs47, csl47⟩)
    (cp47 : cvs47[11]? = some (.ref Pt47))
    (cn47 : K.lookup Pt47 = none)
    (a48 : PySem.W.nsIn K mainGlobals "law" = some (some (.ref f48)))
    (l48 : K.lookup f48 = some ⟨oc48, od48, .func (PySem.W.fnOf "law" "law" (defArgs sLaw) (defBody sLaw) (defScope sLaw) .none kV48 dc48 pm48 an48 cd48 ct48), sl48⟩)
    (c48 : PySem.W.codeIn K cd48 "law" = true)
    (k48 : PySem.W.keepIn K (.ref f48) = true)
    (gCR : PySem.W.nsIn K mainGlobals "RulerError" = some (some (.ref CR)))
    (eCR : PySem.W.excIn K CR [.type "ValueError", .type "Exception", .type "BaseException", .type "object"] "ValueError.__new__" = true)
    (kpCR : PySem.W.keepIn K (.ref CR) = true)
    (sbCR : PySem.W.subIn K (.ref CR) (.type "BaseException") = some true)
    (tyCR : PySem.W.typeIn K (.ref CR) = some (.type "type"))
    (gaCR : PySem.W.findIn K (.ref CR) "__getattribute__" = some (some (.builtin "BaseException.__getattribute__")))
    (gtCR : PySem.W.findIn K (.ref CR) "__getattr__" = some none)
    (hdCR : PySem.W.hasDictIn K CR = true)
    (clCR : PySem.W.findIn K (.ref CR) "__class__" = some (some (.builtin "object.__class__")))
    (mrCR : PySem.W.mroIn K CR (.type "object") = some true)
    (gCD : PySem.W.nsIn K mainGlobals "BadDeed" = some (some (.ref CD)))
    (eCD : PySem.W.excIn K CD [.type "ValueError", .type "Exception", .type "BaseException", .type "object"] "ValueError.__new__" = true)
    (kpCD : PySem.W.keepIn K (.ref CD) = true)
    (sbCD : PySem.W.subIn K (.ref CD) (.type "BaseException") = some true)
    (tyCD : PySem.W.typeIn K (.ref CD) = some (.type "type"))
    (gaCD : PySem.W.findIn K (.ref CD) "__getattribute__" = some (some (.builtin "BaseException.__getattribute__")))
    (gtCD : PySem.W.findIn K (.ref CD) "__getattr__" = some none)
    (hdCD : PySem.W.hasDictIn K CD = true)
    (clCD : PySem.W.findIn K (.ref CD) "__class__" = some (some (.builtin "object.__class__")))
    (mrCD : PySem.W.mroIn K CD (.type "object") = some true)
    (gCB : PySem.W.nsIn K mainGlobals "BadTable" = some (some (.ref CB)))
    (eCB : PySem.W.excIn K CB [.type "ValueError", .type "Exception", .type "BaseException", .type "object"] "ValueError.__new__" = true)
    (kpCB : PySem.W.keepIn K (.ref CB) = true)
    (sbCB : PySem.W.subIn K (.ref CB) (.type "BaseException") = some true)
    (tyCB : PySem.W.typeIn K (.ref CB) = some (.type "type"))
    (gaCB : PySem.W.findIn K (.ref CB) "__getattribute__" = some (some (.builtin "BaseException.__getattribute__")))
    (gtCB : PySem.W.findIn K (.ref CB) "__getattr__" = some none)
    (hdCB : PySem.W.hasDictIn K CB = true)
    (clCB : PySem.W.findIn K (.ref CB) "__class__" = some (some (.builtin "object.__class__")))
    (mrCB : PySem.W.mroIn K CB (.type "object") = some true)
    (gCP : PySem.W.nsIn K mainGlobals "BadPoints" = some (some (.ref CP)))
    (eCP : PySem.W.excIn K CP [.type "ValueError", .type "Exception", .type "BaseException", .type "object"] "ValueError.__new__" = true)
    (kpCP : PySem.W.keepIn K (.ref CP) = true)
    (sbCP : PySem.W.subIn K (.ref CP) (.type "BaseException") = some true)
    (tyCP : PySem.W.typeIn K (.ref CP) = some (.type "type"))
    (gaCP : PySem.W.findIn K (.ref CP) "__getattribute__" = some (some (.builtin "BaseException.__getattribute__")))
    (gtCP : PySem.W.findIn K (.ref CP) "__getattr__" = some none)
    (hdCP : PySem.W.hasDictIn K CP = true)
    (clCP : PySem.W.findIn K (.ref CP) "__class__" = some (some (.builtin "object.__class__")))
    (mrCP : PySem.W.mroIn K CP (.type "object") = some true)
    (sn : PySem.W.specialIn K (.builtin "object.__class__") "__get__" = some (some (.builtin "getset_descriptor.__get__")))
    (tk : PySem.W.takesIn K (.builtin "object.__class__") = some true)
    (sCD : PySem.W.subIn K (.ref CD) (.ref CR) = some true)
    (sCB : PySem.W.subIn K (.ref CB) (.ref CR) = some true)
    (sCP : PySem.W.subIn K (.ref CP) (.ref CR) = some true)
    (gCM : PySem.W.nsIn K mainGlobals "NoName" = some (some (.ref CM)))
    (xCM : K.lookup CM = some (excClassObj nmM qM CM NM bsM bmM true snM subM abM colM ddM m0M m1M m2M m3M m5M "ValueError.__new__"))
    (rvM : PySem.HandSPX.refsVE bmM = true)
    (kpCM : PySem.W.keepIn K (.ref CM) = true)
    (sbCM : PySem.W.subIn K (.ref CM) (.type "BaseException") = some true)
    (tyCM : PySem.W.typeIn K (.ref CM) = some (.type "type"))
    (gaCM : PySem.W.findIn K (.ref CM) "__getattribute__" = some (some (.builtin "BaseException.__getattribute__")))
    (gtCM : PySem.W.findIn K (.ref CM) "__getattr__" = some none)
    (hdCM : PySem.W.hasDictIn K CM = true)
    (clCM : PySem.W.findIn K (.ref CM) "__class__" = some (some (.builtin "object.__class__")))
    (mrCM : PySem.W.mroIn K CM (.type "object") = some true)
    (saCM : PySem.W.findIn K (.ref CM) "__setattr__" = some (some (.builtin "object.__setattr__")))
    (iM : PySem.W.findIn K (.ref CM) "__init__" = some (some (.ref fI)))
    (tI : PySem.W.typeIn K (.ref fI) = some (.type "function"))
    (lI : K.lookup fI = some ⟨ocI, odI, .func (PySem.W.ksFn "__init__" "NoName.__init__" (defArgs sInit) (defBody sInit) (defScope sInit) .none kVI dcI pmI anI (.ref cdI) ctI ccI), slI⟩)
    (cI : PySem.W.codeIn K (.ref cdI) "NoName.__init__" = true)
    (cellI : K.lookup ccI = some ⟨clI, cldI, .cell (some (.ref CM)), cslI⟩)
    (coI : K.lookup cdI = some ⟨cclI, cddI, .fields vsI, ccsI⟩)
    (viI : vsI[2]? = some (.str fileI tfI))
    (hfI : ((l.prog.main.file : Str) == fileI) = true)
    (icM : PySem.W.isClsIn K CM = true)
    (suM : PySem.W.mroIn K CM (.ref CM) = some true)
    (opM : PySem.W.nsIn K PySem.cStatics "thirdparty.any" = some none)
    (waM : PySem.W.ks_superIn K CM CM "__init__" = some (some (.builtin "ValueError.__init__")))
    (ivM : PySem.W.subIn K (.ref CM) (.type "ValueError") = some true)
    (topM : (l.prog.main.scope.names.lookup ("super" : Str)).isSome = false)
    (frM : PySem.W.findIn K (.ref CM) "name" = some none)
    (sCM : PySem.W.subIn K (.ref CM) (.ref CR) = some true)
    (gD1 : PySem.W.nsIn K mainGlobals "NAME_COUNTS" = some (some (.ref d1)))
    (hD1 : K.lookup d1 = some ⟨.type "dict", none, .dict es1 n1, #[]⟩)
    (litD1 : PySem.W.KeysLit w.params es1.toList)
    (lowD1 : (d1 == sysModules) = false)
    (tabD1 : (es1.toList.map fun e => (ZN26.txV e.key, ZN26.nuV e.val)) = (formsL.map fun p => (some p.1, some (p.2 : Int))))
    (gD3 : PySem.W.nsIn K mainGlobals "TOOLS_OF_OTHER_WORDS" = some (some (.ref d3)))
    (hD3 : K.lookup d3 = some ⟨.type "dict", none, .dict es3 n3, #[]⟩)
    (litD3 : PySem.W.KeysLit w.params es3.toList)
    (lowD3 : (d3 == sysModules) = false)
    (tabD3 : (es3.toList.map fun e => (ZN26.txV e.key, ZN26.txV e.val)) = (toolsL.map fun p => (some p.1, some p.2)))
    (gD2 : PySem.W.nsIn K mainGlobals "WORDS_WITH_WAYS" = some (some (.ref d2)))
    (hD2 : K.lookup d2 = some ⟨.type "tuple", od_2, .seq us2 mm2, sl_2⟩)
    (vD2 : Vals (waysL.map V.str) us2.toList)
    (gD4 : PySem.W.nsIn K mainGlobals "SHEET_NAMES" = some (some (.ref d4)))
    (hD4 : K.lookup d4 = some ⟨.type "tuple", od_4, .seq us4 mm4, sl_4⟩)
    (vD4 : Vals (sheetL.map V.str) us4.toList)
    (nTE : Pt46 ≠ Pt47)
    (gKB : PySem.W.nsIn K mainGlobals "Basis" = some (some (.ref KB)))
    (pgKB : PySem.W.plainGet K KB Str.empty = true)
    (hdKB : PySem.W.hasDictIn K KB = true)
    (poKB : PySem.W.plainOver K KB = true)
    (saKB : PySem.W.findIn K (.ref KB) "__setattr__" = some (some (.builtin "object.__setattr__")))
    (caKB : PySem.W.findIn K (.ref KB) "__class__" = some (some (.builtin "object.__class__")))
    (mrKB : PySem.W.mroIn K KB (.type "object") = some true)
    (mkKB : PySem.W.makesIn K KB = true)
    (inKB : PySem.W.findIn K (.ref KB) "__init__" = some (some (.ref iKB)))
    (fnKB : PySem.W.isFn K (.ref iKB) = true)
    (kpKB : PySem.W.keepIn K (.ref KB) = true)
    (kiKB : PySem.W.keepIn K (.ref iKB) = true)
    (liKB : K.lookup iKB = some ⟨ocKB, odKB, .func (PySem.W.fnOf "__init__" "Basis.__init__" (defArgs sBasisI) (defBody sBasisI) (defScope sBasisI) .none kVKB dcKB pmKB anKB cdKB ctKB), slKB⟩)
    (ciKB : PySem.W.codeIn K cdKB "Basis.__init__" = true)
    (n0KB : PySem.W.findIn K (.ref KB) "squares" = some none)
    (n1KB : PySem.W.findIn K (.ref KB) "rows" = some none)
    (n2KB : PySem.W.findIn K (.ref KB) "weights" = some none)
    (n3KB : PySem.W.findIn K (.ref KB) "near" = some none)
    (n4KB : PySem.W.findIn K (.ref KB) "bare" = some none)
    (gKT : PySem.W.nsIn K mainGlobals "Tower" = some (some (.ref KT)))
    (pgKT : PySem.W.plainGet K KT Str.empty = true)
    (hdKT : PySem.W.hasDictIn K KT = true)
    (poKT : PySem.W.plainOver K KT = true)
    (saKT : PySem.W.findIn K (.ref KT) "__setattr__" = some (some (.builtin "object.__setattr__")))
    (caKT : PySem.W.findIn K (.ref KT) "__class__" = some (some (.builtin "object.__class__")))
    (mrKT : PySem.W.mroIn K KT (.type "object") = some true)
    (mkKT : PySem.W.makesIn K KT = true)
    (inKT : PySem.W.findIn K (.ref KT) "__init__" = some (some (.ref iKT)))
    (fnKT : PySem.W.isFn K (.ref iKT) = true)
    (kpKT : PySem.W.keepIn K (.ref KT) = true)
    (kiKT : PySem.W.keepIn K (.ref iKT) = true)
    (liKT : K.lookup iKT = some ⟨ocKT, odKT, .func (PySem.W.fnOf "__init__" "Tower.__init__" (defArgs sTowerI) (defBody sTowerI) (defScope sTowerI) (.ref dT) kVKT dcKT pmKT anKT cdKT ctKT), slKT⟩)
    (ciKT : PySem.W.codeIn K cdKT "Tower.__init__" = true)
    (n0KT : PySem.W.findIn K (.ref KT) "squares" = some none)
    (n1KT : PySem.W.findIn K (.ref KT) "basis" = some none)
    (gKN : PySem.W.nsIn K mainGlobals "Number" = some (some (.ref KN)))
    (pgKN : PySem.W.plainGet K KN Str.empty = true)
    (hdKN : PySem.W.hasDictIn K KN = true)
    (poKN : PySem.W.plainOver K KN = true)
    (saKN : PySem.W.findIn K (.ref KN) "__setattr__" = some (some (.builtin "object.__setattr__")))
    (caKN : PySem.W.findIn K (.ref KN) "__class__" = some (some (.builtin "object.__class__")))
    (mrKN : PySem.W.mroIn K KN (.type "object") = some true)
    (mkKN : PySem.W.makesIn K KN = true)
    (inKN : PySem.W.findIn K (.ref KN) "__init__" = some (some (.ref iKN)))
    (fnKN : PySem.W.isFn K (.ref iKN) = true)
    (kpKN : PySem.W.keepIn K (.ref KN) = true)
    (kiKN : PySem.W.keepIn K (.ref iKN) = true)
    (liKN : K.lookup iKN = some ⟨ocKN, odKN, .func (PySem.W.fnOf "__init__" "Number.__init__" (defArgs sNumI) (defBody sNumI) (defScope sNumI) .none kVKN dcKN pmKN anKN cdKN ctKN), slKN⟩)
    (ciKN : PySem.W.codeIn K cdKN "Number.__init__" = true)
    (n0KN : PySem.W.findIn K (.ref KN) "tower" = some none)
    (n1KN : PySem.W.findIn K (.ref KN) "parts" = some none)
    (n2KN : PySem.W.findIn K (.ref KN) "value" = some none)
    (hdT : K.lookup dT = some ⟨.type "tuple", odT, .seq usT nT, slT⟩)
    (vdT : Vals [V.ref e0] usT.toList)
    (hE0 : K.lookup e0 = some ⟨.type "tuple", odE, .seq usE nE, slE⟩)
    (vE0 : Vals (([] : List Str).map V.str) usE.toList)
    (aFr : PySem.W.nsIn K mainGlobals "fraction" = some (some (.ref fFr)))
    (lFr : K.lookup fFr = some ⟨ocFr, odFr, .func (PySem.W.fnOf "fraction" "fraction" (defArgs sFrac) (defBody sFrac) (defScope sFrac) (.ref dF) kVFr dcFr pmFr anFr cdFr ctFr), slFr⟩)
    (cFr : PySem.W.codeIn K cdFr "fraction" = true)
    (kFr : PySem.W.keepIn K (.ref fFr) = true)
    (hdF : K.lookup dF = some ⟨.type "tuple", odF, .seq usF nF_, slF⟩)
    (vdF : Vals [V.int 1] usF.toList)
    (kIN : PySem.W.kitOne K (.type "int") (.ref KN) = some false)
    (n_t1 : PySem.W.nsIn K mainGlobals "LETTERS" = some (some (.str "abcdefghijklmnopqrstuvwxyz" t1)))
    (n_t2 : PySem.W.nsIn K mainGlobals "DIGITS" = some (some (.str "0123456789" t2)))
    (n_t3 : PySem.W.nsIn K mainGlobals "NEAR_BITS" = some (some (.int 128 t3)))
    (n_t4 : PySem.W.nsIn K mainGlobals "MOST_ROWS" = some (some (.int 6 t4)))
    (b_gcd : PySem.W.nsIn K mainGlobals "gcd" = some (some (.builtin "math.gcd")))
    (z_isinstance : PySem.W.nsIn K mainGlobals "isinstance" = some none)
    (z_int : PySem.W.nsIn K mainGlobals "int" = some none)
    (z_bool : PySem.W.nsIn K mainGlobals "bool" = some none)
    (z_str : PySem.W.nsIn K mainGlobals "str" = some none)
    (z_len : PySem.W.nsIn K mainGlobals "len" = some none)
    (z_all : PySem.W.nsIn K mainGlobals "all" = some none)
    (z_tuple : PySem.W.nsIn K mainGlobals "tuple" = some none)
    (z_list : PySem.W.nsIn K mainGlobals "list" = some none)
    (z_sorted : PySem.W.nsIn K mainGlobals "sorted" = some none)
    (z_abs : PySem.W.nsIn K mainGlobals "abs" = some none)
    (z_range : PySem.W.nsIn K mainGlobals "range" = some none)
    (z_repr : PySem.W.nsIn K mainGlobals "repr" = some none)
    (z_min : PySem.W.nsIn K mainGlobals "min" = some none)
    (z_enumerate : PySem.W.nsIn K mainGlobals "enumerate" = some none)
    (z_dict : PySem.W.nsIn K mainGlobals "dict" = some none)
    (z_super : PySem.W.nsIn K mainGlobals "super" = some none)
    : RepG.LawG l w K L2.CX0 10 63 "script" mg fa h := by
  have e := hfa.symm.trans (PySem.W.mg_of X G a48)
  cases e
  have F0 := fun_mk (st := sIsWhole) l0 c0 k0
  have b0 := F0.binds (ps := ["value"]) fun _ _ _ _ _ _ us hl => match us, hl with | [_], _ => rfl
  have F1 := fun_mk (st := sTupleOf) l1 c1 k1
  have b1 := F1.binds (ps := ["value", "size"]) fun _ _ _ _ _ _ us hl => match us, hl with | [_, _], _ => rfl
  have F2 := fun_mk (st := sIsList) l2 c2 k2
  have b2 := F2.binds (ps := ["value"]) fun _ _ _ _ _ _ us hl => match us, hl with | [_], _ => rfl
  have F3 := fun_mk (st := sIsFr) l3 c3 k3
  have b3 := F3.binds (ps := ["value"]) fun _ _ _ _ _ _ us hl => match us, hl with | [_], _ => rfl
  have F4 := fun_mk (st := sAreFr) l4 c4 k4
  have b4 := F4.binds (ps := ["value", "size"]) fun _ _ _ _ _ _ us hl => match us, hl with | [_, _], _ => rfl
  have F5 := fun_mk (st := sIsName) l5 c5 k5
  have b5 := F5.binds (ps := ["value"]) fun _ _ _ _ _ _ us hl => match us, hl with | [_], _ => rfl
  have F6 := fun_mk (st := sNameT) l6 c6 k6
  have b6 := F6.binds (ps := ["value"]) fun _ _ _ _ _ _ us hl => match us, hl with | [_], _ => rfl
  have F7 := fun_mk (st := sBare) l7 c7 k7
  have b7 := F7.binds (ps := []) fun _ _ _ _ _ _ us hl => match us, hl with | [], _ => rfl
  have F8 := fun_mk (st := sSettled) l8 c8 k8
  have b8 := F8.binds (ps := ["xs", "den"]) fun _ _ _ _ _ _ us hl => match us, hl with | [_, _], _ => rfl
  have F9 := fun_mk (st := sValOf) l9 c9 k9
  have b9 := F9.binds (ps := ["basis", "parts"]) fun _ _ _ _ _ _ us hl => match us, hl with | [_, _], _ => rfl
  have F10 := fun_mk (st := sParOf) l10 c10 k10
  have b10 := F10.binds (ps := ["basis", "value"]) fun _ _ _ _ _ _ us hl => match us, hl with | [_, _], _ => rfl
  have F11 := fun_mk (st := sBasOf) l11 c11 k11
  have b11 := F11.binds (ps := ["squares"]) fun _ _ _ _ _ _ us hl => match us, hl with | [_], _ => rfl
  have F12 := fun_mk (st := sIsNum) l12 c12 k12
  have b12 := F12.binds (ps := ["value"]) fun _ _ _ _ _ _ us hl => match us, hl with | [_], _ => rfl
  have F13 := fun_mk (st := sNumOn) l13 c13 k13
  have b13 := F13.binds (ps := ["tower", "value"]) fun _ _ _ _ _ _ us hl => match us, hl with | [_, _], _ => rfl
  have F14 := fun_mk (st := sIsPt) l14 c14 k14
  have b14 := F14.binds (ps := ["value"]) fun _ _ _ _ _ _ us hl => match us, hl with | [_], _ => rfl
  have F15 := fun_mk (st := sArePts) l15 c15 k15
  have b15 := F15.binds (ps := ["value"]) fun _ _ _ _ _ _ us hl => match us, hl with | [_], _ => rfl
  have F16 := fun_mk (st := sCkPts) l16 c16 k16
  have b16 := F16.binds (ps := ["value"]) fun _ _ _ _ _ _ us hl => match us, hl with | [_], _ => rfl
  have F17 := fun_mk (st := sSheet) l17 c17 k17
  have b17 := F17.binds (ps := []) fun _ _ _ _ _ _ us hl => match us, hl with | [], _ => rfl
  have F18 := fun_mk (st := sIsDeed) l18 c18 k18
  have b18 := F18.binds (ps := ["value"]) fun _ _ _ _ _ _ us hl => match us, hl with | [_], _ => rfl
  have F19 := fun_mk (st := sCheckDeed) l19 c19 k19
  have b19 := F19.binds (ps := ["value"]) fun _ _ _ _ _ _ us hl => match us, hl with | [_], _ => rfl
  have F20 := fun_mk (st := sAreSteps) l20 c20 k20
  have b20 := F20.binds (ps := ["value", "names"]) fun _ _ _ _ _ _ us hl => match us, hl with | [_, _], _ => rfl
  have F21 := fun_mk (st := sIsDrawing) l21 c21 k21
  have b21 := F21.binds (ps := ["value"]) fun _ _ _ _ _ _ us hl => match us, hl with | [_], _ => rfl
  have F22 := fun_mk (st := sDeedNames) l22 c22 k22
  have b22 := F22.binds (ps := ["deed"]) fun _ _ _ _ _ _ us hl => match us, hl with | [_], _ => rfl
  have F23 := fun_mk (st := sNamesOf) l23 c23 k23
  have b23 := F23.binds (ps := ["deed"]) fun _ _ _ _ _ _ us hl => match us, hl with | [_], _ => rfl
  have F24 := fun_mk (st := sToolOf) l24 c24 k24
  have b24 := F24.binds (ps := ["deed"]) fun _ _ _ _ _ _ us hl => match us, hl with | [_], _ => rfl
  have F25 := fun_mk (st := sOnNames) l25 c25 k25
  have b25 := F25.binds (ps := ["deed", "table"]) fun _ _ _ _ _ _ us hl => match us, hl with | [_, _], _ => rfl
  have F26 := fun_mk (st := sWithN) l26 c26 k26
  have b26 := F26.binds (ps := ["deed", "table"]) fun _ _ _ _ _ _ us hl => match us, hl with | [_, _], _ => rfl
  have F27 := fun_mk (st := sFirstU) l27 c27 k27
  have b27 := F27.binds (ps := ["names", "table"]) fun _ _ _ _ _ _ us hl => match us, hl with | [_, _], _ => rfl
  have F28 := fun_mk (st := sCkKn) l28 c28 k28
  have b28 := F28.binds (ps := ["deed", "points"]) fun _ _ _ _ _ _ us hl => match us, hl with | [_, _], _ => rfl
  have F29 := fun_mk (st := sLaid) l29 c29 k29
  have b29 := F29.binds (ps := ["deed", "points"]) fun _ _ _ _ _ _ us hl => match us, hl with | [_, _], _ => rfl
  have F30 := fun_mk (st := sBegun) l30 c30 k30
  have b30 := F30.binds (ps := ["script"]) fun _ _ _ _ _ _ us hl => match us, hl with | [_], _ => rfl
  have F31 := fun_mk (st := sStirred) l31 c31 k31
  have b31 := F31.binds (ps := ["state"]) fun _ _ _ _ _ _ us hl => match us, hl with | [_], _ => rfl
  have F32 := fun_mk (st := sDraw) l32 c32 k32
  have b32 := F32.binds (ps := ["state", "room"]) fun _ _ _ _ _ _ us hl => match us, hl with | [_, _], _ => rfl
  have F33 := fun_mk (st := sPick) l33 c33 k33
  have b33 := F33.binds (ps := ["state", "some"]) fun _ _ _ _ _ _ us hl => match us, hl with | [_, _], _ => rfl
  have F34 := fun_mk (st := sShuf) l34 c34 k34
  have b34 := F34.binds (ps := ["state", "some"]) fun _ _ _ _ _ _ us hl => match us, hl with | [_, _], _ => rfl
  have F35 := fun_mk (st := sNm) l35 c35 k35
  have b35 := F35.binds (ps := ["state", "barred"]) fun _ _ _ _ _ _ us hl => match us, hl with | [_, _], _ => rfl
  have F36 := fun_mk (st := sCaught) l36 c36 k36
  have b36 := F36.binds (ps := ["action"]) fun _ _ _ _ _ _ us hl => match us, hl with | [_], _ => rfl
  have F37 := fun_mk (st := sForms) l37 c37 k37
  have b37 := F37.binds (ps := []) fun _ _ _ _ _ _ us hl => match us, hl with | [], _ => rfl
  have F38 := fun_mk (st := sHasWay) l38 c38 k38
  have b38 := F38.binds (ps := ["word"]) fun _ _ _ _ _ _ us hl => match us, hl with | [_], _ => rfl
  have F39 := fun_mk (st := sDrawn) l39 c39 k39
  have b39 := F39.binds (ps := ["state", "word", "names"]) fun _ _ _ _ _ _ us hl => match us, hl with | [_, _, _], _ => rfl
  have F40 := fun_mk (st := sLName) l40 c40 k40
  have b40 := F40.binds (ps := ["value"]) fun _ _ _ _ _ _ us hl => match us, hl with | [_], _ => rfl
  have F41 := fun_mk (st := sDeedDue) l41 c41 k41
  have b41 := F41.binds (ps := ["value"]) fun _ _ _ _ _ _ us hl => match us, hl with | [_], _ => rfl
  have F42 := fun_mk (st := sBent) l42 c42 k42
  have b42 := F42.binds (ps := ["state", "deed"]) fun _ _ _ _ _ _ us hl => match us, hl with | [_, _], _ => rfl
  have F43 := fun_mk (st := sDrawDue) l43 c43 k43
  have b43 := F43.binds (ps := ["value"]) fun _ _ _ _ _ _ us hl => match us, hl with | [_], _ => rfl
  have F44 := fun_mk (st := sStp) l44 c44 k44
  have b44 := F44.binds (ps := ["state", "words"]) fun _ _ _ _ _ _ us hl => match us, hl with | [_, _], _ => rfl
  have F45 := fun_mk (st := sBSt) l45 c45 k45
  have b45 := F45.binds (ps := ["state", "steps"]) fun _ _ _ _ _ _ us hl => match us, hl with | [_, _], _ => rfl
  have F46 := fun_mk (st := sTold) l46 c46 k46
  have b46 := F46.binds (ps := ["state", "deed"]) fun _ _ _ _ _ _ us hl => match us, hl with | [_, _], _ => rfl
  have tb46 : PySem.W.tabIn K "_law_told_right" = some (cO46, Pt46) := by
    unfold PySem.W.tabIn
    simp only [a46, l46, co46, cp46, PySem.W.fnOf]
  have F47 := fun_mk (st := sErrR) l47 c47 k47
  have b47 := F47.binds (ps := ["state", "deed", "bent"]) fun _ _ _ _ _ _ us hl => match us, hl with | [_, _, _], _ => rfl
  have tb47 : PySem.W.tabIn K "_law_errors_right" = some (cO47, Pt47) := by
    unfold PySem.W.tabIn
    simp only [a47, l47, co47, cp47, PySem.W.fnOf]
  have F48 := fun_mk (st := sLaw) l48 c48 k48
  have b48 := F48.binds (ps := ["script"]) fun _ _ _ _ _ _ us hl => match us, hl with | [_], _ => rfl
  have exm_ := fun {C : Addr} (s : PySem.W.subIn K (.ref C) (.ref CR) = some true) => (PySem.W.exm_ref sbCR hdCR tyCR s : PySem.W.exmOne K (.ref C) (.ref CR) = some true)
  have kit_ : ∀ C : Addr, PySem.W.kitOne K (.ref C) (.ref C) = some true := fun C => by unfold PySem.W.kitOne; rw [if_pos (beq_self_eq_true _)]
  have mg_ := fun {x : Str} {v : Value} (e : PySem.W.nsIn K mainGlobals x = some (some v)) => PySem.W.mg_of X G e
  have m0_ := fun {x : Str} (e : PySem.W.nsIn K mainGlobals x = some none) => PySem.W.mg_none_of X G e
  refine ⟨PySem.W.fnOf "law" "law" (defArgs sLaw) (defBody sLaw) (defScope sLaw) .none kV48 dc48 pm48 an48 cd48 ct48, [(cO46, Pt46), (cO47, Pt47)], spLaw K Pt46 Pt47, fun p hp => ?_, fun s u => .of_eq rfl, fun H a ns hl hT hS => ?_, fun base hb hn hTB => ?_⟩
  · rcases List.mem_cons.mp hp with rfl | hp
    · exact ⟨(own "_law_told_right" List.mem_cons_self cO46 Pt46 tb46).2, cn46, (own "_law_told_right" List.mem_cons_self cO46 Pt46 tb46).1⟩
    · cases List.mem_singleton.mp hp
      exact ⟨(own "_law_errors_right" (List.mem_cons_of_mem _ (List.mem_singleton.mpr rfl)) cO47 Pt47 tb47).2, cn47, (own "_law_errors_right" (List.mem_cons_of_mem _ (List.mem_singleton.mpr rfl)) cO47 Pt47 tb47).1⟩
  · exact ⟨a, ns, rfl, hS, hl, hT _ List.mem_cons_self, hT _ (List.mem_cons_of_mem _ (List.mem_singleton.mpr rfl)), fun _ => rfl⟩
  · have TD : ZN6.TxtE K mg "BadDeed" CD := ⟨mg_ gCD, eCD, kpCD, sbCD, tyCD⟩
    have TBt : ZN6.TxtE K mg "BadTable" CB := ⟨mg_ gCB, eCB, kpCB, sbCB, tyCB⟩
    have TP : ZN6.TxtE K mg "BadPoints" CP := ⟨mg_ gCP, eCP, kpCP, sbCP, tyCP⟩
    have OX : OexC K CM := ⟨⟨nmM, qM, NM, bsM, bmM, snM, subM, abM, colM, ddM, m0M, m1M, m2M, m3M, m5M, xCM, rvM⟩, saCM, sbCM, tyCM, kpCM⟩
    have SC : SupInit.SupC l.prog K mg CM "name" := ⟨OX, Option.isSome_iff_exists.mp icM, suM, m0_ z_super, opM, waM, ivM, topM, frM⟩
    have EM : ExcC K CM := ⟨gaCM, gtCM, sbCM, hdCM, clCM, sn, tk, mrCM⟩
    have ED : ExcC K CD := ⟨gaCD, gtCD, sbCD, hdCD, clCD, sn, tk, mrCD⟩
    have EB : ExcC K CB := ⟨gaCB, gtCB, sbCB, hdCB, clCB, sn, tk, mrCB⟩
    have EP : ExcC K CP := ⟨gaCP, gtCP, sbCP, hdCP, clCP, sn, tk, mrCP⟩
    have FK : FormsK K w d1 := ZN26.forms_of hD1 litD1 lowD1 tabD1
    have TK_ : ToolsK K w d3 := ZN26.tools_of hD3 litD3 lowD3 tabD3
    have WK2 : WordsK K d2 waysL := ZN26.words_of hD2 vD2 (by decide)
    have WK4 : WordsK K d4 sheetL := ZN26.words_of hD4 vD4 (by decide)
    have WKE : WordsK K e0 [] := ZN26.words_of hE0 vE0 (by decide)
    have GI : FnOk l.prog w K mg base CX0 1 fI _ ["self", "name"] (SupInit.spSup CM "name") := SupInit.ok_sup (st := sInit) lI cI rfl rfl SC ⟨by decide, by decide, by decide⟩ (by decide) (by decide) cellI rfl rfl coI viI hfI (fun _ => rfl) (fun _ => rfl)
    have bI : L2.Binds K (PySem.W.ksFn "__init__" "NoName.__init__" (defArgs sInit) (defBody sInit) (defScope sInit) .none kVI dcI pmI anI (.ref cdI) ctI ccI) ["self", "name"] [] := L2.Binds.all fun us hl => match us, hl with | [_, _], _ => rfl
    have iB : Z5.InsC K KB := ⟨⟨pgKB, hdKB, poKB, saKB⟩, caKB, sn, tk, mrKB, kit_ KB⟩
    have iT_ : Z5.InsC K KT := ⟨⟨pgKT, hdKT, poKT, saKT⟩, caKT, sn, tk, mrKT, kit_ KT⟩
    have iN : Z5.InsC K KN := ⟨⟨pgKN, hdKN, poKN, saKN⟩, caKN, sn, tk, mrKN, kit_ KN⟩
    have XB : Z5.BasT K KB := ⟨iB, n0KB, n1KB, n2KB, n3KB, n4KB⟩
    have XT : Z6.TowT K KT := ⟨iT_, n0KT, n1KT⟩
    have XN : Z8.NumT K KN := ⟨iN, n0KN, n1KN, n2KN⟩
    have MB : Mk K KB iKB := ⟨mkKB, inKB, fnKB, kpKB⟩
    have MT : Mk K KT iKT := ⟨mkKT, inKT, fnKT, kpKT⟩
    have MN : Mk K KN iKN := ⟨mkKN, inKN, fnKN, kpKN⟩
    have FBi := fun_mk (st := sBasisI) liKB ciKB kiKB
    have FNi := fun_mk (st := sNumI) liKN ciKN kiKN
    have bBi := FBi.binds (ps := ["self", "squares", "rows", "weights", "near"]) fun _ _ _ _ _ _ us hl => match us, hl with | [_, _, _, _, _], _ => rfl
    have bNi := FNi.binds (ps := ["self", "tower", "parts"]) fun _ _ _ _ _ _ us hl => match us, hl with | [_, _, _], _ => rfl
    have FTi : FunD K "__init__" "Tower.__init__" (defArgs sTowerI) (defBody sTowerI) (defScope sTowerI) [V.ref e0] [] iKT _ := ⟨⟨_, _, _, _, _, _, _, _, _, _, rfl, liKT, ciKT, .inr ⟨by simp, dT, _, usT.toList, nT, rfl, hdT, by simp, vdT⟩, .inl rfl⟩, kiKT⟩
    have FFr : FunD K "fraction" "fraction" (defArgs sFrac) (defBody sFrac) (defScope sFrac) [V.int 1] [] fFr _ := ⟨⟨_, _, _, _, _, _, _, _, _, _, rfl, lFr, cFr, .inr ⟨by simp, dF, _, usF.toList, nF_, rfl, hdF, by simp, vdF⟩, .inl rfl⟩, kFr⟩
    obtain ⟨dsT, vdsT, bTi⟩ := FTi.binds1 (ps := ["self", "squares"]) 1 0 (by simp) rfl fun T kV doc pm an cdv ct us its hl hi => match us, its, hl, hi with | [_], [_], _, _ => ⟨_, rfl, rfl⟩
    obtain ⟨dsF, vdsF, bFr⟩ := FFr.binds1 (ps := ["n", "d"]) 1 0 (by simp) rfl fun T kV doc pm an cdv ct us its hl hi => match us, its, hl, hi with | [_], [_], _, _ => ⟨_, rfl, rfl⟩
    have gName := Z1.ok_name (mg := mg) (base := base) (P := l.prog) (w := w) F5 (m0_ z_isinstance) (m0_ z_str) (m0_ z_len) (m0_ z_all) (mg_ n_t1) (mg_ n_t2)
    have gWhole := Z2.ok_whole (mg := mg) (base := base) (P := l.prog) (w := w) F0 (m0_ z_isinstance) (m0_ z_int) (m0_ z_bool)
    have gTup := Z2.ok_tupleOf (mg := mg) (base := base) (P := l.prog) (w := w) F1 (m0_ z_isinstance) (m0_ z_tuple) (m0_ z_len)
    have gLis := Z2.ok_isList (mg := mg) (base := base) (P := l.prog) (w := w) F2 (m0_ z_isinstance) (m0_ z_tuple) (m0_ z_list)
    have gDeed := Z2.ok_deed (mg := mg) (base := base) (P := l.prog) (w := w) F18 F5 gName b5 (mg_ a5) F0 gWhole b0 (mg_ a0) FK (mg_ gD1) WK2 (mg_ gD2) (m0_ z_isinstance) (m0_ z_tuple) (m0_ z_str) (m0_ z_len) (m0_ z_all)
    have gDN := Z3.ok_dn (mg := mg) (base := base) (P := l.prog) (w := w) F22 FK (mg_ gD1)
    have gSteps := Z4.ok_steps (mg := mg) (base := base) (P := l.prog) (w := w) F20 F2 gLis b2 (mg_ a2) F1 gTup b1 (mg_ a1) F5 gName b5 (mg_ a5) F18 gDeed b18 (mg_ a18) F22 gDN b22 (mg_ a22) (m0_ z_all)
    have gDraw := ZN7.ok_drawing (mg := mg) (base := base) (P := l.prog) (w := w) F21 F20 gSteps b20 (mg_ a20) WK4 (mg_ gD4)
    have gCkD := ZN7.ok_checkDeed (mg := mg) (base := base) (P := l.prog) (w := w) F19 F18 gDeed b18 (mg_ a18) TD
    have gBi := Z5.ok_basisI (mg := mg) (base := base) (P := l.prog) (w := w) FBi XB
    have gBare := Z5.ok_bare (mg := mg) (base := base) (P := l.prog) (w := w) F7 MB XB gBi bBi (mg_ gKB) (mg_ n_t3)
    have gBO := Z6.ok_basOf (mg := mg) (base := base) (P := l.prog) (w := w) F11 F7 gBare b7 (mg_ a7) (mg_ n_t4) (m0_ z_isinstance) (m0_ z_tuple) (m0_ z_len) (m0_ z_enumerate)
    have gTi := Z6.ok_towerI (mg := mg) (base := base) (P := l.prog) (w := w) FTi XT XB F11 gBO b11 (mg_ a11)
    have gSet := Z7.ok_settled (mg := mg) (base := base) (P := l.prog) (w := w) F8 (m0_ z_tuple)
    have gVal := Z7.ok_valOf (mg := mg) (base := base) (P := l.prog) (w := w) F9 (m0_ z_len)
    have gPar := Z7.ok_parOf (mg := mg) (base := base) (P := l.prog) (w := w) F10 (m0_ z_len)
    have gFr1 := Z7.ok_isFr (mg := mg) (base := base) (P := l.prog) (w := w) F3 (m0_ z_isinstance) (m0_ z_tuple) (m0_ z_len) (m0_ z_int) (m0_ z_bool) (mg_ b_gcd)
    have gFr2 := Z7.ok_areFr (mg := mg) (base := base) (P := l.prog) (w := w) F4 F3 gFr1 b3 (mg_ a3) (m0_ z_isinstance) (m0_ z_tuple) (m0_ z_len)
    have gNi := Z8.ok_numI (mg := mg) (base := base) (P := l.prog) (w := w) FNi XN XT XB (mg_ gKT) F4 gFr2 b4 (mg_ a4) F9 gVal b9 (mg_ a9) (m0_ z_isinstance) (m0_ z_len)
    have gNO := Z8.ok_numOn (mg := mg) (base := base) (P := l.prog) (w := w) F13 MN XT (mg_ gKN) gNi bNi F10 gPar b10 (mg_ a10) (m0_ z_len)
    have gFrac := Z8.ok_frac (mg := mg) (base := base) (P := l.prog) (w := w) FFr F0 gWhole b0 (mg_ a0) MT gTi bTi vdsT (fun H => WKE H) (mg_ gKT) F8 gSet b8 (mg_ a8) F13 gNO b13 (mg_ a13)
    have gIsN := Z8.ok_isNum (mg := mg) (base := base) (P := l.prog) (w := w) F12 (mg_ gKN) (m0_ z_isinstance)
    have gPt := Z9.ok_pt (mg := mg) (base := base) (P := l.prog) (w := w) F14 XN kIN F1 gTup b1 (mg_ a1) F12 gIsN b12 (mg_ a12)
    have gPts := Z9.ok_pts (mg := mg) (base := base) (P := l.prog) (w := w) F15 F14 gPt b14 (mg_ a14) F5 gName b5 (mg_ a5) (m0_ z_isinstance) (m0_ z_dict) (m0_ z_all)
    have gCkP := Z50.ok_ckPts (mg := mg) (base := base) (P := l.prog) (w := w) F16 F15 gPts b15 (mg_ a15) TP
    have gSheet := Z50.ok_sheet (mg := mg) (base := base) (P := l.prog) (w := w) F17 gFrac kFr bFr vdsF (mg_ aFr)
    have gNT := Z51.ok_nameT (mg := mg) (base := base) (P := l.prog) (w := w) F6 F5 gName b5 (mg_ a5) (m0_ z_isinstance) (m0_ z_dict) (m0_ z_all)
    have gNamesOf := Z52.ok_namesOf (mg := mg) (base := base) (P := l.prog) (w := w) F23 F19 gCkD b19 (mg_ a19) F22 gDN b22 (mg_ a22) (m0_ z_tuple)
    have gTool := Z53.ok_tool2 (mg := mg) (base := base) (P := l.prog) (w := w) F24 F19 gCkD b19 (mg_ a19) TK_ (mg_ gD3)
    have gWN := Z53.ok_withN (mg := mg) (base := base) (P := l.prog) (w := w) F26 F22 gDN b22 (mg_ a22) (m0_ z_tuple) (m0_ z_len)
    have gOn := Z54.ok_on (mg := mg) (base := base) (P := l.prog) (w := w) F25 F19 gCkD b19 (mg_ a19) F6 gNT b6 (mg_ a6) F26 gWN b26 (mg_ a26) TBt
    have gFU := Z54.ok_firstU (CN := KN) (mg := mg) (base := base) (P := l.prog) (w := w) F27
    have gCK := Z54.ok_ckKn (mg := mg) (base := base) (P := l.prog) (w := w) F28 F22 gDN b22 (mg_ a22) F27 gFU b27 (mg_ a27) OX iM tI GI bI (mg_ gCM)
    have gLaid := Z54.ok_laid (mg := mg) (base := base) (P := l.prog) (w := w) F29 F19 gCkD b19 (mg_ a19) F16 gCkP b16 (mg_ a16) F28 gCK b28 (mg_ a28)
    have gBeg := ok_begun (mg := mg) (base := base) (P := l.prog) (w := w) F30 (m0_ z_abs)
    have gDr := ok_draw (mg := mg) (base := base) (P := l.prog) (w := w) F32 F31 b31 (mg_ a31) (m0_ z_int)
    have gPick := ZN10.ok_pick (mg := mg) (base := base) (P := l.prog) (w := w) F33 F32 gDr b32 (mg_ a32) (m0_ z_len)
    have gShuf := ZN10.ok_shuf (mg := mg) (base := base) (P := l.prog) (w := w) F34 F32 gDr b32 (mg_ a32) (m0_ z_len) (m0_ z_list)
    have gNm := ZN11.ok_nm (mg := mg) (base := base) (P := l.prog) (w := w) F35 F33 gPick b33 (mg_ a33)
    have gForms := Z3.ok_forms (mg := mg) (base := base) (P := l.prog) (w := w) F37
    have gHW := Z3.ok_hasWay (mg := mg) (base := base) (P := l.prog) (w := w) F38
    have gDrawn := ZN12.ok_drawn (mg := mg) (base := base) (P := l.prog) (w := w) F39 F34 gShuf b34 (mg_ a34) F32 gDr b32 (mg_ a32) F33 gPick b33 (mg_ a33) F37 gForms b37 (mg_ a37) F38 gHW b38 (mg_ a38) (m0_ z_range) (m0_ z_len) (m0_ z_tuple)
    have gLN := Z55.ok_ldue (mg := mg) (base := base) (P := l.prog) (w := w) F40 (m0_ z_isinstance) (m0_ z_str) (m0_ z_len)
    have gDD := Z56.ok_ddue (mg := mg) (base := base) (P := l.prog) (w := w) F41 F40 gLN b40 (mg_ a40) F37 b37 (mg_ a37) F38 b38 (mg_ a38) (m0_ z_isinstance) (m0_ z_tuple) (m0_ z_str) (m0_ z_len) (m0_ z_int) (m0_ z_repr)
    have gBe := Z57.ok_bent (mg := mg) (base := base) (P := l.prog) (w := w) F42 F32 gDr b32 (mg_ a32) F33 gPick b33 (mg_ a33) (m0_ z_len) (m0_ z_list)
    have gDu := Z58.ok_drdue (mg := mg) (base := base) (P := l.prog) (w := w) F43 F40 gLN b40 (mg_ a40) F37 gForms b37 (mg_ a37) F41 gDD b41 (mg_ a41) (m0_ z_isinstance) (m0_ z_tuple) (m0_ z_list) (m0_ z_len)
    have gStp := Z59.ok_stp (lN := 0) (lE := 0) (mg := mg) (base := base) (P := l.prog) (w := w) F44 F32 gDr b32 (mg_ a32) F39 gDrawn b39 (mg_ a39) F33 gPick b33 (mg_ a33) F35 gNm b35 (mg_ a35) (m0_ z_range)
    have gBS := Z60.ok_bst (mg := mg) (base := base) (P := l.prog) (w := w) F45 F32 gDr b32 (mg_ a32) F33 gPick b33 (mg_ a33) F42 gBe b42 (mg_ a42) (m0_ z_len)
    have kNO : KBn K (PySem.W.fnOf "names_of" "names_of" (defArgs sNamesOf) (defBody sNamesOf) (defScope sNamesOf) .none kV23 dc23 pm23 an23 cd23 ct23) ["deed"] 0 ["deed"] (fun _ ws => ws) (fun _ zs => zs) := ⟨fun s us ws _ h0 h1 => match us, ws, h0, h1 with | [], [_], _, _ => .of_eq rfl, fun _ r => r⟩
    have kTO : KBn K (PySem.W.fnOf "tool_of" "tool_of" (defArgs sToolOf) (defBody sToolOf) (defScope sToolOf) .none kV24 dc24 pm24 an24 cd24 ct24) ["deed"] 0 ["deed"] (fun _ ws => ws) (fun _ zs => zs) := ⟨fun s us ws _ h0 h1 => match us, ws, h0, h1 with | [], [_], _, _ => .of_eq rfl, fun _ r => r⟩
    have kOn : KBn K (PySem.W.fnOf "on_names" "on_names" (defArgs sOnNames) (defBody sOnNames) (defScope sOnNames) .none kV25 dc25 pm25 an25 cd25 ct25) ["deed", "table"] 0 ["deed", "table"] (fun _ ws => ws) (fun _ zs => zs) := ⟨fun s us ws _ h0 h1 => match us, ws, h0, h1 with | [], [_, _], _, _ => .of_eq rfl, fun _ r => r⟩
    have kID : KBn K (PySem.W.fnOf "is_deed" "is_deed" (defArgs sIsDeed) (defBody sIsDeed) (defScope sIsDeed) .none kV18 dc18 pm18 an18 cd18 ct18) ["value"] 0 ["value"] (fun _ ws => ws) (fun _ zs => zs) := ⟨fun s us ws _ h0 h1 => match us, ws, h0, h1 with | [], [_], _, _ => .of_eq rfl, fun _ r => r⟩
    have kIDr : KBn K (PySem.W.fnOf "is_drawing" "is_drawing" (defArgs sIsDrawing) (defBody sIsDrawing) (defScope sIsDrawing) .none kV21 dc21 pm21 an21 cd21 ct21) ["value"] 0 ["value"] (fun _ ws => ws) (fun _ zs => zs) := ⟨fun s us ws _ h0 h1 => match us, ws, h0, h1 with | [], [_], _, _ => .of_eq rfl, fun _ r => r⟩
    have memT : ((Pt46, lamQ "_law_told_right") : Addr × Str) ∈ tabsL Pt46 Pt47 := List.mem_cons_self
    have memE : ((Pt47, lamQ "_law_errors_right") : Addr × Str) ∈ tabsL Pt46 Pt47 := List.mem_cons_of_mem _ (List.mem_singleton.mpr rfl)
    have onlyT : ∀ p ∈ tabsL Pt46 Pt47, p.1 = Pt46 → p.2 = lamQ "_law_told_right" := fun p hp e => by
      rcases List.mem_cons.mp hp with rfl | hp
      · rfl
      · rw [List.mem_singleton.mp hp] at e
        exact absurd e.symm nTE
    have onlyE : ∀ p ∈ tabsL Pt46 Pt47, p.1 = Pt47 → p.2 = lamQ "_law_errors_right" := fun p hp e => by
      rcases List.mem_cons.mp hp with rfl | hp
      · exact absurd e nTE
      · rw [List.mem_singleton.mp hp]
    have gTR := Z62.ok_told (base := base) (P := l.prog) (w := w) l46 c46 (hTB _ List.mem_cons_self) memT onlyT F33 gPick b33 (mg_ a33) F37 gForms b37 (mg_ a37) F23 gNamesOf b23 kNO (mg_ a23) F24 gTool b24 kTO (mg_ a24) F25 gOn b25 kOn (mg_ a25) l36 c36 k36 b36 (mg_ a36) (mg_ gCR) (mg_ gCB) (exm_ sCB) (kit_ CB) EB (m0_ z_enumerate) (m0_ z_dict) (m0_ z_tuple) (m0_ z_len) (m0_ z_isinstance)
    have gER := Z63.ok_errR (base := base) (P := l.prog) (w := w) l47 c47 (hTB _ (List.mem_cons_of_mem _ (List.mem_singleton.mpr rfl))) memE onlyE F33 gPick b33 (mg_ a33) F17 gSheet b17 (mg_ a17) F23 gNamesOf b23 (mg_ a23) F24 gTool b24 (mg_ a24) F25 gOn b25 (mg_ a25) F29 gLaid b29 (mg_ a29) F41 gDD b41 (mg_ a41) l36 c36 k36 b36 (mg_ a36) (mg_ gCR) (mg_ gCD) (exm_ sCD) (kit_ CD) ED (mg_ gCP) (exm_ sCP) (kit_ CP) EP (mg_ gCM) (exm_ sCM) (kit_ CM) EM frM (m0_ z_isinstance)
    exact Z64.ok_law F48 F30 gBeg b30 (mg_ a30) F37 gForms b37 (mg_ a37) F39 gDrawn b39 (mg_ a39) F33 gPick b33 (mg_ a33) F42 gBe b42 (mg_ a42) F18 gDeed b18 kID (mg_ a18) F41 gDD b41 (mg_ a41) k46 gTR b46 (mg_ a46) k47 gER b47 (mg_ a47) F44 gStp b44 (mg_ a44) F45 gBS b45 (mg_ a45) F21 gDraw b21 kIDr (mg_ a21) F43 gDu b43 (mg_ a43) (m0_ z_range) (m0_ z_repr) (m0_ z_sorted) (m0_ z_tuple) (m0_ z_len) (m0_ z_min)
end Z65
open PySem PySem.W PyProof.Rows
set_option maxRecDepth 100000 in
set_option maxHeartbeats 0 in
theorem PySem.Challenge.cw_rulerchest_k14_deeds_and_drawings_judged_holds : PySem.Challenge.rw_rulerchest_k14_deeds_and_drawings_judged.Holds := by
  w_on; o_law
  refine Zhd.head_m (K := kmk.heap_1) (as := kas) (ts := kts) (e := kke) (Zhd.rowP kq1 kq2 kq3 kq4 kq5 kq6 kq7 kq8) (by assumption) ?hw ?hc
  (case hw => w_witness2)
  k_fill
  refine RepG.walk_G (l := PySem.Challenge.rw_rulerchest_k14_deeds_and_drawings_judged) (n := 63) (k := 10) (x := "script") (CX := fun _ => L2.CX0) (xs := (["_law_told_right", "_law_errors_right"] : List Str)) rfl (by decide) rfl ⟨rfl, by decide, by decide⟩ (by decide +kernel) (fun w h Y => PySem.W.km_in_of Y) ?F (fun _ _ _ _ _ z => z)
  case F =>
    intro w mg fa h Y KX G hmg own
    refine' Z65.all_mk KX G hmg own ?a0 ?l0 ?c0 ?k0 ?a1 ?l1 ?c1 ?k1 ?a2 ?l2 ?c2 ?k2 ?a3 ?l3 ?c3 ?k3 ?a4 ?l4 ?c4 ?k4 ?a5 ?l5 ?c5 ?k5 ?a6 ?l6 ?c6 ?k6 ?a7 ?l7 ?c7 ?k7 ?a8 ?l8 ?c8 ?k8 ?a9 ?l9 ?c9 ?k9 ?a10 ?l10 ?c10 ?k10 ?a11 ?l11 ?c11 ?k11 ?a12 ?l12 ?c12 ?k12 ?a13 ?l13 ?c13 ?k13 ?a14 ?l14 ?c14 ?k14 ?a15 ?l15 ?c15 ?k15 ?a16 ?l16 ?c16 ?k16 ?a17 ?l17 ?c17 ?k17 ?a18 ?l18 ?c18 ?k18 ?a19 ?l19 ?c19 ?k19 ?a20 ?l20 ?c20 ?k20 ?a21 ?l21 ?c21 ?k21 ?a22 ?l22 ?c22 ?k22 ?a23 ?l23 ?c23 ?k23 ?a24 ?l24 ?c24 ?k24 ?a25 ?l25 ?c25 ?k25 ?a26 ?l26 ?c26 ?k26 ?a27 ?l27 ?c27 ?k27 ?a28 ?l28 ?c28 ?k28 ?a29 ?l29 ?c29 ?k29 ?a30 ?l30 ?c30 ?k30 ?a31 ?l31 ?c31 ?k31 ?a32 ?l32 ?c32 ?k32 ?a33 ?l33 ?c33 ?k33 ?a34 ?l34 ?c34 ?k34 ?a35 ?l35 ?c35 ?k35 ?a36 ?l36 ?c36 ?k36 ?a37 ?l37 ?c37 ?k37 ?a38 ?l38 ?c38 ?k38 ?a39 ?l39 ?c39 ?k39 ?a40 ?l40 ?c40 ?k40 ?a41 ?l41 ?c41 ?k41 ?a42 ?l42 ?c42 ?k42 ?a43 ?l43 ?c43 ?k43 ?a44 ?l44 ?c44 ?k44 ?a45 ?l45 ?c45 ?k45 ?a46 ?l46 ?c46 ?k46 ?co46 ?cp46 ?cn46 ?a47 ?l47 ?c47 ?k47 ?co47 ?cp47 ?cn47 ?a48 ?l48 ?c48 ?k48 ?gCR ?eCR ?kpCR ?sbCR ?tyCR ?gaCR ?gtCR ?hdCR ?clCR ?mrCR ?gCD ?eCD ?kpCD ?sbCD ?tyCD ?gaCD ?gtCD ?hdCD ?clCD ?mrCD ?gCB ?eCB ?kpCB ?sbCB ?tyCB ?gaCB ?gtCB ?hdCB ?clCB ?mrCB ?gCP ?eCP ?kpCP ?sbCP ?tyCP ?gaCP ?gtCP ?hdCP ?clCP ?mrCP ?sn ?tk ?sCD ?sCB ?sCP ?gCM ?xCM ?rvM ?kpCM ?sbCM ?tyCM ?gaCM ?gtCM ?hdCM ?clCM ?mrCM ?saCM ?iM ?tI ?lI ?cI ?cellI ?coI ?viI ?hfI ?icM ?suM ?opM ?waM ?ivM ?topM ?frM ?sCM ?gD1 ?hD1 ?litD1 ?lowD1 ?tabD1 ?gD3 ?hD3 ?litD3 ?lowD3 ?tabD3 ?gD2 ?hD2 ?vD2 ?gD4 ?hD4 ?vD4 ?nTE ?gKB ?pgKB ?hdKB ?poKB ?saKB ?caKB ?mrKB ?mkKB ?inKB ?fnKB ?kpKB ?kiKB ?liKB ?ciKB ?n0KB ?n1KB ?n2KB ?n3KB ?n4KB ?gKT ?pgKT ?hdKT ?poKT ?saKT ?caKT ?mrKT ?mkKT ?inKT ?fnKT ?kpKT ?kiKT ?liKT ?ciKT ?n0KT ?n1KT ?gKN ?pgKN ?hdKN ?poKN ?saKN ?caKN ?mrKN ?mkKN ?inKN ?fnKN ?kpKN ?kiKN ?liKN ?ciKN ?n0KN ?n1KN ?n2KN ?hdT ?vdT ?hE0 ?vE0 ?aFr ?lFr ?cFr ?kFr ?hdF ?vdF ?kIN ?n_t1 ?n_t2 ?n_t3 ?n_t4 ?b_gcd ?z_isinstance ?z_int ?z_bool ?z_str ?z_len ?z_all ?z_tuple ?z_list ?z_sorted ?z_abs ?z_range ?z_repr ?z_min ?z_enumerate ?z_dict ?z_super
    (case a0 => k_is)
    (case l0 => k_is)
    (case c0 => k_is)
    (case k0 => k_is)
    (case a1 => k_is)
    (case l1 => k_is)
    (case c1 => k_is)
    (case k1 => k_is)
    (case a2 => k_is)
    (case l2 => k_is)
    (case c2 => k_is)
    (case k2 => k_is)
    (case a3 => k_is)
    (case l3 => k_is)
    (case c3 => k_is)
    (case k3 => k_is)
    (case a4 => k_is)
    (case l4 => k_is)
    (case c4 => k_is)
    (case k4 => k_is)
    (case a5 => k_is)
    (case l5 => k_is)
    (case c5 => k_is)
    (case k5 => k_is)
    (case a6 => k_is)
    (case l6 => k_is)
    (case c6 => k_is)
    (case k6 => k_is)
    (case a7 => k_is)
    (case l7 => k_is)
    (case c7 => k_is)
    (case k7 => k_is)
    (case a8 => k_is)
    (case l8 => k_is)
    (case c8 => k_is)
    (case k8 => k_is)
    (case a9 => k_is)
    (case l9 => k_is)
    (case c9 => k_is)
    (case k9 => k_is)
    (case a10 => k_is)
    (case l10 => k_is)
    (case c10 => k_is)
    (case k10 => k_is)
    (case a11 => k_is)
    (case l11 => k_is)
    (case c11 => k_is)
    (case k11 => k_is)
    (case a12 => k_is)
    (case l12 => k_is)
    (case c12 => k_is)
    (case k12 => k_is)
    (case a13 => k_is)
    (case l13 => k_is)
    (case c13 => k_is)
    (case k13 => k_is)
    (case a14 => k_is)
    (case l14 => k_is)
    (case c14 => k_is)
    (case k14 => k_is)
    (case a15 => k_is)
    (case l15 => k_is)
    (case c15 => k_is)
    (case k15 => k_is)
    (case a16 => k_is)
    (case l16 => k_is)
    (case c16 => k_is)
    (case k16 => k_is)
    (case a17 => k_is)
    (case l17 => k_is)
    (case c17 => k_is)
    (case k17 => k_is)
    (case a18 => k_is)
    (case l18 => k_is)
    (case c18 => k_is)
    (case k18 => k_is)
    (case a19 => k_is)
    (case l19 => k_is)
    (case c19 => k_is)
    (case k19 => k_is)
    (case a20 => k_is)
    (case l20 => k_is)
    (case c20 => k_is)
    (case k20 => k_is)
    (case a21 => k_is)
    (case l21 => k_is)
    (case c21 => k_is)
    (case k21 => k_is)
    (case a22 => k_is)
    (case l22 => k_is)
    (case c22 => k_is)
    (case k22 => k_is)
    (case a23 => k_is)
    (case l23 => k_is)
    (case c23 => k_is)
    (case k23 => k_is)
    (case a24 => k_is)
    (case l24 => k_is)
    (case c24 => k_is)
    (case k24 => k_is)
    (case a25 => k_is)
    (case l25 => k_is)
    (case c25 => k_is)
    (case k25 => k_is)
    (case a26 => k_is)
    (case l26 => k_is)
    (case c26 => k_is)
    (case k26 => k_is)
    (case a27 => k_is)
    (case l27 => k_is)
    (case c27 => k_is)
    (case k27 => k_is)
    (case a28 => k_is)
    (case l28 => k_is)
    (case c28 => k_is)
    (case k28 => k_is)
    (case a29 => k_is)
    (case l29 => k_is)
    (case c29 => k_is)
    (case k29 => k_is)
    (case a30 => k_is)
    (case l30 => k_is)
    (case c30 => k_is)
    (case k30 => k_is)
    (case a31 => k_is)
    (case l31 => k_is)
    (case c31 => k_is)
    (case k31 => k_is)
    (case a32 => k_is)
    (case l32 => k_is)
    (case c32 => k_is)
    (case k32 => k_is)
    (case a33 => k_is)
    (case l33 => k_is)
    (case c33 => k_is)
    (case k33 => k_is)
    (case a34 => k_is)
    (case l34 => k_is)
    (case c34 => k_is)
    (case k34 => k_is)
    (case a35 => k_is)
    (case l35 => k_is)
    (case c35 => k_is)
    (case k35 => k_is)
    (case a36 => k_is)
    (case l36 => k_is)
    (case c36 => k_is)
    (case k36 => k_is)
    (case a37 => k_is)
    (case l37 => k_is)
    (case c37 => k_is)
    (case k37 => k_is)
    (case a38 => k_is)
    (case l38 => k_is)
    (case c38 => k_is)
    (case k38 => k_is)
    (case a39 => k_is)
    (case l39 => k_is)
    (case c39 => k_is)
    (case k39 => k_is)
    (case a40 => k_is)
    (case l40 => k_is)
    (case c40 => k_is)
    (case k40 => k_is)
    (case a41 => k_is)
    (case l41 => k_is)
    (case c41 => k_is)
    (case k41 => k_is)
    (case a42 => k_is)
    (case l42 => k_is)
    (case c42 => k_is)
    (case k42 => k_is)
    (case a43 => k_is)
    (case l43 => k_is)
    (case c43 => k_is)
    (case k43 => k_is)
    (case a44 => k_is)
    (case l44 => k_is)
    (case c44 => k_is)
    (case k44 => k_is)
    (case a45 => k_is)
    (case l45 => k_is)
    (case c45 => k_is)
    (case k45 => k_is)
    (case a46 => k_is)
    (case l46 => k_is)
    (case c46 => k_is)
    (case k46 => k_is)
    (case co46 => k_is)
    (case cp46 => exact rfl)
    (case cn46 => kernel_rfl)
    (case a47 => k_is)
    (case l47 => k_is)
    (case c47 => k_is)
    (case k47 => k_is)
    (case co47 => k_is)
    (case cp47 => exact rfl)
    (case cn47 => kernel_rfl)
    (case a48 => k_is)
    (case l48 => k_is)
    (case c48 => k_is)
    (case k48 => k_is)
    (case gCR => k_is)
    (case eCR => k_exc)
    (case kpCR => k_is)
    (case sbCR => k_is)
    (case tyCR => k_is)
    (case gaCR => k_is)
    (case gtCR => k_is)
    (case hdCR => k_is)
    (case clCR => k_is)
    (case mrCR => k_is)
    (case gCD => k_is)
    (case eCD => k_exc)
    (case kpCD => k_is)
    (case sbCD => k_is)
    (case tyCD => k_is)
    (case gaCD => k_is)
    (case gtCD => k_is)
    (case hdCD => k_is)
    (case clCD => k_is)
    (case mrCD => k_is)
    (case gCB => k_is)
    (case eCB => k_exc)
    (case kpCB => k_is)
    (case sbCB => k_is)
    (case tyCB => k_is)
    (case gaCB => k_is)
    (case gtCB => k_is)
    (case hdCB => k_is)
    (case clCB => k_is)
    (case mrCB => k_is)
    (case gCP => k_is)
    (case eCP => k_exc)
    (case kpCP => k_is)
    (case sbCP => k_is)
    (case tyCP => k_is)
    (case gaCP => k_is)
    (case gtCP => k_is)
    (case hdCP => k_is)
    (case clCP => k_is)
    (case mrCP => k_is)
    (case sn => k_is)
    (case tk => k_is)
    (case sCD => k_is)
    (case sCB => k_is)
    (case sCP => k_is)
    (case gCM => k_is)
    (case xCM => k_is)
    (case rvM => rfl)
    (case kpCM => k_is)
    (case sbCM => k_is)
    (case tyCM => k_is)
    (case gaCM => k_is)
    (case gtCM => k_is)
    (case hdCM => k_is)
    (case clCM => k_is)
    (case mrCM => k_is)
    (case saCM => k_is)
    (case iM => k_is)
    (case tI => k_is)
    (case lI => k_is)
    (case cI => k_is)
    (case cellI => k_is)
    (case coI => k_is)
    (case viI => exact rfl)
    (case hfI => decide +kernel)
    (case icM => k_is)
    (case suM => k_is)
    (case opM => k_is)
    (case waM => first | kernel_rfl | rfl)
    (case ivM => k_is)
    (case topM => rfl)
    (case frM => k_is)
    (case sCM => k_is)
    (case gD1 => k_is)
    (case hD1 => k_is)
    (case litD1 => exact ⟨⟨_, _, rfl, rfl⟩, ⟨⟨_, _, rfl, rfl⟩, ⟨⟨_, _, rfl, rfl⟩, ⟨⟨_, _, rfl, rfl⟩, ⟨⟨_, _, rfl, rfl⟩, ⟨⟨_, _, rfl, rfl⟩, ⟨⟨_, _, rfl, rfl⟩, ⟨⟨_, _, rfl, rfl⟩, ⟨⟨_, _, rfl, rfl⟩, ⟨⟨_, _, rfl, rfl⟩, ⟨⟨_, _, rfl, rfl⟩, True.intro⟩⟩⟩⟩⟩⟩⟩⟩⟩⟩⟩)
    (case lowD1 => rfl)
    (case tabD1 => rfl)
    (case gD3 => k_is)
    (case hD3 => k_is)
    (case litD3 => exact ⟨⟨_, _, rfl, rfl⟩, ⟨⟨_, _, rfl, rfl⟩, ⟨⟨_, _, rfl, rfl⟩, True.intro⟩⟩⟩)
    (case lowD3 => rfl)
    (case tabD3 => rfl)
    (case gD2 => k_is)
    (case hD2 => k_is)
    (case vD2 => exact .cons ⟨_, rfl⟩ (.cons ⟨_, rfl⟩ (.cons ⟨_, rfl⟩ (.cons ⟨_, rfl⟩ (.cons ⟨_, rfl⟩ (.nil))))))
    (case gD4 => k_is)
    (case hD4 => k_is)
    (case vD4 => exact .cons ⟨_, rfl⟩ (.cons ⟨_, rfl⟩ (.cons ⟨_, rfl⟩ (.cons ⟨_, rfl⟩ (.cons ⟨_, rfl⟩ (.nil))))))
    (case nTE => decide)
    (case gKB => k_is)
    (case pgKB => k_is)
    (case hdKB => k_is)
    (case poKB => k_is)
    (case saKB => k_is)
    (case caKB => k_is)
    (case mrKB => k_is)
    (case mkKB => k_is)
    (case inKB => k_is)
    (case fnKB => k_is)
    (case kpKB => k_is)
    (case kiKB => k_is)
    (case liKB => k_is)
    (case ciKB => k_is)
    (case n0KB => k_is)
    (case n1KB => k_is)
    (case n2KB => k_is)
    (case n3KB => k_is)
    (case n4KB => k_is)
    (case gKT => k_is)
    (case pgKT => k_is)
    (case hdKT => k_is)
    (case poKT => k_is)
    (case saKT => k_is)
    (case caKT => k_is)
    (case mrKT => k_is)
    (case mkKT => k_is)
    (case inKT => k_is)
    (case fnKT => k_is)
    (case kpKT => k_is)
    (case kiKT => k_is)
    (case liKT => k_is)
    (case ciKT => k_is)
    (case n0KT => k_is)
    (case n1KT => k_is)
    (case gKN => k_is)
    (case pgKN => k_is)
    (case hdKN => k_is)
    (case poKN => k_is)
    (case saKN => k_is)
    (case caKN => k_is)
    (case mrKN => k_is)
    (case mkKN => k_is)
    (case inKN => k_is)
    (case fnKN => k_is)
    (case kpKN => k_is)
    (case kiKN => k_is)
    (case liKN => k_is)
    (case ciKN => k_is)
    (case n0KN => k_is)
    (case n1KN => k_is)
    (case n2KN => k_is)
    (case hdT => k_is)
    (case vdT => exact .cons rfl .nil)
    (case hE0 => k_is)
    (case vE0 => exact .nil)
    (case aFr => k_is)
    (case lFr => k_is)
    (case cFr => k_is)
    (case kFr => k_is)
    (case hdF => k_is)
    (case vdF => exact .cons ⟨_, rfl⟩ .nil)
    (case kIN => (first | kernel_rfl | decide +kernel))
    (case n_t1 => k_is)
    (case n_t2 => k_is)
    (case n_t3 => k_is)
    (case n_t4 => k_is)
    (case b_gcd => k_is)
    (case z_isinstance => k_is)
    (case z_int => k_is)
    (case z_bool => k_is)
    (case z_str => k_is)
    (case z_len => k_is)
    (case z_all => k_is)
    (case z_tuple => k_is)
    (case z_list => k_is)
    (case z_sorted => k_is)
    (case z_abs => k_is)
    (case z_range => k_is)
    (case z_repr => k_is)
    (case z_min => k_is)
    (case z_enumerate => k_is)
    (case z_dict => k_is)
    (case z_super => k_is)
